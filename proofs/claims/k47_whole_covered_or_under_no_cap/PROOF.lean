import PyProof.Rows.All
import Wide.All
import OpenK.AllK
import Wide.FinOn
import Lean
import PyProof.EqAt
import PyProof.EqKinds
import PyProof.TupleCall
import PyProof.ZipIter
import PyProof.TupleIter
import PyProof.WalksMore
import PyProof.EnumMake
import PyProof.Draws
import PyProof.P3In
import KE.KSortTup
import PyProof.Rows.SortWalk
import KE.IntBitsLaws
import KE.KRevIter
import PyProof.TupleOfGen
import PySem.Challenge.RW_tokenmoor_k47_whole_covered_or_under_no
open PySem.W (Frag)
set_option Elab.async false
set_option linter.all false
set_option maxRecDepth 100000
theorem Z1 {p q:Prop} (a:p) (b:q):p/\q:=⟨a,b⟩
noncomputable section
local macro_rules | `(tactic| omega)=>`(tactic| first | with_reducible assumption | decide | lia)
set_option genSizeOf false
set_option genSizeOfSpec false
namespace L2
open PySem PySem.Spec PyProof.Rows
abbrev Key:=Sum Int Str
def tN:Key->Value->Bool
 | .inl k,v=>Value.isInt k v
 | .inr x,v=>Value.isStrOf x v
def keyH (w:World):Key->Int
 | .inl k=>hashInt k
 | .inr x=>hashStr w x
theorem t5:∀ {k:Key} {v:Value},tN k v=true->(∃ i t,k=Sum.inl i/\v=Value.int i t)\/(∃ x t,k=Sum.inr x/\v=Value.str x t)
 | .inl i,v,h=>by
  obtain ⟨t,e⟩:=Value.isInt_shape (k:=i) (v:=v) h
  exact .inl ⟨i,t,rfl,e⟩
 | .inr x,v,h=>by
  obtain ⟨t,e⟩:=Value.isStrOf_shape (x:=x) (v:=v) h
  exact .inr ⟨x,t,rfl,e⟩
theorem zT (a b:Int):decide ((Sum.inl a:Key)=Sum.inl b)=(a == b):=by
 by_cases e:a=b
 ·subst e; simp
 ·have h:¬ (Sum.inl a:Key)=Sum.inl b:=fun q=>e (Sum.inl.inj q)
  rw [decide_eq_false h]
  exact (beq_eq_false_iff_ne.mpr e).symm
theorem zQ (a b:Str):decide ((Sum.inr a:Key)=Sum.inr b)=decide (a=b):=by
 by_cases e:a=b
 ·subst e; simp
 ·have h:¬ (Sum.inr a:Key)=Sum.inr b:=fun q=>e (Sum.inr.inj q)
  rw [decide_eq_false h,decide_eq_false e]
theorem zS (a:Int) (b:Str):decide ((Sum.inl a:Key)=Sum.inr b)=false:=decide_eq_false (fun q=>nomatch q)
theorem zR (a:Str) (b:Int):decide ((Sum.inr a:Key)=Sum.inl b)=false:=decide_eq_false (fun q=>nomatch q)
def jT (prog:Program) (w:World):PySem.KeyKind prog w Key where
 is:=tN
 hash:=keyH w
 inj:=fun v a b ha hb=>by
  rcases t5 ha with ⟨i,t,rfl,rfl⟩ | ⟨x,t,rfl,rfl⟩
  ·rcases t5 hb with ⟨j,u,rfl,e⟩ | ⟨y,u,rfl,e⟩
   ·injection e with e1 _; rw [e1]
   ·exact nomatch e
  ·rcases t5 hb with ⟨j,u,rfl,e⟩ | ⟨y,u,rfl,e⟩
   ·exact nomatch e
   ·injection e with e1 _; rw [e1]
 byValue:=fun k v h=>by
  rcases t5 h with ⟨i,t,rfl,rfl⟩ | ⟨x,t,rfl,rfl⟩ <;> rfl
 pyHash:=fun hv h=>by
  rcases t5 hv with ⟨i,t,rfl,rfl⟩ | ⟨x,t,rfl,rfl⟩
  ·exact wpAny_pyHash_int h
  ·exact wpAny_pyHash_str h
 eqBool:=fun hu hv h=>by
  rcases t5 hu with ⟨i,t,rfl,rfl⟩ | ⟨x,t,rfl,rfl⟩
  ·rcases t5 hv with ⟨j,u,rfl,rfl⟩ | ⟨y,u,rfl,rfl⟩
   ·rw [zT] at h; exact wpAny_eqBool_int h
   ·rw [zS] at h; exact SeqAt.EqAt.int_str i t y u _ _ _ _ h
  ·rcases t5 hv with ⟨j,u,rfl,rfl⟩ | ⟨y,u,rfl,rfl⟩
   ·rw [zR] at h; exact SeqAt.EqAt.str_int x t j u _ _ _ _ h
   ·rw [zQ] at h; exact wpAny_eqBool_str h
 «strs»:=fun k x t v h=>by
  rcases t5 h with ⟨i,u,rfl,e⟩ | ⟨y,u,rfl,e⟩
  ·exact nomatch e
  ·injection e with e1 _
   subst e1
   cases v <;> rfl
end L2
namespace L2
open PySem PySem.Spec PyProof.Rows
inductive V where
 | non | bl (b:Bool) | int (i:Int) | str (x:Str) | byt (b:Array UInt8) | flt (b:UInt64) | ref (a:Addr) | ty (n:String)
 deriving DecidableEq
def RelV:V->Value->Prop
 | .non,u=>u=Value.none
 | .bl b,u=>u=Value.bool b
 | .int i,u=>∃ t,u=Value.int i t
 | .str x,u=>∃ t,u=Value.str x t
 | .byt b,u=>∃ t,u=Value.bytes b t
 | .flt b,u=>∃ t,u=Value.float b t
 | .ref a,u=>u=Value.ref a
 | .ty n,u=>u=Value.type n
abbrev Vals:List V->List Value->Prop:=Paired RelV
theorem Vals.length {xs:List V} {us:List Value} (r:Vals xs us):xs.length=us.length:=Paired.length r
theorem Vals.get:∀ {xs:List V} {us:List Value} {i:Nat} {x:V},Vals xs us->xs[i]?=some x->∃ u,us[i]?=some u/\RelV x u:=by
 intro xs us i x a
 induction a generalizing i with
 | nil=>intro e; cases e
 | cons r t ih=>
  intro e
  cases i with
  | zero=>cases e; exact ⟨_,rfl,r⟩
  | succ i=>exact ih e
theorem Vals.set {x:V} {u:Value} (r:RelV x u):∀ {xs:List V} {us:List Value} (i:Nat),Vals xs us->Vals (xs.set i x) (us.set i u):=by
 intro xs us i h
 induction h generalizing i with
 | nil=>exact .nil
 | cons q t ih=>
  cases i with
  | zero=>exact .cons r t
  | succ i=>exact .cons q (ih i)
theorem Vals.append:∀ {xs ys:List V} {us ws:List Value},Vals xs us->Vals ys ws->Vals (xs++ys) (us++ws):=by
 intro xs ys us ws a s
 induction a with
 | nil=>exact s
 | cons r t ih=>exact .cons r ih
theorem Vals.take:∀ {xs:List V} {us:List Value} (n:Nat),Vals xs us->Vals (xs.take n) (us.take n):=by
 intro xs us n h
 induction h generalizing n with
 | nil=>cases n <;> exact .nil
 | cons r t ih=>
  cases n with
  | zero=>exact .nil
  | succ n=>exact .cons r (ih n)
theorem Vals.drop:∀ {xs:List V} {us:List Value} (n:Nat),Vals xs us->Vals (xs.drop n) (us.drop n)
 | _,_,0,r=>r
 | _,_,_+1,.nil=>.nil
 | _,_,n+1,.cons _ t=>Vals.drop n t
def sT:Option V->Option Value->Prop
 | some v,some u=>RelV v u
 | none,none=>True
 | _,_=>False
def KV {κ:Type}:List (κ×V)->List (κ×Value)->Prop:=Paired fun (p:κ×V) (q:κ×Value)=>p.1=q.1/\RelV p.2 q.2
def kV:Key->V
 | .inl i=>.int i
 | .inr x=>.str x
inductive HO where
 | lst (xs:List V)
 | tup (xs:List V)
 | dK (EQ:List (Key×V)) | dT (EQ:List (List Key×V))
 | set (S:Int->Bool) (n:Nat)
 | ins (C dx:Addr) (fs:List (Str×V))
 | own (x:Addr)
 | xd (fs:List (Str×V))
 | met (f x:Addr)
 | rng (lo hi:Int)
 | frz (o:Obj) (u:HO)
 | tbl (ps:Array Value)
 | ext (φ:Heap->Prop)
abbrev Hp:=Addr->Option HO
def upd (H:Hp) (a:Addr) (o:HO):Hp:=fun b=>if b=a then some o else H b
theorem j6 {H:Hp} {a:Addr} {o:HO}:upd H a o a=some o:=by unfold upd; rw [if_pos rfl]
theorem b8 {H:Hp} {a b:Addr} {o:HO} (h:b≠a):upd H a o b=H b:=by unfold upd; rw [if_neg h]
theorem c7 {H:Hp} {a b:Addr} {o:HO} (h:H a=some o) (h':H b=none):a≠b:=by
 intro e; subst e; rw [h] at h'; cases h'
section
variable (P:Program) (w:World)
def ObjOk (H:Hp) (h:Heap) (a:Addr):HO->Prop
 | .lst xs=>xs.length<=sizeLine/\∃ (its:List Value) (n:Nat),Vals xs its/\h.get? a=some { cls:=.type "list",data:=.seq its.toArray n }
 | .tup xs=>xs.length<=sizeLine/\∃ its:List Value,Vals xs its/\IsTup h a its.toArray
 | .dK EQ=>EQ.length<=sizeLine/\(a == sysModules)=false/\∃ vs,KV EQ vs/\h.DictOf (jT P w) a vs
 | .dT EQ=>EQ.length<=sizeLine/\(a == sysModules)=false/\∃ xs:List (List Key×Addr×Value),
   Paired (fun (p:List Key×V) (q:List Key×Addr×Value)=>p.1=q.1/\H q.2.1=some (.tup (p.1.map kV))/\RelV p.2 q.2.2) EQ xs /\
   ∃ o es ep,h.get? a=some o/\o.ExactDict/\o.data=.dict es ep/\es.toList=xs.map (entryOfKey (tupleKind (jT P w)))/\(xs.map (·.1)).Nodup
 | .set S n=>h.SetOf (intKind P w) a S n
 | .ins C dx fs=>H dx=some (.own a)/\fs.length<=1000/\dx≠a/\h.get? a=some (PySem.W.instObj C dx) /\
   ∃ mA,h.Ns1 dx mA/\(∀ f,sT (fs.lookup f) (mA f))/\PySem.Within mA (fs.map (·.1))
 | .own _=>∃ o,h.get? a=some o
 | .xd fs=>∃ mA,h.Ns1 a mA/\∀ f,sT (fs.lookup f) (mA f)
 | .rng lo hi=>∃ t u v,h.get? a=some { cls:=.type "range",data:=.fields #[.int lo t,.int hi u,.int 1 v] }
 | .frz o u=>h.get? a=some o/\ObjOk H h a u
 | .tbl ps=>h.get? a=some { cls:=.none,data:=.fields ps }
 | .met f x=>h.get? a=some (PySem.W.methodObj (.ref f) (.ref x))
 | .ext φ=>φ h/\(∃ o,h.get? a=some o)/\∀ h1 h2:Heap,φ h1->(∀ o,h1.get? a=some o->h2.get? a=some o)->φ h2
def HOk (H:Hp) (h:Heap):Prop:=∀ a o,H a=some o->ObjOk P w H h a o
end
section
variable {P:Program} {w:World} {H H':Hp} {h h':Heap} {a:Addr} {o:HO}
theorem ObjOk.lt (x:ObjOk P w H h a o):a<h.objs.size:=by
 cases o with
 | lst xs=>obtain ⟨_,_,_,_,e⟩:=x; exact Heap.lt_size e
 | tup xs=>obtain ⟨_,_,_,p⟩:=x; exact p.lt
 | dK EQ=>obtain ⟨_,_,_,_,o,_,_,e,_⟩:=x; exact Heap.lt_size e
 | dT EQ=>obtain ⟨_,_,_,_,o,_,_,e,_⟩:=x; exact Heap.lt_size e
 | set S n=>obtain ⟨o,_,_,_,e,_⟩:=x; exact Heap.lt_size e
 | ins C dx fs=>obtain ⟨_,_,_,e,_⟩:=x; exact Heap.lt_size e
 | own y=>obtain ⟨_,e⟩:=x; exact Heap.lt_size e
 | xd fs=>obtain ⟨_,⟨_,_,_,e,_⟩,_⟩:=x; exact Heap.lt_size e
 | rng lo hi=>obtain ⟨_,_,_,e⟩:=x; exact Heap.lt_size e
 | frz ob u=>obtain ⟨e,_⟩:=x; exact Heap.lt_size e
 | tbl ps=>exact Heap.lt_size (show h.get? a=some _ from x)
 | met f y=>exact Heap.lt_size (show h.get? a=some _ from x)
 | ext φ=>obtain ⟨_,⟨_,e⟩,_⟩:=x; exact Heap.lt_size e
theorem Paired.mapP {α β:Type} {F G:α->β->Prop}:∀ {l₁:List α} {l₂:List β},Paired F l₁ l₂->(∀ a b,F a b->G a b)->Paired G l₁ l₂:=by
 intro l₁ l₂ h f
 induction h with
 | nil=>exact .nil
 | cons r t ih=>exact .cons (f _ _ r) ih
theorem ObjOk.stay (x:ObjOk P w H h a o) (k:∀ b u,(b=a\/H b=some (.own a))->h.get? b=some u->h'.get? b=some u)
  (ho:∀ b,H b=some (.own a)->H' b=some (.own a)) (ht:∀ b xs,H b=some (.tup xs)->H' b=some (.tup xs)):ObjOk P w H' h' a o:=by
 induction o with
 | lst xs=>obtain ⟨z,its,n,r,e⟩:=x; exact ⟨z,its,n,r,k _ _ (.inl rfl) e⟩
 | tup xs=>obtain ⟨z,its,r,ob,e,c⟩:=x; exact ⟨z,its,r,ob,k _ _ (.inl rfl) e,c⟩
 | dK EQ=>obtain ⟨z,y,vs,r,ob,es,ep,e,c⟩:=x; exact ⟨z,y,vs,r,ob,es,ep,k _ _ (.inl rfl) e,c⟩
 | dT EQ=>
  obtain ⟨z,y,xs,r,ob,es,ep,e,c⟩:=x
  exact ⟨z,y,xs,Paired.mapP r fun p q z=>⟨z.1,ht _ _ z.2.1,z.2.2⟩,ob,es,ep,k _ _ (.inl rfl) e,c⟩
 | set S n=>obtain ⟨ob,es,ep,t,e,c⟩:=x; exact ⟨ob,es,ep,t,k _ _ (.inl rfl) e,c⟩
 | ins C dx fs=>
  obtain ⟨d,z,ne,e,mA,⟨od,es,ep,e2,c⟩,r⟩:=x
  exact ⟨ho _ d,z,ne,k _ _ (.inl rfl) e,mA,⟨od,es,ep,k _ _ (.inr d) e2,c⟩,r⟩
 | own y=>obtain ⟨ob,e⟩:=x; exact ⟨ob,k _ _ (.inl rfl) e⟩
 | xd fs=>obtain ⟨mA,⟨od,es,ep,e,c⟩,r⟩:=x; exact ⟨mA,⟨od,es,ep,k _ _ (.inl rfl) e,c⟩,r⟩
 | rng lo hi=>obtain ⟨t,u,v,e⟩:=x; exact ⟨t,u,v,k _ _ (.inl rfl) e⟩
 | frz ob u ih=>obtain ⟨e,q⟩:=x; exact ⟨k _ _ (.inl rfl) e,ih q⟩
 | tbl ps=>
  have e:h.get? a=some { cls:=.none,data:=.fields ps }:=x
  show h'.get? a=some { cls:=.none,data:=.fields ps }
  exact k a _ (.inl rfl) e
 | met f y=>
  have e:h.get? a=some (PySem.W.methodObj (.ref f) (.ref y)):=x
  show h'.get? a=some (PySem.W.methodObj (.ref f) (.ref y))
  exact k a _ (.inl rfl) e
 | ext φ=>obtain ⟨p,⟨o,e⟩,st⟩:=x; exact ⟨st _ _ p fun o q=>k _ _ (.inl rfl) q,⟨o,k _ _ (.inl rfl) e⟩,st⟩
theorem HOk.lt (x:HOk P w H h) (e:H a=some o):a<h.objs.size:=(x a o e).lt
theorem HOk.fresh (x:HOk P w H h) (e:h.objs.size<=a):H a=none:=by
 cases q:H a with
 | none=>rfl
 | some u=>exact absurd (Nat.lt_of_lt_of_le (x.lt q) e) (Nat.lt_irrefl _)
theorem HOk.kept (x:HOk P w H h) (k:∀ b u,h.get? b=some u->h'.get? b=some u):HOk P w H h':=fun a o e=>
 (x a o e).stay (fun b u _ q=>k b u q) (fun _ q=>q) fun _ _ q=>q
theorem HOk.laid (x:HOk P w H h) (k:∀ b u,h.get? b=some u->h'.get? b=some u) (hp:h.objs.size<=a) (new:ObjOk P w (upd H a o) h' a o):HOk P w (upd H a o) h':=fun b u e=>by
 have hn:=x.fresh hp
 by_cases hb:b=a
 ·subst hb; rw [j6] at e; cases e; exact new
 ·rw [b8 hb] at e
  exact (x b u e).stay (fun c v _ q=>k c v q) (fun c q=>by rw [b8 (c7 q hn)]; exact q) fun c xs q=>by rw [b8 (c7 q hn)]; exact q
end
def Rd (H:Hp) (a:Addr) (u:HO):Prop:=H a=some u\/∃ o,H a=some (.frz o u)
theorem Rd.ok {P:Program} {w:World} {H:Hp} {h:Heap} {a:Addr} {u:HO} (r:Rd H a u) (x:HOk P w H h):ObjOk P w H h a u:=by
 rcases r with r | ⟨o,r⟩
 ·exact x a u r
 ·obtain ⟨_,q⟩:=x a _ r
  exact q
def Mut:Option HO->Prop
 | some (.lst _)=>True
 | some (.dK _)=>True
 | some (.dT _)=>True
 | some (.set _ _)=>True
 | some (.ins _ _ _)=>True
 | some (.ext _)=>True
 | _=>False
section
variable {P:Program} {w:World} {H:Hp} {h h':Heap} {x e:Addr} {o':HO}
theorem HOk.write (ok:HOk P w H h) (mu:Mut (H x)) (he:e=x\/H e=some (.own x)) (k:∀ b u,b≠e->h.get? b=some u->h'.get? b=some u) (HN:∃ u,h'.get? e=some u)
  (new:ObjOk P w (upd H x o') h' x o'):HOk P w (upd H x o') h':=fun b u q=>by
 have HW:∀ c y,H c=some (.own y)->c≠x:=fun c y r z=>by subst z; rw [r] at mu; exact mu
 have ntup:∀ c xs,H c=some (.tup xs)->c≠x:=fun c xs r z=>by subst z; rw [r] at mu; exact mu
 by_cases hb:b=x
 ·subst hb; rw [j6] at q; cases q; exact new
 ·rw [b8 hb] at q
  by_cases GL:b=e
  ·have q':H b=some (.own x):=by
    rcases he with z | z
    ·exact absurd (GL.trans z) hb
    ·rw [GL]; exact z
   rw [q] at q'; cases q'
   obtain ⟨v,hv⟩:=HN
   exact ⟨v,by rw [GL]; exact hv⟩
  ·refine (ok b u q).stay (fun c v hc r=>k c v ?_ r) (fun c r=>by rw [b8 (HW c b r)]; exact r) fun c xs r=>by rw [b8 (ntup c xs r)]; exact r
   rcases hc with rfl | hc
   ·exact GL
   ·rintro rfl
    rcases he with z | z
    ·exact HW c b hc z
    ·rw [hc] at z; cases z; exact hb rfl
end
structure Un (fs ex:List Addr) (H H':Hp) (h h':Heap):Prop where
 keep:∀ b o,h.get? b=some o->H b=none->b∉fs->b∉ex->h'.get? b=some o
 slot:∀ b o,h.get? b=some o->H b=none->b∈fs->b∉ex->∃ sl,h'.get? b=some { o with slots:=sl }
 free:∀ b o,h.get? b=some o->H b=none->b∉ex->H' b=none
 there:∀ b o,h.get? b=some o->b∉ex->∃ o',h'.get? b=some o'
 tups:∀ b xs,H b=some (.tup xs)->H' b=some (.tup xs)
 frzs:∀ b o u,H b=some (.frz o u)->H' b=some (.frz o u)
 tbls:∀ b ps,H b=some (.tbl ps)->∃ more,H' b=some (.tbl (ps++more))
section
variable {fs fs' ex ex':List Addr} {H H1 H2:Hp} {h h1 h2 h':Heap} {a x e:Addr} {o:HO}
theorem Un.any (u:Un fs ex H H1 h h1) {b:Addr} {ob:Obj} (q:h.get? b=some ob) (n:H b=none) (hx:b∉ex):∃ sl,h1.get? b=some { ob with slots:=sl }:=by
 by_cases hb:b∈fs
 ·exact u.slot b ob q n hb hx
 ·exact ⟨ob.slots,u.keep b ob q n hb hx⟩
theorem Un.kept (k:∀ b u,h.get? b=some u->h'.get? b=some u):Un fs ex H H h h':=
 ⟨fun b ob q _ _ _=>k b ob q,fun b ob q _ _ _=>⟨ob.slots,k b ob q⟩,fun _ _ _ n _=>n,fun b ob q _=>⟨ob,k b ob q⟩,fun _ _ q=>q,fun _ _ _ q=>q,fun _ ps q=>⟨#[],by rw [q]; simp⟩⟩
theorem Un.refl:Un fs ex H H h h:=Un.kept fun _ _ q=>q
theorem Un.laid (k:∀ b u,h.get? b=some u->h'.get? b=some u) (hp:h.objs.size<=a) (hn:H a=none):Un fs ex H (upd H a o) h h' where
 keep:=fun b u q _ _ _=>k b u q
 slot:=fun b u q _ _ _=>⟨u.slots,k b u q⟩
 free:=fun b u q n _=>by rw [b8 (Nat.ne_of_lt (Nat.lt_of_lt_of_le (Heap.lt_size q) hp))]; exact n
 there:=fun b u q _=>⟨u,k b u q⟩
 tups:=fun b xs q=>by rw [b8 (c7 q hn)]; exact q
 frzs:=fun b u xs q=>by rw [b8 (c7 q hn)]; exact q
 tbls:=fun b ps q=>⟨#[],by rw [b8 (c7 q hn),q]; simp⟩
theorem Un.write (mu:Mut (H x)) (he:e=x\/H e=some (.own x)) (k:∀ b u,b≠e->h.get? b=some u->h'.get? b=some u) (HN:∃ u,h'.get? e=some u):Un fs ex H (upd H x o) h h':=by
 have hx:∀ b,H b=none->b≠x:=fun b n z=>by subst z; rw [n] at mu; exact mu
 have hb:∀ b,H b=none->b≠e:=fun b n z=>by
  subst z
  rcases he with r | r
  ·exact hx b n r
  ·rw [n] at r; cases r
 have hm:∀ b u,H b=some u->¬ Mut (some u)->b≠x:=fun b u q nm z=>by subst z; rw [q] at mu; exact nm mu
 refine ⟨fun b u q n _ _=>k b u (hb b n) q,fun b u q n _ _=>⟨u.slots,k b u (hb b n) q⟩,fun b u q n _=>by rw [b8 (hx b n)]; exact n,fun b u q _=>?_,
  fun b xs q=>by rw [b8 (hm b _ q fun z=>z)]; exact q,fun b u xs q=>by rw [b8 (hm b _ q fun z=>z)]; exact q,fun b ps q=>⟨#[],by rw [b8 (hm b _ q fun z=>z),q]; simp⟩⟩
 by_cases GL:b=e
 ·subst GL; exact HN
 ·exact ⟨u,k b u GL q⟩
end
def trk (h:Heap) (H:Hp):List Addr:=(List.range h.objs.size).filter fun a=>(H a).isSome
def ai (h:Heap) (H:Hp):Heap:=PySem.W.hideAll h (trk h H)
theorem oT (h:Heap) (H:Hp):(ai h H).objs.size=h.objs.size:=PySem.W.hideAll_size _ _
theorem rX {h:Heap} {H:Hp} {b:Addr} {o:Obj} (e:h.get? b=some o) (n:H b=none):(ai h H).get? b=some o:=
 PySem.W.hideAll_get _ e fun hm=>by
  have q:(H b).isSome=true:=(List.mem_filter.mp hm).2
  rw [n] at q; simp at q
theorem vt {h:Heap} {H:Hp} {b:Addr} {o:Obj} (e:(ai h H).get? b=some o):h.get? b=some o/\H b=none:=by
 have e':h.get? b=some o:=PySem.W.of_hideAll (trk h H) e
 refine ⟨e',?_⟩
 cases q:H b with
 | none=>rfl
 | some x=>
  have hm:b∈trk h H:=List.mem_filter.mpr ⟨List.mem_range.mpr (Heap.lt_size e'),by simp [q]⟩
  have z:(ai h H).get? b=none:=PySem.W.hideAll_none (trk h H) hm
  rw [z] at e; cases e
def xa (g h:Heap) (L:Addr):List (Addr×Obj):=(List.range h.objs.size).filterMap fun a=>if a=L\/(g.get? a).isSome=true then none else (h.get? a).map fun o=>(a,o)
def rest (g h:Heap) (L d:Addr):List (Addr×Obj):=(xa g h L).filter fun p=>decide (p.1≠d)
end L2
namespace L2
open PySem PySem.Spec PyProof.Rows
structure Mod (K:Frag) (mg:Str->Option Value) (base:Heap):Prop where
 kin:K.In base
 glob:base.Ns mainGlobals mg
 blt:∃ mb,base.Ns builtinsNs mb/\∀ x:Str,x ≠ "__name__" -> mb x=bootBuiltins x
 nolimit:base.NoLimit
structure Cx where
 prog:Program
 w:World
 K:Frag
 mg:Str->Option Value
 base:Heap
 A:Around
 N:List Str
 s₀:Shared
 H₀:Hp
 env:Env
 outer:List Env
 stack:List Env
 ex:List Addr
 fn:Str->Bool
 calm:Bool
 pn:List (Addr×Obj)
 xe:Value->Shared->Prop
def frs (l:List Env):List Addr:=l.filterMap (·.frame)
abbrev Cx.fs (X:Cx):List Addr:=frs X.outer
def Vis (sc:Scope) (x:Str):Prop:=sc.names.lookup x=some .local\/sc.names.lookup x=some .cell\/sc.names.lookup x=some .free
def Loc (sc:Scope) (x:Str):Prop:=sc.names.lookup x=some .local\/sc.names.lookup x=some .cell
def Look (env:Env) (h:Heap) (m:Str->Option Value) (x:Str) (u:Value):Prop:=
 (env.kindOf x=some .local/\m x=some u)\/((env.kindOf x=some .cell\/env.kindOf x=some .free)/\∃ c,env.cells.lookup x=some c/\h.IsCell c (some u))
structure Cx.Ok (X:Cx):Prop where
 mod:Mod X.K X.mg X.base
 kind:X.env.scope.kind=.function
 glob:X.env.globals=mainGlobals
 blt:X.env.builtins=builtinsNs
 above:X.s₀.heap.objs.size<=X.env.locals
 inj:∀ x y c,X.env.cells.lookup x=some c->X.env.cells.lookup y=some c->x=y
 has:∀ x,(X.env.kindOf x=some .cell\/X.env.kindOf x=some .free)->∃ c,X.env.cells.lookup x=some c
 cab:∀ x c,X.fn x=true->X.env.cells.lookup x=some c->X.s₀.heap.objs.size<=c
 hd:X.calm=true->X.A.handled=none
 frames:X.A.frames=some X.stack
 stk:X.stack=X.outer\/(X.stack=X.env::X.outer/\X.env.frame=some X.env.locals)
 exf:∀ b∈X.ex,b≠X.env.locals/\∀ x c,X.env.cells.lookup x=some c->c≠b
 bs:∀ b o,X.base.get? b=some o->X.s₀.heap.get? b=some o/\X.H₀ b=none
 bsz:X.base.objs.size<=X.s₀.heap.objs.size
 noex:∀ b o,X.base.get? b=some o->b∉X.ex
 exfs:∀ b∈X.ex,b∉X.fs
 funs:X.s₀.heap.FunFrames X.base X.outer
 frf:∀ b∈X.fs,X.H₀ b=none
structure Inv (X:Cx) (pins:List (Addr×Obj)) (σ:List (Option V)) (H:Hp) (s:Shared):Prop where
 ok:X.Ok
 os:s.os=X.s₀.os
 bare:AllBare s.gens
 base:Un X.fs X.ex X.H₀ H X.s₀.heap s.heap
 loc:∃ m,s.heap.Ns X.env.locals m/\∀ (i:Nat) (x:Str) (v:V),X.N[i]?=some x->σ[i]?=some (some v)->Vis X.env.scope x->∃ u,RelV v u/\Look X.env s.heap m x u
 cell:∀ x c,X.env.cells.lookup x=some c->∃ v,s.heap.IsCell c v
 free:H X.env.locals=none
 freeC:∀ x c,X.env.cells.lookup x=some c->H c=none
 pin:∀ p∈X.pn++pins,s.heap.get? p.1=some p.2/\H p.1=none/\p.1≠X.env.locals/\p.1∉X.fs/\∀ v,p.2.data≠.cell v
 hok:HOk X.prog X.w H s.heap
 len:σ.length=X.N.length
section
variable {X:Cx} {pins:List (Addr×Obj)} {σ:List (Option V)} {H H':Hp} {s:Shared} {h':Heap}
theorem Cx.Ok.nofr (ok:X.Ok) {b:Addr} {o:Obj} (e:X.base.get? b=some o):b∉X.fs:=fun hb=>by
 have:=(ok.funs.mem hb).1
 rw [e] at this; cases this
theorem Inv.bs (I:Inv X pins σ H s):∀ b o,X.base.get? b=some o->s.heap.get? b=some o/\H b=none:=fun b o e=>
 ⟨I.base.keep b o (I.ok.bs b o e).1 (I.ok.bs b o e).2 (I.ok.nofr e) (I.ok.noex b o e),I.base.free b o (I.ok.bs b o e).1 (I.ok.bs b o e).2 (I.ok.noex b o e)⟩
theorem Inv.bk (I:Inv X pins σ H s):∀ b o,X.base.get? b=some o->s.heap.get? b=some o:=fun b o e=>(I.bs b o e).1
theorem Inv.mod (I:Inv X pins σ H s):Mod X.K X.mg X.base:=I.ok.mod
theorem Inv.kIn (I:Inv X pins σ H s):X.K.In s.heap:=I.ok.mod.kin.keeps I.bk
theorem Inv.lt (I:Inv X pins σ H s):X.env.locals<s.heap.objs.size:=let ⟨_,hn,_⟩:=I.loc; hn.lt
theorem Inv.sz (I:Inv X pins σ H s):X.s₀.heap.objs.size<=s.heap.objs.size:=Nat.le_trans I.ok.above (Nat.le_of_lt I.lt)
theorem Inv.nofs (I:Inv X pins σ H s) {a:Addr} (h:s.heap.objs.size<=a):a∉X.fs:=fun hb=>by
 obtain ⟨_,o,ho,_⟩:=I.ok.funs.mem hb
 exact absurd (Nat.lt_of_lt_of_le (Heap.lt_size ho) (Nat.le_trans I.sz h)) (Nat.lt_irrefl _)
theorem Inv.cne (I:Inv X pins σ H s):∀ x c,X.env.cells.lookup x=some c->c≠X.env.locals:=fun x c e z=>by
 obtain ⟨v,o,ho,hd⟩:=I.cell x c e
 obtain ⟨m,⟨o',es,ep,FM,HP,_⟩,_⟩:=I.loc
 rw [z,FM] at ho; cases ho; rw [HP] at hd; cases hd
theorem Inv.funs (I:Inv X pins σ H s):s.heap.FunFrames X.base X.outer:=by
 have all:∀ (l:List Env),(∀ b∈frs l,b∈X.fs)->X.s₀.heap.FunFrames X.base l->s.heap.FunFrames X.base l:=by
  intro l
  induction l with
  | nil=>intro _ _; trivial
  | cons env r ih=>
   intro hs hl
   obtain ⟨hk,⟨L,o,hf,hn,ho,hd⟩,hr⟩:=hl
   have hL:L∈X.fs:=hs L (by unfold frs; rw [List.filterMap_cons,hf]; exact List.mem_cons_self)
   obtain ⟨sl,e⟩:=I.base.slot L o ho (I.ok.frf L hL) hL fun z=>I.ok.exfs L z hL
   exact ⟨hk,⟨L,_,hf,hn,e,hd⟩,ih (fun b hb=>hs b (by unfold frs; rw [List.filterMap_cons,hf]; exact List.mem_cons_of_mem _ hb)) hr⟩
 exact all X.outer (fun _ hb=>hb) I.ok.funs
theorem Inv.stack (I:Inv X pins σ H s):s.heap.FunFrames X.base X.stack:=by
 rcases I.ok.stk with e | ⟨e,hf⟩
 ·rw [e]; exact I.funs
 ·rw [e]
  obtain ⟨m,hn,_⟩:=I.loc
  refine .cons (by rw [I.ok.kind]; decide) hf hn ?_ I.funs
  exact Heap.get?_none_of_le (Nat.le_trans I.ok.bsz I.ok.above)
theorem Inv.stkSub (I:Inv X pins σ H s):∀ b∈frs X.stack,b∈X.env.locals::X.fs:=fun b hb=>by
 rcases I.ok.stk with e | ⟨e,hf⟩
 ·rw [e] at hb; exact List.mem_cons_of_mem _ hb
 ·rw [e] at hb
  unfold frs at hb
  rw [List.filterMap_cons,hf] at hb
  exact hb
theorem Inv.stkFree (I:Inv X pins σ H s):∀ b∈frs X.stack,H b=none:=fun b hb=>by
 rcases List.mem_cons.mp (I.stkSub b hb) with e | hb
 ·rw [e]; exact I.free
 ·obtain ⟨_,o,ho,_⟩:=I.ok.funs.mem hb
  exact I.base.free b o ho (I.ok.frf b hb) fun z=>I.ok.exfs b z hb
theorem Inv.step {g':Array GenState} {t':Nat} {d':Drawn} {ch:List Addr} (I:Inv X pins σ H s)
  (GC:∀ b∈ch,(b∈X.ex\/X.s₀.heap.objs.size<=b)/\b≠X.env.locals/\(∀ x c,X.env.cells.lookup x=some c->c≠b)/\∀ p∈X.pn++pins,p.1≠b)
  (keep:∀ b o,b≠X.env.locals->b∉X.fs->b∉ch->s.heap.get? b=some o->H b=none->h'.get? b=some o)
  (slot:∀ b o,b≠X.env.locals->b∈X.fs->b∉ch->s.heap.get? b=some o->H b=none->∃ sl,h'.get? b=some { o with slots:=sl }) (free:∀ b o,b∉ch->s.heap.get? b=some o->H b=none->H' b=none)
  (there:∀ b o,b∉ch->s.heap.get? b=some o->∃ o',h'.get? b=some o')
  (tups:∀ b xs,H b=some (.tup xs)->H' b=some (.tup xs)) (frzs:∀ b o u,H b=some (.frz o u)->H' b=some (.frz o u)) (tbls:∀ b ps,H b=some (.tbl ps)->∃ more,H' b=some (.tbl (ps++more)))
  (ns:∀ m,s.heap.Ns X.env.locals m->h'.Ns X.env.locals m) (hok:HOk X.prog X.w H' h') (hg:AllBare g') :
  Inv X pins σ H' { s with heap:=h',gens:=g',drawn:=d',toks:=t' }:=by
 have IJ:∀ b o,X.s₀.heap.get? b=some o->b≠X.env.locals:=fun b o e=>Nat.ne_of_lt (Nat.lt_of_lt_of_le (Heap.lt_size e) I.ok.above)
 have IK:∀ b o,X.s₀.heap.get? b=some o->b∉X.ex->b∉ch:=fun b o e hx hb=>by
  rcases (GC b hb).1 with z | z
  ·exact hx z
  ·exact absurd (Nat.lt_of_lt_of_le (Heap.lt_size e) z) (Nat.lt_irrefl _)
 have cellK:∀ x c,X.env.cells.lookup x=some c->∀ v,s.heap.IsCell c v->h'.IsCell c v:=fun x c e v zz1=>by
  obtain ⟨o,ho,hd⟩:=zz1
  have HY:c∉ch:=fun z=>(GC c z).2.2.1 x c e rfl
  by_cases hc:c∈X.fs
  ·obtain ⟨sl,q⟩:=slot c o (I.cne x c e) hc HY ho (I.freeC x c e)
   exact ⟨_,q,hd⟩
  ·exact ⟨o,keep c o (I.cne x c e) hc HY ho (I.freeC x c e),hd⟩
 refine ⟨I.ok,I.os,hg,⟨fun b o e n hb hx=>?_,fun b o e n hb hx=>?_,fun b o e n hx=>?_,fun b o e hx=>?_,fun b xs e=>tups b xs (I.base.tups b xs e),fun b o xs e=>frzs b o xs (I.base.frzs b o xs e),fun b ps e=>?_⟩,?_,fun x c e=>?_,?_,fun x c e=>?_,fun p hp=>?_,hok,I.len⟩
 ·exact keep b o (IJ b o e) hb (IK b o e hx) (I.base.keep b o e n hb hx) (I.base.free b o e n hx)
 ·obtain ⟨sl,e1⟩:=I.base.slot b o e n hb hx
  obtain ⟨sl',e2⟩:=slot b _ (IJ b o e) hb (IK b o e hx) e1 (I.base.free b o e n hx)
  exact ⟨sl',e2⟩
 ·obtain ⟨o',e1⟩:=I.base.there b o e hx
  exact free b o' (IK b o e hx) e1 (I.base.free b o e n hx)
 ·obtain ⟨o',e1⟩:=I.base.there b o e hx
  exact there b o' (IK b o e hx) e1
 ·obtain ⟨m1,e1⟩:=I.base.tbls b ps e
  obtain ⟨m2,e2⟩:=tbls b _ e1
  exact ⟨m1++m2,by rw [e2,Array.append_assoc]⟩
 ·obtain ⟨m,hn,hl⟩:=I.loc
  refine ⟨m,ns m hn,fun i x v e1 e2 e3=>?_⟩
  obtain ⟨u,r,l⟩:=hl i x v e1 e2 e3
  refine ⟨u,r,?_⟩
  rcases l with l | ⟨k,c,e,z⟩
  ·exact .inl l
  ·exact .inr ⟨k,c,e,cellK x c e _ z⟩
 ·obtain ⟨v,z⟩:=I.cell x c e
  exact ⟨v,cellK x c e v z⟩
 ·obtain ⟨m,⟨o,_,_,ho,_⟩,_⟩:=I.loc
  exact free _ o (fun z=>(GC _ z).2.1 rfl) ho I.free
 ·obtain ⟨v,o,ho,hd⟩:=I.cell x c e
  exact free c o (fun z=>(GC c z).2.2.1 x c e rfl) ho (I.freeC x c e)
 ·obtain ⟨e,n,ne,nf,d⟩:=I.pin p hp
  have HY:p.1∉ch:=fun z=>(GC p.1 z).2.2.2 p hp rfl
  exact ⟨keep p.1 p.2 ne nf HY e n,free p.1 p.2 HY e n,ne,nf,d⟩
theorem Inv.un {t':Nat} (I:Inv X pins σ H s) (u:Un X.fs [] H H' s.heap h') (hok:HOk X.prog X.w H' h'):Inv X pins σ H' { s with heap:=h',toks:=t' }:=by
 obtain ⟨m,⟨o,es,ep,ho,r⟩,_⟩:=id I.loc
 obtain ⟨sl,hL⟩:=u.any ho I.free (by simp)
 exact I.step (g':=s.gens) (d':=s.drawn) (ch:=[]) (fun _ z=>nomatch z) (fun b o _ hb _ e n=>u.keep b o e n hb (by simp)) (fun b o _ hb _ e n=>u.slot b o e n hb (by simp)) (fun b o _ e n=>u.free b o e n (by simp)) (fun b o _ e=>u.there b o e (by simp)) u.tups u.frzs u.tbls (fun m' hm=>by
  obtain ⟨o',JQ,JR,FM,r'⟩:=hm
  rw [ho] at FM; cases FM
  exact ⟨_,JQ,JR,hL,r'⟩) hok I.bare
theorem Inv.call {g':Array GenState} {t':Nat} {d':Drawn} {ch:List Addr} (I:Inv X pins σ H s) (u:Un (frs X.stack) ch H H' s.heap h') (hok:HOk X.prog X.w H' h') (hg:AllBare g')
  (GC:∀ b∈ch,(b∈X.ex\/X.s₀.heap.objs.size<=b)/\b≠X.env.locals/\(∀ x c,X.env.cells.lookup x=some c->c≠b)/\∀ p∈X.pn++pins,p.1≠b) :
  Inv X pins σ H' { s with heap:=h',gens:=g',drawn:=d',toks:=t' }:=by
 obtain ⟨m,⟨o,es,ep,ho,r⟩,_⟩:=id I.loc
 obtain ⟨sl,hL⟩:=u.any ho I.free fun z=>(GC _ z).2.1 rfl
 exact I.step (ch:=ch) GC (fun b o hL hb hc e n=>u.keep b o e n (fun z=>(List.mem_cons.mp (I.stkSub b z)).elim hL hb) hc) (fun b o _ _ hc e n=>u.any e n hc) (fun b o hc e n=>u.free b o e n hc) (fun b o hc e=>u.there b o e hc) u.tups u.frzs u.tbls (fun m' hm=>by
  obtain ⟨o',JQ,JR,FM,r'⟩:=hm
  rw [ho] at FM; cases FM
  exact ⟨_,JQ,JR,hL,r'⟩) hok hg
theorem Inv.turned {t':Nat} {it:Addr} (I:Inv X pins σ H s) (k:∀ b o,b≠it->s.heap.get? b=some o->h'.get? b=some o) (hn:H it=none) (hL:it≠X.env.locals)
  (h1:it∈X.ex\/X.s₀.heap.objs.size<=it) (h2:∀ x c,X.env.cells.lookup x=some c->c≠it) (h3:∀ p∈X.pn++pins,p.1≠it):Inv X pins σ H { s with heap:=h',toks:=t' }:=by
 have GD:∀ b u,H b=some u->b≠it:=fun b u e z=>by rw [z,hn] at e; cases e
 refine I.step (g':=s.gens) (d':=s.drawn) (ch:=[it]) (fun b hb=>?_) (fun b o _ _ hc e _=>k b o (fun z=>hc (by simp [z])) e) (fun b o _ _ hc e _=>⟨o.slots,k b o (fun z=>hc (by simp [z])) e⟩) (fun _ _ _ _ n=>n)
  (fun b o hc e=>⟨o,k b o (fun z=>hc (by simp [z])) e⟩) (fun _ _ e=>e) (fun _ _ _ e=>e) (fun b ps e=>⟨#[],by rw [e]; simp⟩) (fun m hm=>?_) (fun b u e=>?_) I.bare
 ·have e:b=it:=by simpa using hb
  subst e
  exact ⟨h1,hL,h2,h3⟩
 ·obtain ⟨o,es,ep,ho,r⟩:=hm
  exact ⟨o,es,ep,k _ o (Ne.symm hL) ho,r⟩
 ·refine (I.hok b u e).stay (fun c v hc q=>k c v ?_ q) (fun _ q=>q) fun _ _ q=>q
  rcases hc with z | z
  ·rw [z]; exact GD b u e
  ·exact GD c _ z
theorem Inv.tok (I:Inv X pins σ H s) (t:Nat):Inv X pins σ H { s with toks:=t }:=I.un (h':=s.heap) (t':=t) Un.refl I.hok
theorem Inv.kept {t':Nat} (I:Inv X pins σ H s) (k:∀ b u,s.heap.get? b=some u->h'.get? b=some u):Inv X pins σ H { s with heap:=h',toks:=t' }:=I.un (Un.kept k) (I.hok.kept k)
theorem Inv.laid {a:Addr} {o:HO} {t':Nat} (I:Inv X pins σ H s) (k:∀ b u,s.heap.get? b=some u->h'.get? b=some u) (hp:s.heap.objs.size<=a) (new:ObjOk X.prog X.w (upd H a o) h' a o) :
  Inv X pins σ (upd H a o) { s with heap:=h',toks:=t' }:=I.un (Un.laid k hp (I.hok.fresh hp)) (I.hok.laid k hp new)
theorem Inv.write {x e:Addr} {o:HO} {t':Nat} (I:Inv X pins σ H s) (mu:Mut (H x)) (he:e=x\/H e=some (.own x)) (k:∀ b u,b≠e->s.heap.get? b=some u->h'.get? b=some u) (HN:∃ u,h'.get? e=some u)
  (new:ObjOk X.prog X.w (upd H x o) h' x o):Inv X pins σ (upd H x o) { s with heap:=h',toks:=t' }:=I.un (Un.write mu he k HN) (I.hok.write mu he k HN new)
theorem Inv.weak {σ':List (Option V)} (I:Inv X pins σ H s) (hl:σ'.length=σ.length) (w:∀ (i:Nat) v,σ'[i]?=some (some v)->σ[i]?=some (some v)):Inv X pins σ' H s:=
 ⟨I.ok,I.os,I.bare,I.base,let ⟨m,hn,Ht⟩:=I.loc; ⟨m,hn,fun i x v e1 e2 e3=>Ht i x v e1 (w i v e2) e3⟩,I.cell,I.free,I.freeC,I.pin,I.hok,hl.trans I.len⟩
theorem Inv.pins_of {pins':List (Addr×Obj)} (I:Inv X pins σ H s) (h:∀ p∈pins',s.heap.get? p.1=some p.2/\H p.1=none/\p.1≠X.env.locals/\p.1∉X.fs/\∀ v,p.2.data≠.cell v):Inv X pins' σ H s:=
 ⟨I.ok,I.os,I.bare,I.base,I.loc,I.cell,I.free,I.freeC,fun p hp=>(List.mem_append.mp hp).elim (fun z=>I.pin p (List.mem_append_left _ z)) (h p),I.hok,I.len⟩
theorem iC {N:List Str} (hN:N.Nodup) {i j:Nat} {x:Str} (a:N[i]?=some x) (b:N[j]?=some x):i=j:=by
 obtain ⟨h1,e1⟩:=List.getElem?_eq_some_iff.mp a
 obtain ⟨h2,e2⟩:=List.getElem?_eq_some_iff.mp b
 exact (List.getElem_inj hN).mp (e1.trans e2.symm)
theorem fv {M:Model} {A:Around} {E:Value->Shared->Prop} {i:Nat} {x:Str} {v:V} {u:Value} {Q:Unit->Shared->Prop} (I:Inv X pins σ H s) (hN:X.N.Nodup) (hi:X.N[i]?=some x) (hx:Loc X.env.scope x) (r:RelV v u)
  (h:∀ s',Inv X pins (σ.set i (some v)) H s'->(∃ a,Heap.SameBut a s.heap s'.heap/\(a=X.env.locals\/X.env.cells.lookup x=some a))->Q () s') (hf:X.fn x=true\/X.env.scope.names.lookup x=some .local:=by first | exact .inl rfl | exact .inr rfl | assumption):wpAny M A (storeName X.env x u) Q E s:=by
 obtain ⟨m,hn,hl⟩:=id I.loc
 have hcls:(X.env.scope.kind == .class||(X.env.scope.kind == .module&&X.env.locals != X.env.globals))=false:=by rw [I.ok.kind]; rfl
 have hiσ:i<σ.length:=by rw [I.len]; exact (List.getElem?_eq_some_iff.mp hi).1
 have cne:=I.cne
 have tracked:∀ {a:Addr} {h':Heap},(∃ o,s.heap.get? a=some o/\H a=none)->Heap.SameBut a s.heap h'->HOk X.prog X.w H h':=fun {a h'} ha hs b ob e=>by
  obtain ⟨_,_,FQ⟩:=ha
  refine (I.hok b ob e).stay (fun c w' hc q=>(hs.2 c ?_).trans q) (fun _ q=>q) fun _ _ q=>q
  rintro rfl
  rcases hc with rfl | hc
  ·rw [FQ] at e; cases e
  ·rw [FQ] at hc; cases hc
 rcases hx with hk | hk
 ·refine wpAny_storeName_local hk hn (fun h' hn' hs=>?_) hcls
  obtain ⟨oL,_,_,hoL,_⟩:=id hn
  refine h _ ⟨I.ok,I.os,I.bare,⟨fun b o e n hb hx=>?_,fun b o e n hb hx=>?_,I.base.free,fun b o e hx=>?_,I.base.tups,I.base.frzs,I.base.tbls⟩,⟨_,hn',fun j y v' e1 e2 e3=>?_⟩,fun y c e=>?_,I.free,I.freeC,fun p hp=>?_,tracked ⟨oL,hoL,I.free⟩ hs,by simpa using I.len⟩ ⟨_,hs,.inl rfl⟩
  ·exact (hs.2 b (Nat.ne_of_lt (Nat.lt_of_lt_of_le (Heap.lt_size e) I.ok.above))).trans (I.base.keep b o e n hb hx)
  ·obtain ⟨sl,e1⟩:=I.base.slot b o e n hb hx
   exact ⟨sl,(hs.2 b (Nat.ne_of_lt (Nat.lt_of_lt_of_le (Heap.lt_size e) I.ok.above))).trans e1⟩
  ·obtain ⟨o',e1⟩:=I.base.there b o e hx
   exact ⟨o',(hs.2 b (Nat.ne_of_lt (Nat.lt_of_lt_of_le (Heap.lt_size e) I.ok.above))).trans e1⟩
  ·by_cases hj:j=i
   ·subst hj
    rw [hi] at e1; cases e1
    rw [List.getElem?_set_self hiσ] at e2
    cases e2
    exact ⟨u,r,.inl ⟨hk,by simp⟩⟩
   ·rw [List.getElem?_set_ne (Ne.symm hj)] at e2
    obtain ⟨u',r',q⟩:=hl j y v' e1 e2 e3
    refine ⟨u',r',?_⟩
    rcases q with ⟨k,e⟩ | ⟨k,c,e,z⟩
    ·refine .inl ⟨k,?_⟩
     have:y≠x:=fun e=>hj (iC hN e1 (e ▸ hi))
     simp [this,e]
    ·exact .inr ⟨k,c,e,z.sameBut hs (cne y c e)⟩
  ·obtain ⟨w',z⟩:=I.cell y c e
   exact ⟨w',z.sameBut hs (cne y c e)⟩
  ·obtain ⟨e,n,ne,nf,d⟩:=I.pin p hp
   exact ⟨(hs.2 p.1 ne).trans e,n,ne,nf,d⟩
 ·have Im:X.fn x=true:=by
   rcases hf with z | z
   ·exact z
   ·rw [z] at hk; cases hk
  obtain ⟨c,hc⟩:=I.ok.has x (.inl hk)
  obtain ⟨w',z⟩:=I.cell x c hc
  refine wpAny_storeName_cell I.ok.kind hk hc z (fun h' FY hs=>?_)
  obtain ⟨oc,hoc,hocd⟩:=id z
  refine h { s with heap:=h' } ⟨I.ok,I.os,I.bare,⟨fun b o e n hb hx=>?_,fun b o e n hb hx=>?_,I.base.free,fun b o e hx=>?_,I.base.tups,I.base.frzs,I.base.tbls⟩,⟨m,hn.sameBut hs (Ne.symm (cne x c hc)),fun j y v' e1 e2 e3=>?_⟩,fun y c' e=>?_,I.free,I.freeC,fun p hp=>?_,tracked ⟨oc,hoc,I.freeC x c hc⟩ hs,by simpa using I.len⟩ ⟨c,hs,.inr hc⟩
  ·exact (hs.2 b (Nat.ne_of_lt (Nat.lt_of_lt_of_le (Heap.lt_size e) (I.ok.cab x c Im hc)))).trans (I.base.keep b o e n hb hx)
  ·obtain ⟨sl,e1⟩:=I.base.slot b o e n hb hx
   exact ⟨sl,(hs.2 b (Nat.ne_of_lt (Nat.lt_of_lt_of_le (Heap.lt_size e) (I.ok.cab x c Im hc)))).trans e1⟩
  ·obtain ⟨o',e1⟩:=I.base.there b o e hx
   exact ⟨o',(hs.2 b (Nat.ne_of_lt (Nat.lt_of_lt_of_le (Heap.lt_size e) (I.ok.cab x c Im hc)))).trans e1⟩
  ·by_cases hj:j=i
   ·subst hj
    rw [hi] at e1; cases e1
    rw [List.getElem?_set_self hiσ] at e2
    cases e2
    exact ⟨u,r,.inr ⟨.inl hk,c,hc,FY⟩⟩
   ·rw [List.getElem?_set_ne (Ne.symm hj)] at e2
    obtain ⟨u',r',q⟩:=hl j y v' e1 e2 e3
    refine ⟨u',r',?_⟩
    rcases q with q | ⟨k,c',e,z'⟩
    ·exact .inl q
    ·refine .inr ⟨k,c',e,z'.sameBut hs ?_⟩
     rintro rfl
     exact hj (iC hN e1 (I.ok.inj _ _ _ e hc ▸ hi))
  ·by_cases FB:c'=c
   ·subst FB; exact ⟨_,FY⟩
   ·obtain ⟨w2,z2⟩:=I.cell y c' e
    exact ⟨w2,z2.sameBut hs FB⟩
  ·obtain ⟨e,n,ne,nf,d⟩:=I.pin p hp
   refine ⟨(hs.2 p.1 ?_).trans e,n,ne,nf,d⟩
   intro q
   rw [q,hoc] at e
   have q':oc=p.2:=Option.some.inj e
   exact d w' (by rw [<- q']; exact hocd)
theorem cB {M:Model} {A:Around} {E:Value->Shared->Prop} {i:Nat} {x:Str} {v:V} {u:Value} {Q:Unit->Shared->Prop} (I:Inv X pins σ H s) (hN:X.N.Nodup) (hi:X.N[i]?=some x) (hx:Loc X.env.scope x) (r:RelV v u)
  (h:∀ s',Inv X pins (σ.set i (some v)) H s'->Q () s') (hf:X.fn x=true\/X.env.scope.names.lookup x=some .local:=by first | exact .inl rfl | exact .inr rfl | assumption):wpAny M A (storeName X.env x u) Q E s:=
 fv I hN hi hx r (fun s' I' _=>h s' I') hf
theorem Inv.call' {s':Shared} {ch:List Addr} (I:Inv X pins σ H s) (ho:s'.os=s.os) (u:Un (frs X.stack) ch H H' s.heap s'.heap) (hok:HOk X.prog X.w H' s'.heap) (hg:AllBare s'.gens)
  (GC:∀ b∈ch,(b∈X.ex\/X.s₀.heap.objs.size<=b)/\b≠X.env.locals/\(∀ x c,X.env.cells.lookup x=some c->c≠b)/\∀ p∈X.pn++pins,p.1≠b):Inv X pins σ H' s':=by
 obtain ⟨h',g',d',t',o'⟩:=s'
 have e:o'=s.os:=ho
 subst e
 exact I.call (g':=g') (t':=t') (d':=d') u hok hg GC
end
abbrev XK:=Value->Option Addr->Hp->Prop
abbrev St:=List (Option V)
abbrev VK:=V->Hp->Prop
abbrev TE:=St->Hp->VK->Prop
abbrev TT:=St->Hp->(Bool->Hp->Prop)->Prop
abbrev TA:=St->Hp->(List V->Hp->Prop)->Prop
structure Ends where
 nx:St->Hp->Prop
 rt:VK
 bk:St->Hp->Prop:=fun _ _=>False
 ct:St->Hp->Prop:=fun _ _=>False
abbrev TS:=Ends->St->Hp->Prop
def EP (X:Cx) (pins:List (Addr×Obj)) (σ:St) (Q:VK) (u:Value) (s':Shared):Prop:=∃ v H',Inv X pins σ H' s'/\RelV v u/\Q v H'
def TP (X:Cx) (pins:List (Addr×Obj)) (σ:St) (Q:Bool->Hp->Prop) (b:Bool) (s':Shared):Prop:=∃ H',Inv X pins σ H' s'/\Q b H'
def AP (X:Cx) (pins:List (Addr×Obj)) (σ:St) (Q:List V->Hp->Prop) (us:List Value) (s':Shared):Prop:=∃ vs H',Inv X pins σ H' s'/\Vals vs us/\Q vs H'
def SP (X:Cx) (pins:List (Addr×Obj)) (D:Ends) (f:Flow) (s':Shared):Prop:=
 match f with
 | .next=>∃ σ' H',Inv X pins σ' H' s'/\D.nx σ' H'
 | .brk=>∃ σ' H',Inv X pins σ' H' s'/\D.bk σ' H'
 | .cont=>∃ σ' H',Inv X pins σ' H' s'/\D.ct σ' H'
 | .ret u=>∃ v σ' H',Inv X pins σ' H' s'/\RelV v u/\D.rt v H'
def PE (X:Cx) (e:Expr) (t:TE):Prop:=
 ∀ (pins:List (Addr×Obj)) (s:Shared) (σ:St) (H:Hp) (Q:VK),Inv X pins σ H s->t σ H Q->wpAny (model X.prog X.w) X.A (eval e X.env) (EP X pins σ Q) X.xe s
def PT (X:Cx) (e:Expr) (t:TT):Prop:=
 ∀ (pins:List (Addr×Obj)) (s:Shared) (σ:St) (H:Hp) (Q:Bool->Hp->Prop),Inv X pins σ H s->t σ H Q->wpAny (model X.prog X.w) X.A (isTrue e X.env (eval e X.env)) (TP X pins σ Q) X.xe s
def PW (X:Cx) (e:Expr) (t:TT):Prop:=
 ∀ (whole:Sem Value) (pins:List (Addr×Obj)) (s:Shared) (σ:St) (H:Hp) (Q:Bool->Hp->Prop),Inv X pins σ H s->t σ H Q->wpAny (model X.prog X.w) X.A (isTrue e X.env whole) (TP X pins σ Q) X.xe s
theorem PW.pt {X:Cx} {e:Expr} {t:TT} (h:PW X e t):PT X e t:=h _
def PA (X:Cx) (es:List Expr) (t:TA):Prop:=
 ∀ (pos:Pos) (pins:List (Addr×Obj)) (s:Shared) (σ:St) (H:Hp) (Q:List V->Hp->Prop),Inv X pins σ H s->t σ H Q->wpAny (model X.prog X.w) X.A (spliced (backTo pos (starEach es X.env))) (AP X pins σ Q) X.xe s
def PS (X:Cx) (st:Stmt) (t:TS):Prop:=
 ∀ (pins:List (Addr×Obj)) (s:Shared) (σ:St) (H:Hp) (D:Ends),Inv X pins σ H s->t D σ H->wpAny (model X.prog X.w) X.A (exec st X.env) (SP X pins D) X.xe s
def PSs (X:Cx) (st:List Stmt) (t:TS):Prop:=
 ∀ (pins:List (Addr×Obj)) (s:Shared) (σ:St) (H:Hp) (D:Ends),Inv X pins σ H s->t D σ H->wpAny (model X.prog X.w) X.A (execs st X.env) (SP X pins D) X.xe s
theorem thn {α:Type} {t:Sem α} {Q Q':α->Shared->Prop} {M:Model} {A:Around} {E:Value->Shared->Prop} {s:Shared} (h:wpAny M A t Q E s) (hQ:∀ a s,Q a s->Q' a s):wpAny M A t Q' E s:=wpAny_mono h hQ fun _ _ x=>x
end L2
namespace L2
open PySem PySem.Spec PyProof.Rows
section
variable {X:Cx}
def S3 (i:Nat):TE:=fun σ H Q=>∃ v,σ[i]?=some (some v)/\Q v H
def tC (v:V):TE:=fun _ H Q=>Q v H
theorem P4 {i:Nat} {x:Str} {pos:Pos} (hN:X.N[i]?=some x) (hv:Vis X.env.scope x) (hd:(x == ("__debug__" : Str))=false:=by decide) (Fo:(x == ("__classdict__" : Str))=false:=by decide):PE X (.Name x pos) (S3 i):=by
 intro pins s σ H Q I h
 obtain ⟨v,e,h⟩:=h
 obtain ⟨m,hn,hl⟩:=I.loc
 obtain ⟨u,r,l⟩:=hl i x v hN e hv
 have fin:EP X pins σ Q u s:=⟨v,H,I,r,h⟩
 rcases l with ⟨hk,hm⟩ | ⟨hk,c,hc,hcell⟩
 ·exact wpAny_Name (wpAny_loadName_local I.ok.kind hk hn hm fin) hd
 ·rcases hk with hk | hk
  ·exact wpAny_Name (wpAny_loadName_cell I.ok.kind hk hc hcell fin) hd
  ·exact wpAny_Name (wpAny_loadName_free I.ok.kind hk hc hcell fin Fo) hd
theorem pe_int {i j pos}:PE X (.Constant (.int i) j pos) (tC (.int i)):=fun _ _ _ H _ I h=>wpAny_Constant_int ⟨.int i,H,I.tok _,⟨_,rfl⟩,h⟩
theorem pe_bl {b j pos}:PE X (.Constant (.bool b) j pos) (tC (.bl b)):=fun _ _ _ H _ I h=>Constant_bool ⟨.bl b,H,I,rfl,h⟩
theorem pe_non {j pos}:PE X (.Constant .none j pos) (tC .non):=fun _ _ _ H _ I h=>Constant_none ⟨.non,H,I,rfl,h⟩
theorem pe_str {x j pos}:PE X (.Constant (.str x) j pos) (tC (.str x)):=fun _ _ _ H _ I h=>Calls.Constant_str ⟨.str x,H,I.tok _,⟨_,rfl⟩,h⟩
def Gl (X:Cx) (x:Str):Prop:=X.env.kindOf x=some .globalImplicit
theorem kh {E:Value->Shared->Prop} {pins:List (Addr×Obj)} {s:Shared} {σ:St} {H:Hp} {x:Str} {u:Value} {pos:Pos} {Q:Value->Shared->Prop} (I:Inv X pins σ H s) (hg:Gl X x) (hm:X.mg x=some u) (h:Q u s)
  (hd:(x == ("__debug__" : Str))=false:=by decide):wpAny (model X.prog X.w) X.A (eval (.Name x pos) X.env) Q E s:=
 Calls.Name_function_global I.ok.kind hg (Calls.loadGlobal_global (by rw [I.ok.glob]; exact I.mod.glob.keeps I.bk) hm h) hd
theorem P6 {E:Value->Shared->Prop} {pins:List (Addr×Obj)} {s:Shared} {σ:St} {H:Hp} {x:Str} {u:Value} {pos:Pos} {Q:Value->Shared->Prop} (I:Inv X pins σ H s) (hg:Gl X x) (hm:X.mg x=none) (hv:bootBuiltins x=some u) (h:Q u s)
  (hn:x ≠ "__name__" := by decide) (hd:(x == ("__debug__" : Str))=false:=by decide):wpAny (model X.prog X.w) X.A (eval (.Name x pos) X.env) Q E s:=by
 obtain ⟨mb,h1,h2⟩:=I.mod.blt
 exact Calls.Name_function_global I.ok.kind hg (Calls.loadGlobal_builtin (by rw [I.ok.glob]; exact I.mod.glob.keeps I.bk) hm (by rw [I.ok.blt]; exact h1.keeps I.bk) ((h2 x hn).trans hv) h) hd
theorem vj {x:Str} {v:V} {u:Value} {pos:Pos} (hg:Gl X x) (hm:X.mg x=none) (hv:bootBuiltins x=some u) (r:RelV v u) (hn:x ≠ "__name__" := by decide) (hd:(x == ("__debug__" : Str))=false:=by decide):PE X (.Name x pos) (tC v):=
 fun _ _ _ H _ I h=>P6 I hg hm hv ⟨v,H,I,r,h⟩ hn hd
variable {a b:Expr} {ta tb:TE} {pos:Pos}
def tB (t:TE):TT:=fun σ H Q=>t σ H fun x H1=>∃ c,x=.bl c/\Q c H1
theorem yY {e:Expr} {t:TE} (h:PE X e t) (he:∀ whole,isTrue e X.env whole=(do let v <- whole; standAt e.pos; holding [v] (truthy v)):=by intro _; rfl):PT X e (tB t):=by
 intro pins s σ H Q I hw
 refine isTrue_plain (thn (h pins s σ H _ I hw) fun v s1 HA=>?_) (he _)
 obtain ⟨x,H1,I1,r1,q1⟩:=HA
 obtain ⟨d,rfl,q⟩:=q1
 cases r1
 exact wpAny_truthy_bool ⟨H1,I1,q⟩
variable {tA IG:TT} {rest:List Expr}
def xH (t u:TT):TT:=fun σ H Q=>t σ H fun c H1=>if c=true then u σ H1 Q else Q false H1
def tOr (t u:TT):TT:=fun σ H Q=>t σ H fun c H1=>if c=true then Q true H1 else u σ H1 Q
def xB (t:TT):TT:=fun σ H Q=>t σ H fun c H1=>Q (!c) H1
theorem va (ha:PT X a tA):PW X (.BoolOp .And [a] pos) tA:=by
 intro wh pins s σ H Q I h
 refine isTrue_and (thn (ha pins s σ H Q I h) fun c s1 e=>?_)
 cases c with
 | true=>exact isTrue_and_nil e
 | false=>exact e
theorem yW (ha:PT X a tA):PW X (.BoolOp .Or [a] pos) tA:=by
 intro wh pins s σ H Q I h
 refine isTrue_or (thn (ha pins s σ H Q I h) fun c s1 e=>?_)
 cases c with
 | false=>exact isTrue_or_nil e
 | true=>exact e
theorem yX (ha:PT X a tA) (hb:PW X (.BoolOp .And (b::rest) pos) IG):PW X (.BoolOp .And (a::b::rest) pos) (xH tA IG):=by
 intro wh pins s σ H Q I h
 refine isTrue_and (thn (ha pins s σ H _ I h) fun c s1 zz3=>?_)
 obtain ⟨H1,I1,q1⟩:=zz3
 cases c with
 | true=>exact hb wh pins s1 σ H1 Q I1 q1
 | false=>exact ⟨H1,I1,q1⟩
theorem CD (ha:PT X a tA) (hb:PW X (.BoolOp .Or (b::rest) pos) IG):PW X (.BoolOp .Or (a::b::rest) pos) (tOr tA IG):=by
 intro wh pins s σ H Q I h
 refine isTrue_or (thn (ha pins s σ H _ I h) fun c s1 zz4=>?_)
 obtain ⟨H1,I1,q1⟩:=zz4
 cases c with
 | true=>exact ⟨H1,I1,q1⟩
 | false=>exact hb wh pins s1 σ H1 Q I1 q1
theorem yZ (ha:PT X a tA):PT X (.UnaryOp .Not a pos) (xB tA):=by
 intro pins s σ H Q I h
 exact isTrue_not (ha pins s σ H (fun c H1=>Q (!c) H1) I h)
def xA (ta tb:TE):TE:=fun σ H Q=>ta σ H fun x H1=>∃ c,x=.bl c/\if c=true then Q (.bl true) H1 else tb σ H1 Q
theorem zk {op} {t:TE} (h:PE X a t):PE X (.BoolOp op [a] pos) t:=fun pins s σ H Q I hw=>BoolOp_one (h pins s σ H Q I hw)
theorem CL (ha:PE X a ta) (hb:PE X (.BoolOp .Or (b::rest) pos) tb):PE X (.BoolOp .Or (a::b::rest) pos) (xA ta tb):=by
 intro pins s σ H Q I h
 refine BoolOp_or (thn (ha pins s σ H _ I h) fun v s1 zz5=>?_)
 obtain ⟨x,H1,I1,r1,q1⟩:=zz5
 obtain ⟨c,rfl,q1⟩:=q1
 cases r1
 refine wpAny_truthy_bool ?_
 cases c with
 | false=>exact hb pins s1 σ H1 Q I1 q1
 | true=>exact ⟨.bl true,H1,I1,rfl,q1⟩
def tIf (t:TT) (ta tb:TE):TE:=fun σ H Q=>t σ H fun c H1=>if c=true then ta σ H1 Q else tb σ H1 Q
theorem qY {c:Expr} (hc:PT X c tA) (ha:PE X a ta) (hb:PE X b tb):PE X (.IfExp c a b pos) (tIf tA ta tb):=by
 intro pins s σ H Q I h
 refine wpAny_IfExp (thn (hc pins s σ H _ I h) fun d s1 zz6=>?_)
 obtain ⟨H1,I1,q1⟩:=zz6
 cases d with
 | true=>exact ha pins s1 σ H1 Q I1 q1
 | false=>exact hb pins s1 σ H1 Q I1 q1
end
end L2
namespace L2
open PySem PySem.Spec PyProof.Rows
def SqL (K:Frag) (H:Hp) (a:Addr) (xs:List V):Prop:=
 Rd H a (.lst xs) \/
  ∃ (o:Obj) (its:Array Value) (n:Nat),K.lookup a=some o/\o.cls=.type "list" /\ o.dict=none/\o.data=.seq its n/\its.size<=sizeLine/\Vals xs its.toList
def SqT (K:Frag) (H:Hp) (a:Addr) (xs:List V):Prop:=
 Rd H a (.tup xs) \/
  ∃ (o:Obj) (its:Array Value) (n:Nat),K.lookup a=some o/\o.cls=.type "tuple" /\ o.data=.seq its n/\its.size<=sizeLine/\Vals xs its.toList
def absV:Value->Option V
 | .none=>some .non
 | .bool b=>some (.bl b)
 | .int i _=>some (.int i)
 | .str x _=>some (.str x)
 | .bytes b _=>some (.byt b)
 | .float b _=>some (.flt b)
 | .ref a=>some (.ref a)
 | .type n=>some (.ty n)
 | _=>none
theorem RelV.abs {x:V} {u:Value} (r:RelV x u):absV u=some x:=by
 cases x with
 | non=>cases r; rfl
 | bl _=>cases r; rfl
 | int _=>obtain ⟨t,rfl⟩:=r; rfl
 | str _=>obtain ⟨t,rfl⟩:=r; rfl
 | byt _=>obtain ⟨t,rfl⟩:=r; rfl
 | flt _=>obtain ⟨t,rfl⟩:=r; rfl
 | ref _=>cases r; rfl
 | ty _=>cases r; rfl
theorem RelV.inj {x y:V} {u:Value} (r:RelV x u) (q:RelV y u):x=y:=Option.some.inj (r.abs.symm.trans q.abs)
theorem Vals.inj:∀ {xs ys:List V} {us:List Value},Vals xs us->Vals ys us->xs=ys:=by
 intro xs ys us a
 induction a generalizing ys with
 | nil=>intro b; cases b; rfl
 | cons r t ih=>
  intro b
  cases b with
  | cons r' t'=>rw [r.inj r',ih t']
section
variable {X:Cx} {pins:List (Addr×Obj)} {σ:St} {H:Hp} {s:Shared} {a:Addr} {xs ys:List V}
theorem SqL.of {K:Frag} (h:H a=some (.lst xs)):SqL K H a xs:=.inl (.inl h)
theorem SqT.of {K:Frag} (h:H a=some (.tup xs)):SqT K H a xs:=.inl (.inl h)
theorem Inv.list (I:Inv X pins σ H s) (h:SqL X.K H a xs):∃ its:List Value,Vals xs its/\PlainL s.heap a its.toArray/\xs.length<=sizeLine:=by
 rcases h with h | ⟨o,its,n,hk,hc,hd,hs,hz,r⟩
 ·obtain ⟨z,its,n,r,e⟩:=h.ok I.hok
  exact ⟨its,r,⟨_,n,e,rfl,rfl,rfl⟩,z⟩
 ·refine ⟨its.toList,r,⟨o,n,I.kIn a o hk,hc,hd,by simpa using hs⟩,?_⟩
  have e:=r.length
  simp only [Array.length_toList] at e
  omega
theorem Inv.tuple (I:Inv X pins σ H s) (h:SqT X.K H a xs):∃ its:List Value,Vals xs its/\IsTup s.heap a its.toArray/\xs.length<=sizeLine:=by
 rcases h with h | ⟨o,its,n,hk,hc,hs,hz,r⟩
 ·obtain ⟨z,its,r,p⟩:=h.ok I.hok
  exact ⟨its,r,p,z⟩
 ·refine ⟨its.toList,r,⟨o,I.kIn a o hk,hc,n,by simpa using hs⟩,?_⟩
  have e:=r.length
  simp only [Array.length_toList] at e
  omega
theorem Inv.list_inj (I:Inv X pins σ H s) (h:SqL X.K H a xs) (h':SqL X.K H a ys):xs=ys:=by
 obtain ⟨its,r,⟨o,n,e,_,_,d⟩,_⟩:=I.list h
 obtain ⟨its',r',⟨o',n',e',_,_,d'⟩,_⟩:=I.list h'
 rw [e] at e'; cases e'
 rw [d] at d'
 injection d' with d1 _
 have:its=its':=by simpa using congrArg Array.toList d1
 subst this
 exact r.inj r'
theorem Inv.tuple_inj (I:Inv X pins σ H s) (h:SqT X.K H a xs) (h':SqT X.K H a ys):xs=ys:=by
 obtain ⟨its,r,⟨o,e,_,n,d⟩,_⟩:=I.tuple h
 obtain ⟨its',r',⟨o',e',_,n',d'⟩,_⟩:=I.tuple h'
 rw [e] at e'; cases e'
 rw [d] at d'
 injection d' with d1 _
 have:its=its':=by simpa using congrArg Array.toList d1
 subst this
 exact r.inj r'
end
abbrev Cx.wish (X:Cx) (E:Value->Shared->Prop):Cx:={ X with xe:=E }
abbrev Cx.nox (X:Cx):Cx:=X.wish fun _ _=>False
theorem Cx.Ok.wish {X:Cx} (ok:X.Ok) (E:Value->Shared->Prop):(X.wish E).Ok:=
 ⟨ok.mod,ok.kind,ok.glob,ok.blt,ok.above,ok.inj,ok.has,ok.cab,ok.hd,ok.frames,ok.stk,ok.exf,ok.bs,ok.bsz,ok.noex,ok.exfs,ok.funs,ok.frf⟩
theorem Cx.Ok.unwish {X:Cx} {E:Value->Shared->Prop} (ok:(X.wish E).Ok):X.Ok:=
 ⟨ok.mod,ok.kind,ok.glob,ok.blt,ok.above,ok.inj,ok.has,ok.cab,ok.hd,ok.frames,ok.stk,ok.exf,ok.bs,ok.bsz,ok.noex,ok.exfs,ok.funs,ok.frf⟩
section
variable {X:Cx} {pins:List (Addr×Obj)} {σ:St} {H:Hp} {s:Shared} {E:Value->Shared->Prop}
theorem Inv.wish (I:Inv X pins σ H s) (E:Value->Shared->Prop):Inv (X.wish E) pins σ H s:=⟨I.ok.wish E,I.os,I.bare,I.base,I.loc,I.cell,I.free,I.freeC,I.pin,I.hok,I.len⟩
theorem Inv.unwish (I:Inv (X.wish E) pins σ H s):Inv X pins σ H s:=⟨I.ok.unwish,I.os,I.bare,I.base,I.loc,I.cell,I.free,I.freeC,I.pin,I.hok,I.len⟩
theorem SP.unwish {D:Ends} {f:Flow} {s':Shared} (h:SP (X.wish E) pins D f s'):SP X pins D f s':=by
 cases f with
 | next=>obtain ⟨σ',H',I,q⟩:=h; exact ⟨σ',H',I.unwish,q⟩
 | brk=>obtain ⟨σ',H',I,q⟩:=h; exact ⟨σ',H',I.unwish,q⟩
 | cont=>obtain ⟨σ',H',I,q⟩:=h; exact ⟨σ',H',I.unwish,q⟩
 | ret u=>obtain ⟨v,σ',H',I,r,q⟩:=h; exact ⟨v,σ',H',I.unwish,r,q⟩
theorem PSs.nox {st:List Stmt} {t:TS} (h:PSs X.nox st t):PSs X st t:=fun pins s σ H D I hw=>
 wpAny_mono (h pins s σ H D (I.wish _) hw) (fun _ _ q=>q.unwish) fun _ _ z=>False.elim z
end
section
variable {X:Cx} {st:Stmt} {rest:List Stmt} {t u:TS} {e:Expr} {te:TE} {pos:Pos}
def tNext:TS:=fun D σ H=>D.nx σ H
def qo (t u:TS):TS:=fun D σ H=>t { D with nx:=u D } σ H
theorem pss_nil:PSs X [] tNext:=fun _ _ σ H _ I h=>wpAny_execs_nil ⟨σ,H,I,h⟩
theorem ip (h1:PS X st t) (h2:PSs X rest u):PSs X (st::rest) (qo t u):=by
 intro pins s σ H D I h
 refine wpAny_execs_cons (thn (h1 pins s σ H { D with nx:=u D } I h) fun f s1 q=>?_)
 cases f with
 | next=>
  obtain ⟨σ',H',I',q⟩:=q
  exact h2 pins s1 σ' H' D I' q
 | ret v=>exact q
 | brk=>exact q
 | cont=>exact q
theorem jP (h1:PS X st t):PSs X [st] t:=by
 intro pins s σ H D I h
 refine wpAny_execs_cons (thn (h1 pins s σ H D I h) fun f s1 q=>?_)
 cases f with
 | next=>exact wpAny_execs_nil q
 | ret v=>exact q
 | brk=>exact q
 | cont=>exact q
theorem Inv.quiet {pins:List (Addr×Obj)} {σ:St} {H:Hp} {s:Shared} (I:Inv X pins σ H s):interactive X.env=false:=by simp [interactive,I.ok.kind]
def bx (te:TE):TS:=fun D σ H=>te σ H fun _ H1=>D.nx σ H1
theorem X3 (he:PE X e te) (hs:swapsWith e none pos.line X.env=pure false:=by rfl):PS X (.Expr e pos) (bx te):=by
 intro pins s σ H D I h
 exact wpAny_Expr_any (thn (he pins s σ H _ I h) fun v s1 zz7=>by obtain ⟨x,H1,I1,r1,q1⟩:=zz7; exact ⟨σ,H1,I1,q1⟩) I.quiet hs
def kR (te:TE):TS:=fun D σ H=>te σ H D.rt
theorem nZ (he:PE X e te):PS X (.Return (some e) pos) (kR te):=by
 intro pins s σ H D I h
 exact wpAny_Return_some (thn (he pins s σ H _ I h) fun v s1 zz8=>by obtain ⟨x,H1,I1,r1,q1⟩:=zz8; exact ⟨x,σ,H1,I1,r1,q1⟩)
def tRetN:TS:=fun D _ H=>D.rt .non H
theorem ps_retN:PS X (.Return none pos) tRetN:=fun _ _ σ H _ I h=>wpAny_Return_none ⟨.non,σ,H,I,rfl,h⟩
def qp (c:TT) (t u:TS):TS:=fun D σ H=>c σ H fun b H1=>if b=true then t D σ H1 else u D σ H1
theorem tH {c:Expr} {a b:List Stmt} {tc:TT} (hc:PT X c tc) (ha:PSs X a t) (hb:PSs X b u):PS X (.If c a b pos) (qp tc t u):=by
 intro pins s σ H D I h
 refine wpAny_If (thn (hc pins s σ H _ I h) fun d s1 zz9=>?_)
 obtain ⟨H1,I1,q1⟩:=zz9
 cases d with
 | true=>exact ha pins s1 σ H1 D I1 q1
 | false=>exact hb pins s1 σ H1 D I1 q1
def tNever:TS:=fun _ _ _=>False
theorem ps_never:PS X st tNever:=fun _ _ _ _ _ _ h=>h.elim
end
abbrev TG:=V->St->Hp->(St->Hp->Prop)->Prop
abbrev TGs:=List V->St->Hp->(St->Hp->Prop)->Prop
def PG (X:Cx) (target:Expr) (t:TG):Prop:=
 ∀ (pins:List (Addr×Obj)) (s:Shared) (σ:St) (H:Hp) (v:V) (u:Value) (Q:St->Hp->Prop),Inv X pins σ H s->RelV v u->t v σ H Q ->
  wpAny (model X.prog X.w) X.A (assign target X.env u) (fun _ s'=>∃ σ' H',Inv X pins σ' H' s'/\Q σ' H') X.xe s
def PGs (X:Cx) (ts:List Expr) (t:TGs):Prop:=
 ∀ (pins:List (Addr×Obj)) (s:Shared) (σ:St) (H:Hp) (vs:List V) (us:List Value) (Q:St->Hp->Prop),Inv X pins σ H s->Vals vs us->t vs σ H Q ->
  wpAny (model X.prog X.w) X.A (assignInOrder ((assignEach ts X.env).map (·.2)) us) (fun _ s'=>∃ σ' H',Inv X pins σ' H' s'/\Q σ' H') X.xe s
abbrev TSet:=V->V->V->Hp->(Hp->Prop)->Prop
def Cn (X:Cx) (t:TSet):Prop:=
 ∀ (pins:List (Addr×Obj)) (s:Shared) (σ:St) (H:Hp) (o i v:V) (ov iv u:Value) (Q:Hp->Prop),Inv X pins σ H s->RelV o ov->RelV i iv->RelV v u->t o i v H Q ->
  wpAny (model X.prog X.w) X.A (setItem ov iv u) (fun _ s'=>∃ H',Inv X pins σ H' s'/\Q H') X.xe s
abbrev TIp:=V->V->Hp->VK->Prop
def PIp (X:Cx) (op:Operator) (t:TIp):Prop:=
 ∀ (pins:List (Addr×Obj)) (s:Shared) (σ:St) (H:Hp) (x y:V) (v u:Value) (Q:VK),Inv X pins σ H s->RelV x v->RelV y u->t x y H Q ->
  wpAny (model X.prog X.w) X.A (inplaceOp op v u) (EP X pins σ Q) X.xe s
section
variable {X:Cx} {pos:Pos}
def L0 (i:Nat):TG:=fun v σ H Q=>Q (σ.set i (some v)) H
theorem d4 {i:Nat} {x:Str} (hN:X.N.Nodup) (hi:X.N[i]?=some x) (hx:Loc X.env.scope x) (hf:X.fn x=true\/X.env.scope.names.lookup x=some .local:=by first | exact .inl rfl | exact .inr rfl | assumption):PG X (.Name x pos) (L0 i):=by
 intro pins s σ H v u Q I r h
 exact wpAny_assign_Name (cB I hN hi hx r (fun s' I'=>⟨_,H,I',h⟩) hf)
def gNil:TGs:=fun vs σ H Q=>vs = []/\Q σ H
def lZ (t:TG) (u:TGs):TGs:=fun vs σ H Q=>∃ v r,vs=v::r/\t v σ H fun σ' H'=>u r σ' H' Q
theorem D3:PGs X [] gNil:=by
 intro pins s σ H vs us Q I r h
 obtain ⟨e,h⟩:=h
 subst e
 cases r
 exact assignInOrder_nil ⟨σ,H,I,h⟩
theorem j9 {e:Expr} {es:List Expr} {t:TG} {u:TGs} (h1:PG X e t) (h2:PGs X es u)
  (hs:(assignEach (e::es) X.env).map (·.2)=assign e X.env::(assignEach es X.env).map (·.2):=by rfl):PGs X (e::es) (lZ t u):=by
 intro pins s σ H vs us Q I r h
 obtain ⟨v,vr,e1,h⟩:=h
 subst e1
 cases r with
 | cons r rr=>
  rw [hs]
  refine assignInOrder_cons (thn (h1 pins s σ H _ _ _ I r h) fun _ s1 zz10=>?_)
  obtain ⟨σ1,H1,I1,q1⟩:=zz10
  exact h2 pins s1 σ1 H1 _ _ Q I1 rr q1
def lY (K:Frag) (n:Nat) (t:TGs):TG:=fun v σ H Q=>∃ a xs,v=.ref a/\SqT K H a xs/\xs.length=n/\t xs σ H Q
theorem zj {es:List Expr} {k:Nat} {t:TGs} {n:Nat} (hc:X.calm=true) (h:PGs X es t)
  (hn:(assignEach es X.env).length=n:=by rfl) (FF:(assignEach es X.env).findIdx? (·.1)=none:=by rfl):PG X (.Tuple es k pos) (lY X.K n t):=by
 intro pins s σ H v u Q I r hw
 obtain ⟨a,xs,e1,hq,hl,hw⟩:=hw
 subst e1
 cases r
 obtain ⟨its,rv,ht,hz⟩:=I.tuple hq
 refine assign_Tuple_tuple (I.ok.hd hc) ht (by simp [hn,<- hl,rv.length]) FF fun h' hx=>?_
 have I1:Inv X pins σ H { s with heap:=h' }:=I.kept (t':=s.toks) fun b o e=>hx b o (Nat.ne_of_lt (Heap.lt_size e)) e
 exact h pins _ σ H xs _ Q I1 (by simpa using rv) hw
def gSub (to ti:TE) (t:TSet):TG:=fun v σ H Q=>to σ H fun o H1=>ti σ H1 fun i H2=>t o i v H2 fun H3=>Q σ H3
theorem aU {o i:Expr} {to ti:TE} {t:TSet} (ho:PE X o to) (hi:PE X i ti) (hs:Cn X t)
  (ha:∀ v,assign (.Subscript o i pos) X.env v=(do
   let ov <- holding [v] (eval o X.env)
   let iv <- holding [v,ov] (eval i X.env)
   standAt pos
   holding [v,ov,iv] (setItem ov iv v)
   release [v,ov,iv] []):=by intro _; rfl):PG X (.Subscript o i pos) (gSub to ti t):=by
 intro pins s σ H v u Q I r h
 rw [ha]
 refine wpAny_bind (wpAny_holding (thn (ho pins s σ H _ I h) fun ov s1 zz11=>?_))
 obtain ⟨x,H1,I1,r1,q1⟩:=zz11
 refine wpAny_bind (wpAny_holding (thn (hi pins s1 σ H1 _ I1 q1) fun iv s2 zz12=>?_))
 obtain ⟨y,H2,I2,r2,q2⟩:=zz12
 refine wpAny_bind (wpAny_standAt (wpAny_bind (wpAny_holding (thn (hs pins s2 σ H2 x y v ov iv u _ I2 r1 r2 r q2) fun _ s3 zz13=>?_))))
 obtain ⟨H3,I3,q3⟩:=zz13
 exact wpAny_release ⟨σ,H3,I3,q3⟩
def Z4 (te:TE) (g:TG):TS:=fun D σ H=>te σ H fun x H1=>g x σ H1 D.nx
theorem oa {tg e:Expr} {te:TE} {g:TG} (he:PE X e te) (hg:PG X tg g) (hs:swapsWithSole [tg] e pos.line X.env=pure false:=by rfl) (hw:swappedStores [tg] e X.env=pure none:=by rfl)
  (h1:(assignEach [tg] X.env).map (·.2) = [assign tg X.env]:=by rfl):PS X (.Assign [tg] e pos) (Z4 te g):=by
 intro pins s σ H D I h
 refine wpAny_Assign_stores (thn (he pins s σ H _ I h) fun v s1 zz14=>?_) hs hw
 obtain ⟨x,H1,I1,r1,q1⟩:=zz14
 rw [h1]
 exact thn (hg pins s1 σ H1 x v _ I1 r1 q1) fun _ s2 q=>q
theorem df {i:Nat} {x:Str} {e:Expr} {te:TE} {pos':Pos} (hN:X.N.Nodup) (hi:X.N[i]?=some x) (hx:Loc X.env.scope x) (he:PE X e te) (hs:swapsWith e (some (.Name x pos')) pos.line X.env=pure false:=by rfl) (hf:X.fn x=true\/X.env.scope.names.lookup x=some .local:=by first | exact .inl rfl | exact .inr rfl | assumption) :
  PS X (.Assign [.Name x pos'] e pos) (Z4 te (L0 i)):=by
 intro pins s σ H D I h
 refine wpAny_Assign_Name (thn (he pins s σ H _ I h) fun v s1 zz15=>?_) hs
 obtain ⟨y,H1,I1,r1,q1⟩:=zz15
 exact cB I1 hN hi hx r1 (fun s2 I2=>⟨_,H1,I2,q1⟩) hf
def xG (i:Nat) (te:TE) (ti:TIp):TS:=fun D σ H=>∃ x,σ[i]?=some (some x)/\te σ H fun y H1=>ti x y H1 fun z H2=>D.nx (σ.set i (some z)) H2
theorem zb {i:Nat} {x:Str} {e:Expr} {te:TE} {op:Operator} {ti:TIp} {pos':Pos} (hN:X.N.Nodup) (hi:X.N[i]?=some x) (hx:Loc X.env.scope x) (he:PE X e te) (ho:PIp X op ti) (hf:X.fn x=true\/X.env.scope.names.lookup x=some .local:=by first | exact .inl rfl | exact .inr rfl | assumption) :
  PS X (.AugAssign (.Name x pos') op e pos) (xG i te ti):=by
 intro pins s σ H D I h
 obtain ⟨v,e1,h⟩:=h
 obtain ⟨m,hn,hl⟩:=I.loc
 have vis:Vis X.env.scope x:=by rcases hx with k | k; exact .inl k; exact .inr (.inl k)
 obtain ⟨u,r,l⟩:=hl i x v hi e1 vis
 refine wpAny_AugAssign_Name ?_
 have go:wpAny (model X.prog X.w) X.A (eval e X.env) (fun w s₂=>wpAny (model X.prog X.w) X.A (inplaceOp op u w) (fun r s₃=>wpAny (model X.prog X.w) X.A (storeName X.env x r) (fun _=>SP X pins D .next) X.xe s₃) X.xe s₂) X.xe s:=by
  refine thn (he pins s σ H _ I h) fun w s1 zz16=>?_
  obtain ⟨y,H1,I1,r1,q1⟩:=zz16
  refine thn (ho pins s1 σ H1 v y u w _ I1 r r1 q1) fun z s2 zz17=>?_
  obtain ⟨zv,H2,I2,r2,q2⟩:=zz17
  exact cB I2 hN hi hx r2 (fun s3 I3=>⟨_,H2,I3,q2⟩) hf
 rcases l with ⟨hk,hm⟩ | ⟨hk,c,hc,hcell⟩
 ·exact wpAny_loadName_local I.ok.kind hk hn hm go
 ·rcases hk with hk | hk
  ·exact wpAny_loadName_cell I.ok.kind hk hc hcell go
  ·rcases hx with k | k
   ·have:X.env.scope.names.lookup x=some .free:=hk
    rw [k] at this; cases this
   ·have:X.env.scope.names.lookup x=some .free:=hk
    rw [k] at this; cases this
def ipI (f:Int->Int->Int):TIp:=fun x y H Q=>∃ i j,x=.int i/\y=.int j/\Q (.int (f i j)) H
theorem Ax:PIp X .Add (ipI fun i j=>i+j):=by
 intro pins s σ H x y v u Q I r1 r2 h
 obtain ⟨i,j,e1,e2,q⟩:=h
 subst e1; subst e2
 obtain ⟨t,rfl⟩:=r1
 obtain ⟨t',rfl⟩:=r2
 exact iadd_int ⟨.int _,H,I.tok _,⟨_,rfl⟩,q⟩
end
section
variable {X:Cx} {pos:Pos}
def nu (c:TT) (tb:TS):TS:=fun D σ H=>∃ W:Nat->St->Hp->Prop,(∃ m,W m σ H)/\∀ m σ H,W m σ H ->
 c σ H fun b H1=>if b=true then ∃ N:St->Hp->Prop,(∀ σ' H',N σ' H'->∃ m',m'<m/\W m' σ' H')/\tb { D with nx:=N,ct:=N,bk:=D.nx } σ H1 else D.nx σ H1
theorem qU {c:Expr} {body:List Stmt} {tc:TT} {tb:TS} (hp:PassesOwn (model X.prog X.w) X.A X.env X.xe) (hc:PT X c tc) (hb:PSs X body tb):PS X (.While c body [] pos) (nu tc tb):=by
 intro pins s σ H D I h
 obtain ⟨W,⟨m0,w0⟩,turn⟩:=h
 refine wpAny_While (codeAny_whileLoop (fun n s'=>∃ σ' H',Inv X pins σ' H' s'/\W n σ' H') ?_ m0 ⟨σ,H,I,w0⟩)
 rintro n s1 ⟨σ1,H1,I1,w1⟩
 refine wpAny_passesOwn hp (thn (hc pins s1 σ1 H1 _ I1 (turn n σ1 H1 w1)) fun b s2 zz18=>?_)
 obtain ⟨H2,I2,q2⟩:=zz18
 cases b with
 | true=>
  obtain ⟨N,hN,q2⟩:=q2
  rw [if_pos rfl]
  refine wpAny_passesOwn hp (thn (hb pins s2 σ1 H2 _ I2 q2) fun f s3 q3=>?_)
  cases f with
  | next=>
   obtain ⟨σ3,H3,I3,n3⟩:=q3
   obtain ⟨m',hm,w3⟩:=hN σ3 H3 n3
   exact ⟨m',hm,σ3,H3,I3,w3⟩
  | cont=>
   obtain ⟨σ3,H3,I3,n3⟩:=q3
   obtain ⟨m',hm,w3⟩:=hN σ3 H3 n3
   exact ⟨m',hm,σ3,H3,I3,w3⟩
  | brk=>exact q3
  | ret v=>exact q3
 | false=>
  rw [if_neg Bool.false_ne_true]
  exact wpAny_execs_nil ⟨σ1,H2,I2,q2⟩
end
structure It where
 go:Nat->Hp->Prop
 yld:Nat->Hp->V->Hp->Prop
 stop:Nat->Hp->Prop
def D9 (X:Cx) (pins:List (Addr×Obj)) (H:Hp) (b:Addr):Prop:=
 H b=none/\b≠X.env.locals/\b∉X.fs/\(b∈X.ex\/X.s₀.heap.objs.size<=b)/\(∀ x c,X.env.cells.lookup x=some c->c≠b)/\∀ p∈X.pn++pins,p.1≠b
theorem Inv.fpOk {X:Cx} {pins:List (Addr×Obj)} {σ:St} {H H':Hp} {s:Shared} {b:Addr} (I:Inv X pins σ H s) (hb:s.heap.objs.size<=b) (hn:H' b=none):D9 X pins H' b:=by
 refine ⟨hn,Nat.ne_of_gt (Nat.lt_of_lt_of_le I.lt hb),I.nofs hb,.inr (Nat.le_trans I.sz hb),fun x c e z=>?_,fun p hp z=>?_⟩
 ·obtain ⟨v,q⟩:=I.cell x c e
  exact absurd (Nat.lt_of_lt_of_le q.lt (by rw [z]; exact hb)) (Nat.lt_irrefl _)
 ·exact absurd (Nat.lt_of_lt_of_le (Heap.lt_size (I.pin p hp).1) (by rw [z]; exact hb)) (Nat.lt_irrefl _)
structure Turn (P:Program) (w:World) (K:Frag) (tg:Expr) (J:It) (fp:List Addr) (it:Addr) (tn:Nat->Heap->Prop):Prop where
 mem:it∈fp
 obj:∀ i h,tn i h->∀ b∈fp,∃ o,h.get? b=some o/\∀ v,o.data≠.cell v
 keep:∀ i h h',tn i h->(∀ b∈fp,∀ o,h.get? b=some o->h'.get? b=some o)->tn i h'
 item:∀ (X:Cx),X.prog=P->X.w=w->X.K=K->X.calm=true->∀ (i:Nat) (pins:List (Addr×Obj)) (s:Shared) (σ:St) (H:Hp) (E:Value->Shared->Prop),Inv X pins σ H s->(∀ b∈fp,D9 X pins H b)->tn i s.heap->J.go i H ->
  wpAny (model P w) X.A (pyNext (.ref it)) (fun r s1=>∃ u,r=some u /\
   wpAny (model P w) X.A (letOwnedTupleGo tg (.ref it) u) (fun _ s2=>∃ x H',Inv X pins σ H' s2/\RelV x u/\J.yld i H x H'/\tn (i+1) s2.heap/\∀ b∈fp,H' b=none) E s1) E s
 done:∀ (X:Cx),X.prog=P->X.w=w->X.K=K->X.calm=true->∀ (i:Nat) (pins:List (Addr×Obj)) (s:Shared) (σ:St) (H:Hp) (E:Value->Shared->Prop),Inv X pins σ H s->(∀ b∈fp,D9 X pins H b)->tn i s.heap->J.stop i H ->
  wpAny (model P w) X.A (pyNext (.ref it)) (fun r s1=>r=none/\Inv X pins σ H s1) E s
 self:∀ (A:Around) (i:Nat) (s:Shared) (Q:Value->Shared->Prop) (E:Value->Shared->Prop),tn i s.heap->Q (.ref it) s->wpAny (model P w) A (pyIter (.ref it)) Q E s
abbrev TI:=St->Hp->(It->Hp->Prop)->Prop
def PIE (X:Cx) (pins:List (Addr×Obj)) (σ:St) (tg:Expr) (R:It->Hp->Prop) (Hk:Value) (s2:Shared):Prop:=
 ∃ (it:Addr) (fp:List Addr) (tn:Nat->Heap->Prop) (J:It) (H':Hp),Hk=.ref it/\Inv X pins σ H' s2/\Turn X.prog X.w X.K tg J fp it tn/\tn 0 s2.heap/\(∀ b∈fp,D9 X pins H' b)/\R J H'
def PI (X:Cx) (tg iter:Expr) (wi:TI):Prop:=
 ∀ (pins:List (Addr×Obj)) (s:Shared) (σ:St) (H:Hp) (R:It->Hp->Prop),Inv X pins σ H s->wi σ H R ->
  wpAny (model X.prog X.w) X.A (eval iter X.env) (fun v s1=>wpAny (model X.prog X.w) X.A (pyIter v) (PIE X pins σ tg R) X.xe s1) X.xe s
theorem gm {M:Model} {A:Around} {E:Value->Shared->Prop} {s:Shared} {tg:Expr} {it:Addr} {u:Value} {o:Obj} {n:String} {vs:Array Value} {Q:Unit->Shared->Prop} (ho:s.heap.get? it=some o) (hc:o.cls=.type n) (hd:o.data=.fields vs)
    (hn:["enumerate", "zip", "dict_itemiterator", "dict_reverseitemiterator", "odict_iterator", "itertools.zip_longest", "itertools.pairwise"].contains n=false) (hQ:Q () s):wpAny M A (letOwnedTupleGo tg (.ref it) u) Q E s:=by
  unfold letOwnedTupleGo
  cases tg <;> first
    | exact wpAny_pure hQ
    | (cases u <;> first
        | exact wpAny_pure hQ
        | (refine wpAny_bind (wpAny_load ho ?_)
           rw [hc,hd]
           show wpAny M A (if (["enumerate", "zip", "dict_itemiterator", "dict_reverseitemiterator", "odict_iterator", "itertools.zip_longest", "itertools.pairwise"].contains n&&vs[0]? == some (rawInt _))=true then _ else _) Q E s
           rw [if_neg (by intro h; rw [hn,Bool.false_and] at h; cases h)]
           exact wpAny_pure hQ))
def Itl (K:Frag) (a:Addr):It:=
 ⟨fun i H=>∃ xs x,SqL K H a xs/\xs[i]?=some x,fun i H x H'=>H'=H/\∀ xs,SqL K H a xs->xs[i]?=some x,fun i H=>∃ xs,SqL K H a xs/\xs.length<=i⟩
def Itt (K:Frag) (a:Addr):It:=
 ⟨fun i H=>∃ xs x,SqT K H a xs/\xs[i]?=some x,fun i H x H'=>H'=H/\∀ xs,SqT K H a xs->xs[i]?=some x,fun i H=>∃ xs,SqT K H a xs/\xs.length<=i⟩
def Itr (lo:Int) (n:Nat):It:=⟨fun i _=>i<n,fun i H x H'=>H'=H/\x=.int (lo+i),fun i _=>n<=i⟩
theorem np {P:Program} {w:World} {K:Frag} {tg:Expr} (a it:Addr):Turn P w K tg (Itl K a) [it] it (fun i h=>h.IsListIter it a i) where
 mem:=by simp
 obj:=fun i h st b hb=>by
  have e:b=it:=by simpa using hb
  subst e
  obtain ⟨o,e,c,d⟩:=st
  exact ⟨o,e,fun v z=>by rw [d] at z; cases z⟩
 keep:=fun i h h' st k=>st.at fun o e=>k it (by simp) o e
 item:=by
  intro X hP hw hK hc i pins s σ H E I hf st hg
  subst hP hw hK
  obtain ⟨xs,x,hq,hx⟩:=hg
  obtain ⟨its,rv,p,hz⟩:=I.list hq
  obtain ⟨u,hu,ru⟩:=rv.get hx
  obtain ⟨f0,f1,f2,f3,f4,f5⟩:=hf it (by simp)
  refine wpAny_pyNext_list_item st p.isList (x:=u) (by simpa using hu) fun h' EK sb=>?_
  have I1:Inv X pins σ H { s with heap:=h' }:=I.turned (t':=s.toks) (fun b o hb e=>(sb.2 b hb).trans e) f0 f1 f3 f4 f5
  obtain ⟨o,e,c,d⟩:=id EK
  exact ⟨u,rfl,gm (s:={ s with heap:=h' }) e c d (by decide) ⟨x,H,I1,ru,⟨rfl,fun ys hy=>by rw [I.list_inj hy hq]; exact hx⟩,EK,fun b hb=>(hf b hb).1⟩⟩
 done:=by
  intro X hP hw hK hc i pins s σ H E I hf st hg
  subst hP hw hK
  obtain ⟨xs,hq,hx⟩:=hg
  obtain ⟨its,rv,p,hz⟩:=I.list hq
  obtain ⟨f0,f1,f2,f3,f4,f5⟩:=hf it (by simp)
  have hl:=rv.length
  exact wpAny_pyNext_list_end (I.ok.hd hc) st p.isList (by simp; omega) fun h' eb=>⟨rfl,I.turned (t':=s.toks) (fun b o hb e=>eb b o hb e) f0 f1 f3 f4 f5⟩
 self:=fun _ _ _ _ _ st h=>wpAny_pyIter_listiter st h
theorem kM {P:Program} {w:World} {K:Frag} {tg:Expr} (a it:Addr):Turn P w K tg (Itt K a) [it] it (fun i h=>h.IsTupleIter it a i) where
 mem:=by simp
 obj:=fun i h st b hb=>by
  have e:b=it:=by simpa using hb
  subst e
  obtain ⟨o,e,c,d⟩:=st
  exact ⟨o,e,fun v z=>by rw [d] at z; cases z⟩
 keep:=fun i h h' st k=>st.at fun o e=>k it (by simp) o e
 item:=by
  intro X hP hw hK hc i pins s σ H E I hf st hg
  subst hP hw hK
  obtain ⟨xs,x,hq,hx⟩:=hg
  obtain ⟨its,rv,p,hz⟩:=I.tuple hq
  obtain ⟨u,hu,ru⟩:=rv.get hx
  obtain ⟨f0,f1,f2,f3,f4,f5⟩:=hf it (by simp)
  refine wpAny_pyNext_tuple_item st (show s.heap.IsTuple a its.toArray from p) (x:=u) (by simpa using hu) fun h' EK sb=>?_
  have I1:Inv X pins σ H { s with heap:=h' }:=I.turned (t':=s.toks) (fun b o hb e=>(sb.2 b hb).trans e) f0 f1 f3 f4 f5
  obtain ⟨o,e,c,d⟩:=id EK
  exact ⟨u,rfl,gm (s:={ s with heap:=h' }) e c d (by decide) ⟨x,H,I1,ru,⟨rfl,fun ys hy=>by rw [I.tuple_inj hy hq]; exact hx⟩,EK,fun b hb=>(hf b hb).1⟩⟩
 done:=by
  intro X hP hw hK hc i pins s σ H E I hf st hg
  subst hP hw hK
  obtain ⟨xs,hq,hx⟩:=hg
  obtain ⟨its,rv,p,hz⟩:=I.tuple hq
  obtain ⟨f0,f1,f2,f3,f4,f5⟩:=hf it (by simp)
  have hl:=rv.length
  exact wpAny_pyNext_tuple_end (I.ok.hd hc) st (show s.heap.IsTuple a its.toArray from p) (by simp; omega) fun h' eb=>⟨rfl,I.turned (t':=s.toks) (fun b o hb e=>eb b o hb e) f0 f1 f3 f4 f5⟩
 self:=fun _ _ _ _ _ st h=>wpAny_pyIter_tupleiter st h
theorem kN {P:Program} {w:World} {K:Frag} {tg:Expr} (it:Addr) (lo:Int) (n:Nat):Turn P w K tg (Itr lo n) [it] it (fun i h=>IsRangeIter h it (lo+(i:Nat)*1) ((n:Int)-(i:Nat)) 1) where
 mem:=by simp
 obj:=fun i h st b hb=>by
  have e:b=it:=by simpa using hb
  subst e
  exact ⟨_,st,fun v z=>by
   have z':Data.fields _=Data.cell v:=z
   cases z'⟩
 keep:=fun i h h' st k=>k it (by simp) _ st
 item:=by
  intro X hP hw hK hc i pins s σ H E I hf st hg
  subst hP hw hK
  obtain ⟨f0,f1,f2,f3,f4,f5⟩:=hf it (by simp)
  have W:=Walks.range (prog:=X.prog) (w:=X.w) (I.ok.hd hc) it lo 1 n
  refine W.item i s _ _ hg st fun v h' tk hv EK kk=>?_
  obtain ⟨t,rfl⟩:=hv
  have I1:Inv X pins σ H { s with heap:=h',toks:=tk }:=I.turned (fun b o hb e=>kk b o (by simpa using hb) e) f0 f1 f3 f4 f5
  refine ⟨_,rfl,gm (s:={ s with heap:=h',toks:=tk }) (n := "range_iterator") EK rfl rfl (by decide) ⟨.int (lo+i),H,I1,⟨t,?_⟩,⟨rfl,rfl⟩,EK,fun b hb=>(hf b hb).1⟩⟩
  rw [Int.mul_one]
 done:=by
  intro X hP hw hK hc i pins s σ H E I hf st hg
  subst hP hw hK
  obtain ⟨f0,f1,f2,f3,f4,f5⟩:=hf it (by simp)
  exact wpAny_pyNext_range_end (I.ok.hd hc) st (by have:n<=i:=hg; omega) fun h' eb=>⟨rfl,I.turned (t':=s.toks) (fun b o hb e=>eb b o hb e) f0 f1 f3 f4 f5⟩
 self:=fun _ _ _ _ _ st h=>wpAny_pyIter_rangeiter st h
end L2
namespace L2
open PySem PySem.Spec PyProof.Rows
section
variable {X:Cx} {tg:Expr}
theorem qM {pins:List (Addr×Obj)} {σ:St} {H:Hp} {s:Shared} {R:It->Hp->Prop} {E:Value->Shared->Prop} {lo hi:Int} {t u v:Tok} {tk:Nat} (I:Inv X pins σ H s) (h1:-(2^62)<=lo) (h2:lo<2^62) (h3:-(2^62)<=hi) (h4:hi<2^62)
  (q:R (Itr lo (hi-lo).toNat) H):wpAny (model X.prog X.w) X.A (pyIter (.ref s.heap.objs.size)) (PIE X pins σ tg R) E { s with heap:=s.heap.push { cls:=.type "range",data:=.fields #[.int lo t,.int hi u,.int 1 v] },toks:=tk }:=by
 refine wpAny_pyIter_range (IsRange.new ..) (small_one h1 h2 h3 h4) ?_
 have I1:Inv X pins σ H { s with heap:=s.heap.push { cls:=.type "range",data:=.fields #[.int lo t,.int hi u,.int 1 v] },toks:=tk }:=I.kept fun b o e=>Heap.get?_push_of_some _ e
 refine ⟨(s.heap.push { cls:=.type "range",data:=.fields #[.int lo t,.int hi u,.int 1 v] }).objs.size,[(s.heap.push { cls:=.type "range",data:=.fields #[.int lo t,.int hi u,.int 1 v] }).objs.size],_,_,H,rfl,
  I1.kept (t':=tk) fun b o e=>Heap.get?_push_of_some _ e,kN _ lo (hi-lo).toNat,?_,fun b hb=>?_,q⟩
 ·have e1:lo+((0:Nat):Int)*1=lo:=by simp
  have e2:(((hi-lo).toNat:Nat):Int)-((0:Nat):Int)=Builtin.Range.rangeSize lo hi 1:=by rw [rangeSize_one]; split <;> omega
  show IsRangeIter _ _ (lo+((0:Nat):Int)*1) ((((hi-lo).toNat:Nat):Int)-((0:Nat):Int)) 1
  rw [e1,e2]
  exact Heap.get?_push_size _ rfl
 ·have e:b=(s.heap.push { cls:=.type "range",data:=.fields #[.int lo t,.int hi u,.int 1 v] }).objs.size:=by simpa using hb
  subst e
  exact I1.fpOk (Nat.le_refl _) (I1.hok.fresh (Nat.le_refl _))
def tO (ta:TA):TI:=fun σ H R=>ta σ H fun vs H1=>∃ j:Int,vs = [.int j] /\ -(2^62)<=j/\j<2^62/\R (Itr 0 j.toNat) H1
theorem oi {a:Expr} {ta:TA} {p pos:Pos} (hg:Gl X "range") (hm:X.mg "range" = none) (ha:PA X [a] ta) (hs:starEach [a] X.env = [(false,eval a X.env)]:=by rfl):PI X tg (.Call (.Name "range" p) [a] [] pos) (tO ta):=by
 intro pins s σ H R I h
 refine Call_ (P6 I hg hm boot_range (PyProof.Rows.callWith_type1 (thn (ha pos pins s σ H _ I h) fun us s1 zz19=>?_) hs rfl))
 obtain ⟨vs,H1,I1,r1,q1⟩:=zz19
 obtain ⟨j,e,q1,q2,q⟩:=q1
 subst e
 cases r1 with
 | cons r rr=>
  cases rr
  obtain ⟨t,rfl⟩:=r
  exact call_range_1 (qM I1 (by omega) (by omega) q1 q2 (by simpa using q))
def xD (wi:TI) (g:TG) (tb:TS):TS:=fun D σ H=>wi σ H fun J H1=>∃ W:Nat->Nat->St->Hp->Prop,(∃ m,W 0 m σ H1)/\∀ i m σ H,W i m σ H ->
 (J.stop i H/\D.nx σ H)\/(J.go i H/\∃ N:St->Hp->Prop,(∀ σ' H',N σ' H'->∃ m',m'<m/\W (i+1) m' σ' H')/\∀ x H',J.yld i H x H'->g x σ H' fun σ2 H2=>tb { D with nx:=N,ct:=N,bk:=D.nx } σ2 H2)
def aT (fp:List Addr) (h:Heap):List (Addr×Obj):=fp.filterMap fun b=>(h.get? b).map fun o=>(b,o)
theorem Q8 {fp:List Addr} {h:Heap} {b:Addr} {o:Obj} (hb:b∈fp) (e:h.get? b=some o):(b,o)∈aT fp h:=List.mem_filterMap.mpr ⟨b,hb,by rw [e]; rfl⟩
theorem ow {fp:List Addr} {h:Heap} {p:Addr×Obj} (hp:p∈aT fp h):p.1∈fp/\h.get? p.1=some p.2:=by
 obtain ⟨b,hb,e⟩:=List.mem_filterMap.mp hp
 cases q:h.get? b with
 | none=>rw [q] at e; cases e
 | some o=>
  rw [q] at e
  have e':(b,o)=p:=Option.some.inj e
  subst e'
  exact ⟨hb,q⟩
theorem Inv.pinned {pins:List (Addr×Obj)} {σ:St} {H:Hp} {s:Shared} {fp:List Addr} (I:Inv X pins σ H s) (hf:∀ b∈fp,D9 X pins H b) (ho:∀ b∈fp,∃ o,s.heap.get? b=some o/\∀ v,o.data≠.cell v):Inv X (pins++aT fp s.heap) σ H s:=
 I.pins_of fun p hp=>(List.mem_append.mp hp).elim (fun z=>I.pin p (List.mem_append_right _ z)) fun z=>by
  obtain ⟨hb,e⟩:=ow z
  obtain ⟨f0,f1,f2,_⟩:=hf p.1 hb
  obtain ⟨o,e',d⟩:=ho p.1 hb
  rw [e] at e'; cases e'
  exact ⟨e,f0,f1,f2,d⟩
theorem Inv.unpinned {pins pl:List (Addr×Obj)} {σ:St} {H:Hp} {s:Shared} (I:Inv X (pins++pl) σ H s):Inv X pins σ H s:=I.pins_of fun p hp=>I.pin p (List.mem_append_right _ (List.mem_append_left _ hp))
theorem za {iter:Expr} {body:List Stmt} {wi:TI} {g:TG} {tb:TS} {pos:Pos} (hp:PassesOwn (model X.prog X.w) X.A X.env X.xe) (hc:X.calm=true) (hi:PI X tg iter wi) (hg:PG X tg g) (hb:PSs X body tb)
  (hs:∀ x,foldedSetIterable iter X.env x=pure x:=by intro _; rfl):PS X (.For tg iter body [] pos) (xD wi g tb):=by
 intro pins s σ H D I h
 refine wpAny_For (thn (hi pins s σ H _ I h) fun v s1 h1=>thn h1 fun Hk s2 h2=>?_) hs
 obtain ⟨it,fp,tn,J,H2,e,I2,T,Gu,f2,W,⟨m0,w0⟩,turn⟩:=h2
 subst e
 -- what stays true of the iterator's objects through the loop
 have Hg:∀ {H':Hp},(∀ b∈fp,H' b=none)->∀ b∈fp,D9 X pins H' b:=fun hn b hb=>⟨hn b hb,(f2 b hb).2⟩
 refine codeAny_forLoop_any (fun n s'=>∃ i σ' H',Inv X pins σ' H' s'/\tn i s'.heap/\(∀ b∈fp,H' b=none)/\W i n σ' H') ?_ m0 ⟨0,σ,H2,I2,Gu,fun b hb=>(f2 b hb).1,w0⟩
 rintro n s3 ⟨i,σ3,H3,I3,st3,fr3,w3⟩
 rcases turn i n σ3 H3 w3 with ⟨stop,qn⟩ | ⟨go,N,hN,step⟩
 ·refine wpAny_passesOwn hp (thn (T.done X rfl rfl rfl hc i pins s3 σ3 H3 X.xe I3 (Hg fr3) st3 stop) fun r s4 ⟨hr,I4⟩=>?_)
  subst hr
  exact wpAny_execs_nil ⟨σ3,H3,I4,qn⟩
 ·refine wpAny_passesOwn hp (thn (T.item X rfl rfl rfl hc i pins s3 σ3 H3 X.xe I3 (Hg fr3) st3 go) fun r s4 ⟨u,hr,h4⟩=>?_)
  subst hr
  refine wpAny_passesOwn hp (thn h4 fun _ s5 zz22=>?_)
  obtain ⟨x,H5,I5,r5,y5,HC,Jc⟩:=zz22
  have I5':=I5.pinned (Hg Jc) (T.obj _ _ HC)
  refine wpAny_passesOwn hp (thn (hg _ s5 σ3 H5 x u _ I5' r5 (step x H5 y5)) fun _ s6 zz23=>?_)
  obtain ⟨σ6,H6,I6,q6⟩:=zz23
  refine wpAny_passesOwn hp (thn (hb _ s6 σ6 H6 _ I6 q6) fun f s7 q7=>?_)
  have again:∀ {σ7:St} {H7:Hp},Inv X (pins++aT fp s5.heap) σ7 H7 s7->N σ7 H7->∃ m,m<n/\∃ i σ' H',Inv X pins σ' H' s7/\tn i s7.heap/\(∀ b∈fp,H' b=none)/\W i m σ' H':=fun {σ7 H7} I7 n7=>by
   obtain ⟨m',hm,w7⟩:=hN σ7 H7 n7
   refine ⟨m',hm,i+1,σ7,H7,I7.unpinned,T.keep _ _ _ HC fun b hb o e=>(I7.pin (b,o) (List.mem_append_right _ (List.mem_append_right _ (Q8 hb e)))).1,fun b hb=>?_,w7⟩
   obtain ⟨o,e,d⟩:=T.obj _ _ HC b hb
   exact (I7.pin (b,o) (List.mem_append_right _ (List.mem_append_right _ (Q8 hb e)))).2.1
  cases f with
  | next=>obtain ⟨σ7,H7,I7,n7⟩:=q7; exact again I7 n7
  | cont=>obtain ⟨σ7,H7,I7,n7⟩:=q7; exact again I7 n7
  | brk=>obtain ⟨σ7,H7,I7,q7⟩:=q7; exact ⟨σ7,H7,I7.unpinned,q7⟩
  | ret v=>obtain ⟨x7,σ7,H7,I7,r7,q7⟩:=q7; exact ⟨x7,σ7,H7,I7.unpinned,r7,q7⟩
end
end L2
namespace L2
open PySem PySem.Spec PyProof.Rows
abbrev R2:=V->V->Hp->VK->Prop
def OpR (X:Cx) (f:Value->Value->Sem Value) (r:R2):Prop:=
 ∀ (pins:List (Addr×Obj)) (s:Shared) (σ:St) (H:Hp) (x y:V) (v u:Value) (Q:VK),Inv X pins σ H s->RelV x v->RelV y u->r x y H Q ->
  wpAny (model X.prog X.w) X.A (f v u) (EP X pins σ Q) X.xe s
def UnR (X:Cx) (f:Value->Sem Value) (r:V->Hp->VK->Prop):Prop:=
 ∀ (pins:List (Addr×Obj)) (s:Shared) (σ:St) (H:Hp) (x:V) (v:Value) (Q:VK),Inv X pins σ H s->RelV x v->r x H Q ->
  wpAny (model X.prog X.w) X.A (f v) (EP X pins σ Q) X.xe s
def E2 (X:Cx) (f:Value) (r:List V->Hp->VK->Prop):Prop:=
 ∀ (pins:List (Addr×Obj)) (s:Shared) (σ:St) (H:Hp) (xs:List V) (us:List Value) (Q:VK),Inv X pins σ H s->Vals xs us->r xs H Q ->
  wpAny (model X.prog X.w) X.A (call f us) (EP X pins σ Q) X.xe s
def tOp (r:R2) (ta tb:TE):TE:=fun σ H Q=>ta σ H fun x H1=>tb σ H1 fun y H2=>r x y H2 Q
def tUn (r:V->Hp->VK->Prop) (ta:TE):TE:=fun σ H Q=>ta σ H fun x H1=>r x H1 Q
def rI (C:Int->Int->Prop) (g:Int->Int->V):R2:=fun x y H Q=>∃ i j,x=.int i/\y=.int j/\C i j/\Q (g i j) H
def rI0 (g:Int->Int->V):R2:=fun x y H Q=>∃ i j,x=.int i/\y=.int j/\Q (g i j) H
def rU (g:Int->V):V->Hp->VK->Prop:=fun x H Q=>∃ i,x=.int i/\Q (g i) H
section
variable {X:Cx} {a b c:Expr} {ta tb tc:TE} {pos:Pos}
theorem sO (ha:PE X a ta) (hb:PE X b tb) {pins:List (Addr×Obj)} {s:Shared} {σ:St} {H:Hp} {R:V->V->Hp->Prop} (I:Inv X pins σ H s)
  (h:ta σ H fun x H1=>tb σ H1 fun y H2=>R x y H2) {Q:Value->Shared->Prop} {f:Value->Value->Sem Value}
  (hf:∀ v u s2 x y H2,Inv X pins σ H2 s2->RelV x v->RelV y u->R x y H2->wpAny (model X.prog X.w) X.A (f v u) Q X.xe s2) :
  wpAny (model X.prog X.w) X.A (eval a X.env) (fun v s₁=>wpAny (model X.prog X.w) X.A (eval b X.env) (fun u s₂=>wpAny (model X.prog X.w) X.A (f v u) Q X.xe s₂) X.xe s₁) X.xe s:=by
 refine thn (ha pins s σ H _ I h) fun v s1 zz24=>?_
 obtain ⟨x,H1,I1,r1,q1⟩:=zz24
 refine thn (hb pins s1 σ H1 _ I1 q1) fun u s2 zz25=>?_
 obtain ⟨y,H2,I2,r2,q2⟩:=zz25
 exact hf v u s2 x y H2 I2 r1 r2 q2
theorem CM {op:Operator} {r:R2} (ho:OpR X (binaryOp op) r) (ha:PE X a ta) (hb:PE X b tb):PE X (.BinOp a op b pos) (tOp r ta tb):=by
 intro pins s σ H Q I h
 exact wpAny_BinOp (sO ha hb I h fun v u s2 x y H2 I2 rx ry q=>ho pins s2 σ H2 x y v u Q I2 rx ry q)
theorem CK {op:UnaryOp} {r:V->Hp->VK->Prop} (ho:UnR X (unaryOp op) r) (ha:PE X a ta):PE X (.UnaryOp op a pos) (tUn r ta):=by
 intro pins s σ H Q I h
 exact UnaryOp_ (thn (ha pins s σ H _ I h) fun v s1 zz26=>by obtain ⟨x,H1,I1,r1,q1⟩:=zz26; exact ho pins s1 σ H1 x v Q I1 r1 q1)
theorem opI {f:Value->Value->Sem Value} {C:Int->Int->Prop} {g:Int->Int->Int}
  (rule:∀ (i j:Int) (t u:Tok) (s:Shared) (Q:Value->Shared->Prop) (E:Value->Shared->Prop),C i j->Q (.int (g i j) s.toks) { s with toks:=s.toks+1 }->wpAny (model X.prog X.w) X.A (f (.int i t) (.int j u)) Q E s) :
  OpR X f (rI C fun i j=>.int (g i j)):=by
 intro pins s σ H x y v u Q I rx ry h
 obtain ⟨i,j,rfl,rfl,hc,q⟩:=h
 obtain ⟨t,rfl⟩:=rx
 obtain ⟨t',rfl⟩:=ry
 exact rule i j t t' s _ _ hc ⟨.int (g i j),H,I.tok _,⟨_,rfl⟩,q⟩
theorem zq {f:Value->Value->Sem Value} {g:Int->Int->Int}
  (rule:∀ (i j:Int) (t u:Tok) (s:Shared) (Q:Value->Shared->Prop) (E:Value->Shared->Prop),Q (.int (g i j) s.toks) { s with toks:=s.toks+1 }->wpAny (model X.prog X.w) X.A (f (.int i t) (.int j u)) Q E s) :
  OpR X f (rI0 fun i j=>.int (g i j)):=by
 intro pins s σ H x y v u Q I rx ry h
 obtain ⟨i,j,rfl,rfl,q⟩:=h
 obtain ⟨t,rfl⟩:=rx
 obtain ⟨t',rfl⟩:=ry
 exact rule i j t t' s _ _ ⟨.int (g i j),H,I.tok _,⟨_,rfl⟩,q⟩
theorem lD {f:Value->Value->Sem Value} {g:Int->Int->Bool}
  (rule:∀ (i j:Int) (t u:Tok) (s:Shared) (Q:Value->Shared->Prop) (E:Value->Shared->Prop),Q (.bool (g i j)) s->wpAny (model X.prog X.w) X.A (f (.int i t) (.int j u)) Q E s) :
  OpR X f (rI0 fun i j=>.bl (g i j)):=by
 intro pins s σ H x y v u Q I rx ry h
 obtain ⟨i,j,rfl,rfl,q⟩:=h
 obtain ⟨t,rfl⟩:=rx
 obtain ⟨t',rfl⟩:=ry
 exact rule i j t t' s _ _ ⟨.bl (g i j),H,I,rfl,q⟩
def bq (i j:Int):Prop:=0<j/\j<1073741824
def N5 (i j:Int):Prop:=0<=j/\j<=1000000/\i.natAbs<2^64
def CMul (i j:Int):Prop:=(-(2^64)<i/\i<2^64)\/(-(2^64)<j/\j<2^64)
theorem CMul.ok {i j:Int} (h:CMul i j):IntMulOk i j:=by
 rcases h with ⟨h1,h2⟩ | ⟨h1,h2⟩
 ·exact .of_left (intBits_le_64 h1 h2)
 ·exact .of_right (intBits_le_64 h1 h2)
theorem k7:OpR X (binaryOp .Add) (rI0 fun i j=>.int (i+j)):=zq fun _ _ _ _ _ _ _ q=>add_int q
theorem aV:OpR X (binaryOp .Sub) (rI0 fun i j=>.int (i-j)):=zq fun _ _ _ _ _ _ _ q=>sub_int q
theorem F6:OpR X (binaryOp .Mult) (rI CMul fun i j=>.int (i*j)):=opI fun _ _ _ _ _ _ _ hc q=>mul_int q hc.ok
theorem vm:OpR X (binaryOp .FloorDiv) (rI bq fun i j=>.int (i/j)):=opI fun i j _ _ _ _ _ hc q=>by
 have h1:(0:Int)<j:=hc.1
 have h2:j<1073741824:=hc.2
 exact floordiv_int (by omega) (by rw [Int.fdiv_eq_ediv_of_nonneg i (by omega)]; exact q) (.inl (PyProof.noPylong_small (by omega)))
theorem S9:OpR X (binaryOp .Mod) (rI (fun _ j=>0<j) fun i j=>.int (i%j)):=opI fun i j _ _ _ _ _ hc q=>by
 have h1:(0:Int)<j:=hc
 exact mod_int' (by omega) (by rw [Int.fmod_eq_emod_of_nonneg i (by omega)]; exact q)
theorem dj:OpR X (binaryOp .Pow) (rI N5 fun i j=>.int (i^j.toNat)):=opI fun _ _ _ _ _ _ _ hc q=>pow_int_small hc.1 hc.2.1 hc.2.2 q
theorem unI {f:Value->Sem Value} {g:Int->Int}
  (rule:∀ (i:Int) (t:Tok) (s:Shared) (Q:Value->Shared->Prop) (E:Value->Shared->Prop),Q (.int (g i) s.toks) { s with toks:=s.toks+1 }->wpAny (model X.prog X.w) X.A (f (.int i t)) Q E s) :
  UnR X f (rU fun i=>.int (g i)):=by
 intro pins s σ H x v Q I rx h
 obtain ⟨i,rfl,q⟩:=h
 obtain ⟨t,rfl⟩:=rx
 exact rule i t s _ _ ⟨.int (g i),H,I.tok _,⟨_,rfl⟩,q⟩
theorem cU:UnR X (unaryOp .USub) (rU fun i=>.int (-i)):=unI fun _ _ _ _ _ q=>neg_int q
end
def hJ:V->V->Bool
 | .non,.non=>true | .non,.int _=>true | .int _,.non=>true | .non,.bl _=>true | .bl _,.non=>true | .non,.str _=>true | .str _,.non=>true
 | .int _,.int _=>true | .bl _,.bl _=>true | .str _,.str _=>true | .byt _,.byt _=>true
 | .int _,.str _=>true | .str _,.int _=>true | .bl _,.str _=>true | .str _,.bl _=>true
 | _,_=>false
def rEq:R2:=fun x y H Q=>hJ x y=true/\Q (.bl (decide (x=y))) H
def rNe:R2:=fun x y H Q=>hJ x y=true/\Q (.bl (!decide (x=y))) H
theorem kB {i j:Int}:decide (V.int i=V.int j)=(i == j):=by
 rw [Bool.eq_iff_iff]
 simp
theorem pp {i j:Bool}:decide (V.bl i=V.bl j)=(i == j):=by
 rw [Bool.eq_iff_iff]
 simp
theorem kA {i j:Str}:decide (V.str i=V.str j)=(i == j):=by
 rw [Bool.eq_iff_iff]
 simp
theorem kC {i j:Array UInt8}:decide (V.byt i=V.byt j)=(i.toList == j.toList):=by
 rw [Bool.eq_iff_iff]
 cases i
 cases j
 simp
section
variable {X:Cx} {a b c:Expr} {ta tb tc:TE} {pos:Pos}
theorem i6 {pins:List (Addr×Obj)} {σ:St} {H:Hp} {s:Shared} {Q:VK} {k k':Bool} (I:Inv X pins σ H s) (q:Q (.bl k) H) (e:k=k'):EP X pins σ Q (.bool k') s:=by
 subst e
 exact ⟨.bl k,H,I,rfl,q⟩
theorem N9:OpR X (compareOp .Eq) rEq:=by
 intro pins s σ H x y v u Q I rx ry h
 obtain ⟨hs,q⟩:=h
 cases x with
 | non=>
  cases rx
  cases y with
  | non=>cases ry; exact PySem.EqNone.eq_none_none (i6 I q (by simp))
  | bl j=>cases ry; exact PySem.EqNone.eq_none_bool (i6 I q (by simp))
  | int j=>obtain ⟨t',rfl⟩:=ry; exact PySem.EqNone.eq_none_int (i6 I q (by simp))
  | str j=>obtain ⟨t',rfl⟩:=ry; exact PySem.EqNone.eq_none_str (i6 I q (by simp))
  | _=>exact absurd (show false=true from hs) Bool.false_ne_true
 | bl i=>
  cases rx
  cases y with
  | non=>cases ry; exact PySem.EqNone.eq_bool_none (i6 I q (by simp))
  | bl j=>cases ry; exact eq_bool (i6 I q pp)
  | str j=>obtain ⟨t',rfl⟩:=ry; exact PySem.EqMixed.eq_bool_str (i6 I q (by simp))
  | _=>exact absurd (show false=true from hs) Bool.false_ne_true
 | int i=>
  obtain ⟨t,rfl⟩:=rx
  cases y with
  | non=>cases ry; exact PySem.EqNone.eq_int_none (i6 I q (by simp))
  | int j=>obtain ⟨t',rfl⟩:=ry; exact eq_int (i6 I q kB)
  | str j=>obtain ⟨t',rfl⟩:=ry; exact PySem.EqMixed.eq_int_str (i6 I q (by simp))
  | _=>exact absurd (show false=true from hs) Bool.false_ne_true
 | str i=>
  obtain ⟨t,rfl⟩:=rx
  cases y with
  | non=>cases ry; exact PySem.EqNone.eq_str_none (i6 I q (by simp))
  | bl j=>cases ry; exact PySem.EqMixed.eq_str_bool (i6 I q (by simp))
  | int j=>obtain ⟨t',rfl⟩:=ry; exact PySem.EqMixed.eq_str_int (i6 I q (by simp))
  | str j=>obtain ⟨t',rfl⟩:=ry; exact eq_str (i6 I q kA)
  | _=>exact absurd (show false=true from hs) Bool.false_ne_true
 | byt i=>
  obtain ⟨t,rfl⟩:=rx
  cases y with
  | byt j=>obtain ⟨t',rfl⟩:=ry; exact PySem.W.eq_bytes (i6 I q kC)
  | _=>exact absurd (show false=true from hs) Bool.false_ne_true
 | _=>cases y <;> exact absurd (show false=true from hs) Bool.false_ne_true
theorem tK:OpR X (compareOp .NotEq) rNe:=by
 intro pins s σ H x y v u Q I rx ry h
 obtain ⟨hs,q⟩:=h
 cases x with
 | non=>
  cases rx
  cases y with
  | non=>cases ry; exact PySem.EqNone.ne_none_none (i6 I q (by simp))
  | bl j=>cases ry; exact PySem.EqNone.ne_none_bool (i6 I q (by simp))
  | int j=>obtain ⟨t',rfl⟩:=ry; exact PySem.EqNone.ne_none_int (i6 I q (by simp))
  | str j=>obtain ⟨t',rfl⟩:=ry; exact PySem.EqNone.ne_none_str (i6 I q (by simp))
  | _=>exact absurd (show false=true from hs) Bool.false_ne_true
 | bl i=>
  cases rx
  cases y with
  | non=>cases ry; exact PySem.EqNone.ne_bool_none (i6 I q (by simp))
  | bl j=>cases ry; exact ne_bool (i6 I q (congrArg not pp))
  | str j=>obtain ⟨t',rfl⟩:=ry; exact PySem.EqMixed.ne_bool_str (i6 I q (by simp))
  | _=>exact absurd (show false=true from hs) Bool.false_ne_true
 | int i=>
  obtain ⟨t,rfl⟩:=rx
  cases y with
  | non=>cases ry; exact PySem.EqNone.ne_int_none (i6 I q (by simp))
  | int j=>obtain ⟨t',rfl⟩:=ry; exact ne_int (i6 I q (congrArg not kB))
  | str j=>obtain ⟨t',rfl⟩:=ry; exact PySem.EqMixed.ne_int_str (i6 I q (by simp))
  | _=>exact absurd (show false=true from hs) Bool.false_ne_true
 | str i=>
  obtain ⟨t,rfl⟩:=rx
  cases y with
  | non=>cases ry; exact PySem.EqNone.ne_str_none (i6 I q (by simp))
  | bl j=>cases ry; exact PySem.EqMixed.ne_str_bool (i6 I q (by simp))
  | int j=>obtain ⟨t',rfl⟩:=ry; exact PySem.EqMixed.ne_str_int (i6 I q (by simp))
  | str j=>obtain ⟨t',rfl⟩:=ry; exact ne_str (i6 I q (congrArg not kA))
  | _=>exact absurd (show false=true from hs) Bool.false_ne_true
 | byt i=>
  obtain ⟨t,rfl⟩:=rx
  cases y with
  | byt j=>obtain ⟨t',rfl⟩:=ry; exact PySem.W.ne_bytes (i6 I q (congrArg not kC))
  | _=>exact absurd (show false=true from hs) Bool.false_ne_true
 | _=>cases y <;> exact absurd (show false=true from hs) Bool.false_ne_true
theorem gi:OpR X (compareOp .Lt) (rI0 fun i j=>.bl (decide (i<j))):=lD fun _ _ _ _ _ _ _ q=>lt_int q
theorem tL:OpR X (compareOp .LtE) (rI0 fun i j=>.bl (decide (i<=j))):=lD fun _ _ _ _ _ _ _ q=>le_int q
theorem bG:OpR X (compareOp .Gt) (rI0 fun i j=>.bl (decide (j<i))):=lD fun _ _ _ _ _ _ _ q=>gt_int q
theorem CQ:OpR X (compareOp .GtE) (rI0 fun i j=>.bl (decide (j<=i))):=lD fun _ _ _ _ _ _ _ q=>ge_int q
theorem T0:OpR X (compareOp .Is) (fun x y H Q=>y=.non/\Q (.bl (decide (x=.non))) H):=by
 intro pins s σ H x y v u Q I rx ry h
 obtain ⟨rfl,q⟩:=h
 cases ry
 refine is_none_gen (i6 I q ?_)
 cases x <;> first
  | (cases rx; rfl)
  | (obtain ⟨t,rfl⟩:=rx; rfl)
theorem eO:OpR X (compareOp .IsNot) (fun x y H Q=>y=.non/\Q (.bl (!decide (x=.non))) H):=by
 intro pins s σ H x y v u Q I rx ry h
 obtain ⟨rfl,q⟩:=h
 cases ry
 refine isnot_none_gen (i6 I q ?_)
 cases x <;> first
  | (cases rx; rfl)
  | (obtain ⟨t,rfl⟩:=rx; rfl)
theorem iB (b:Expr) {op:CmpOp} (h:op≠.In:=by decide) (h2:op≠.NotIn:=by decide):behindInMarks op b=false:=by
 have e1:(op == CmpOp.In)=false:=by cases op <;> first | rfl | exact absurd rfl h
 have e2:(op == CmpOp.NotIn)=false:=by cases op <;> first | rfl | exact absurd rfl h2
 cases b <;> simp [behindInMarks,e1,e2]
theorem vi {op:CmpOp} {r:R2} (ho:OpR X (compareOp op) r) (ha:PE X a ta) (hb:PE X b tb) (hm:behindInMarks op b=false):PE X (.Compare a [op] [b] pos) (tOp r ta tb):=by
 intro pins s σ H Q I h
 exact wpAny_Compare1 (sO ha hb I h fun v u s2 x y H2 I2 rx ry q=>ho pins s2 σ H2 x y v u Q I2 rx ry q) hm
def kQ (t:TE):TT:=fun σ H Q=>t σ H fun x H'=>∃ k,x=.bl k/\Q k H'
theorem vb {op:CmpOp} {r:R2} (ho:OpR X (compareOp op) r) (ha:PE X a ta) (hb:PE X b tb) (hm:behindInMarks op b=false):PT X (.Compare a [op] [b] pos) (kQ (tOp r ta tb)):=by
 intro pins s σ H Q I h
 refine wpAny_isTrue_Compare1 (thn (ha pins s σ H _ I h) fun v s1 ⟨x,H1,I1,r1,q1⟩=>thn (hb pins s1 σ H1 _ I1 q1) fun u s2 ⟨y,H2,I2,r2,q2⟩=>
  thn (ho pins s2 σ H2 x y v u _ I2 r1 r2 q2) fun c s3 ⟨z,H3,I3,r3,k,e,q3⟩=>?_) hm
 subst e
 cases r3
 exact wpAny_truthy_bool ⟨H3,I3,q3⟩
def xE (r r':R2) (ta tb tc:TE):TE:=fun σ H Q=>ta σ H fun x H1=>tb σ H1 fun y H2=>r x y H2 fun z H3=>∃ k,z=.bl k /\
 (if k=true then tc σ H3 fun w' H4=>r' y w' H4 Q else Q (.bl false) H3)
theorem qT {op Hi:CmpOp} {r r':R2} (ho:OpR X (compareOp op) r) (FM:OpR X (compareOp Hi) r') (ha:PE X a ta) (hb:PE X b tb) (hc:PE X c tc)
  (hm:lastMarks [op,Hi] [b,c]=false:=by with_unfolding_all rfl):PT X (.Compare a [op,Hi] [b,c] pos) (kQ (xE r r' ta tb tc)):=by
 intro pins s σ H Q I h
 refine isTrue_chain (thn (ha pins s σ H _ I h) fun v s1 ⟨x,H1,I1,r1,q1⟩=>test_link (thn (hb pins s1 σ H1 _ I1 q1) fun u s2 ⟨y,H2,I2,r2,q2⟩=>
  thn (ho pins s2 σ H2 x y v u _ I2 r1 r2 q2) fun d s3 ⟨z,H3,I3,r3,k,e,q3⟩=>?_)) hm
 subst e
 cases r3
 refine wpAny_truthy_bool ?_
 cases k with
 | false=>
  obtain ⟨k',e',q'⟩:=q3
  cases e'
  exact ite_ff ⟨H3,I3,q'⟩
 | true=>
  refine ite_tt (test_last (thn (hc pins s3 σ H3 _ I3 q3) fun w' s4 ⟨z',H4,I4,r4,q4⟩=>thn (FM pins s4 σ H4 y z' u w' _ I4 r2 r4 q4) fun d' s5 zz34=>?_))
  obtain ⟨z2,H5,I5,r5,k2,e2,q5⟩:=zz34
  subst e2
  cases r5
  exact wpAny_truthy_bool ⟨H5,I5,q5⟩
theorem aZ:(sizeLine:Nat)<2^63:=by rw [sizeLine_eq]; decide
theorem vals1 {x:V} {us:List Value} (r:Vals [x] us):∃ u,us = [u]/\RelV x u:=by
 cases r with
 | cons r1 r2=>cases r2; exact ⟨_,rfl,r1⟩
theorem vals2 {x y:V} {us:List Value} (r:Vals [x,y] us):∃ u w',us = [u,w']/\RelV x u/\RelV y w':=by
 cases r with
 | cons r1 r2=>
  cases r2 with
  | cons r3 r4=>cases r4; exact ⟨_,_,rfl,r1,r3⟩
theorem fV (hc:X.calm=true):E2 X (.builtin "max") (fun xs H Q=>∃ i j,xs = [.int i,.int j]/\Q (.int (if j>i then j else i)) H):=by
 intro pins s σ H xs us Q I r h
 obtain ⟨i,j,rfl,q⟩:=h
 obtain ⟨u,w',rfl,⟨t,rfl⟩,⟨t',rfl⟩⟩:=vals2 r
 refine max_two_ints (I.ok.hd hc) fun h' tk k=>⟨_,H,I.kept k,?_,q⟩
 by_cases hj:j>i
 ·rw [if_pos hj,if_pos hj]; exact ⟨_,rfl⟩
 ·rw [if_neg hj,if_neg hj]; exact ⟨_,rfl⟩
end
end L2
namespace L2
open PySem PySem.Spec PyProof.Rows
structure ObjM (h:Heap) (x dx C:Addr) (mA:Str->Option Value):Prop where
 obj:h.get? x=some (PySem.W.instObj C dx)
 ns:h.Ns1 dx mA
 ne:dx≠x
theorem oF {h:Heap} {dx:Addr} {mA:Str->Option Value} (n:h.Ns1 dx mA):∃ od,h.get? dx=some od/\∀ name,PySem.W.lookIn name od=some (mA name):=by
 obtain ⟨o,es,ep,ho,hd,hk,_,hm⟩:=n
 refine ⟨o,ho,fun name=>?_⟩
 have e:=hm name
 unfold nsFind findBy at e
 rw [<- Array.find?_toList] at e
 unfold PySem.W.lookIn
 rw [hd]
 dsimp only
 split
 ·rename_i y q
  rw [q] at e
  exact congrArg some e
 ·rename_i q
  rw [q] at e
  have a:es.toList.any (·.refKey)=false:=by
   rw [List.any_eq_false]
   intro y hy
   obtain ⟨z,t,Fu⟩:=hk y (Array.mem_toList_iff.mp hy)
   simp [DictEntry.refKey,Fu]
  have a':¬ es.toList.any (·.refKey)=true:=by rw [a]; exact Bool.false_ne_true
  rw [if_neg a']
  exact congrArg some e
theorem ObjM.look {h:Heap} {x dx C:Addr} {mA:Str->Option Value} (I:ObjM h x dx C mA):∃ od,PySem.W.InstAt h x (PySem.W.instObj C dx) C (some od)/\∀ name,PySem.W.lookIn name od=some (mA name):=
 let ⟨od,ho,hl⟩:=oF I.ns
 ⟨od,⟨I.obj,rfl,rfl,ho⟩,hl⟩
section
variable {prog:Program} {w:World} {A:Around} {E:Value->Shared->Prop} {s:Shared} {K:Frag} {x dx C f:Addr} {mA:Str->Option Value} {name:Str} {v:Value}
end
section
variable {P:Program} {w:World} {H H':Hp} {h h':Heap} {a C dx:Addr} {fs fs':List (Str×V)}
theorem vZ (hok:HOk P w H h) (e:H a=some (.ins C dx fs)):∃ mA,ObjM h a dx C mA/\(∀ f,sT (fs.lookup f) (mA f))/\PySem.Within mA (fs.map (·.1))/\fs.length<=1000/\H dx=some (.own a):=by
 obtain ⟨d,z,ne,ob,mA,n,r,q⟩:=(show ObjOk P w H h a (.ins C dx fs) from hok a _ e)
 exact ⟨mA,⟨ob,n,ne⟩,r,q,z,d⟩
end
structure Cls (K:Frag) (C:Addr):Prop where
 pg:PySem.W.plainGet K C Str.empty=true
 hd:PySem.W.hasDictIn K C=true
 po:PySem.W.plainOver K C=true
 sa:PySem.W.findIn K (.ref C) "__setattr__" = some (some (.builtin "object.__setattr__"))
theorem Cls.get {K:Frag} {C:Addr} (c:Cls K C) (f:Str):PySem.W.plainGet K C f=true:=c.pg
section
variable {X:Cx} {pins:List (Addr×Obj)} {σ:St} {H:Hp} {s:Shared} {a C dx:Addr} {fs:List (Str×V)} {f:Str} {v:V} {A:Around} {E:Value->Shared->Prop}
end
section
variable {X:Cx} {o e value:Expr} {f:Str} {pos pos' tpos:Pos} {ta tv:TE}
end
section
variable {X:Cx} {pins:List (Addr×Obj)} {σ:St} {H:Hp} {s:Shared} {A:Around} {E:Value->Shared->Prop} {Q:Value->Shared->Prop} {c:Value} {b:Bool}
inductive N4 (K:Frag) (H:Hp):V->Value->Prop where
 | non:N4 K H .non (.type "NoneType")
 | bl (x:Bool):N4 K H (.bl x) (.type "bool")
 | int (i:Int):N4 K H (.int i) (.type "int")
 | str (x:Str):N4 K H (.str x) (.type "str")
 | flt (x:UInt64):N4 K H (.flt x) (.type "float")
 | lst {a:Addr} {xs:List V} (e:H a=some (.lst xs)):N4 K H (.ref a) (.type "list")
 | frz {a:Addr} {o:Obj} {xs:List V} (e:H a=some (.frz o (.lst xs))):N4 K H (.ref a) (.type "list")
 | tup {a:Addr} {xs:List V} (e:H a=some (.tup xs)):N4 K H (.ref a) (.type "tuple")
 | dK {a:Addr} {EQ:List (Key×V)} (e:H a=some (.dK EQ)):N4 K H (.ref a) (.type "dict")
 | dT {a:Addr} {EQ:List (List Key×V)} (e:H a=some (.dT EQ)):N4 K H (.ref a) (.type "dict")
 | ins {a C dx:Addr} {fs:List (Str×V)} (e:H a=some (.ins C dx fs)) (cl:Cls K C) (ha:PySem.W.findIn K (.ref C) "__class__" = some (some (.builtin "object.__class__")))
   (hn:PySem.W.specialIn K (.builtin "object.__class__") "__get__" = some (some (.builtin "getset_descriptor.__get__"))) (htk:PySem.W.takesIn K (.builtin "object.__class__")=some true)
   (hm:PySem.W.mroIn K C (.type "object")=some true):N4 K H (.ref a) (.ref C)
theorem oO {x:V} {u t:Value} (I:Inv X pins σ H s) (rx:RelV x u) (ty:N4 X.K H x t) (e:PySem.W.kitOne X.K t c=some b) (h:∀ tk,Q (.bool b) { s with toks:=tk }) :
  wpAny (model X.prog X.w) A (call (.builtin "isinstance") [u,c]) Q E s:=by
 cases ty with
 | non=>cases (show u=Value.none from rx); exact PySem.W.kia_one PySem.W.kitx_none I.kIn True.intro e (fun z=>nomatch z) h
 | bl y=>cases (show u=Value.bool y from rx); exact PySem.W.kia_one PySem.W.kitx_bool I.kIn True.intro e (fun z=>nomatch z) h
 | int i=>obtain ⟨t,q⟩:=(show ∃ t,u=Value.int i t from rx); cases q; exact PySem.W.kia_one PySem.W.kitx_int I.kIn True.intro e (fun z=>nomatch z) h
 | str y=>obtain ⟨t,q⟩:=(show ∃ t,u=Value.str y t from rx); cases q; exact PySem.W.kia_one PySem.W.kitx_str I.kIn True.intro e (fun z=>nomatch z) h
 | flt y=>obtain ⟨t,q⟩:=(show ∃ t,u=Value.float y t from rx); cases q; exact PySem.W.kia_one PySem.W.kitx_float I.kIn True.intro e (fun z=>nomatch z) h
 | @lst a xs ea=>
  cases (show u=Value.ref a from rx)
  obtain ⟨_,_,n,_,h1⟩:=(show ObjOk X.prog X.w H s.heap a (.lst xs) from I.hok a _ ea)
  exact PySem.W.kia_one PySem.W.kitx_list I.kIn ⟨_,h1,rfl⟩ e (fun z=>nomatch z) h
 | @frz a ob xs ea=>
  cases (show u=Value.ref a from rx)
  obtain ⟨_,_,_,n,_,h1⟩:=(show ObjOk X.prog X.w H s.heap a (.frz ob (.lst xs)) from I.hok a _ ea)
  exact PySem.W.kia_one PySem.W.kitx_list I.kIn ⟨_,h1,rfl⟩ e (fun z=>nomatch z) h
 | @tup a xs ea=>
  cases (show u=Value.ref a from rx)
  obtain ⟨_,_,_,p⟩:=(show ObjOk X.prog X.w H s.heap a (.tup xs) from I.hok a _ ea)
  obtain ⟨o,h1,h2,_⟩:=p
  exact PySem.W.kia_one PySem.W.kitx_tuple I.kIn ⟨o,h1,h2⟩ e (fun z=>nomatch z) h
 | @dK a EQ ea=>
  cases (show u=Value.ref a from rx)
  obtain ⟨_,_,vs,_,p⟩:=(show ObjOk X.prog X.w H s.heap a (.dK EQ) from I.hok a _ ea)
  obtain ⟨o,es,ep,h1,h2,_⟩:=p
  exact PySem.W.kia_one PySem.W.kitx_dict I.kIn ⟨o,h1,h2.1⟩ e (fun z=>nomatch z) h
 | @dT a EQ ea=>
  cases (show u=Value.ref a from rx)
  obtain ⟨_,_,xs,_,o,es,ep,h1,h2,_⟩:=(show ObjOk X.prog X.w H s.heap a (.dT EQ) from I.hok a _ ea)
  exact PySem.W.kia_one PySem.W.kitx_dict I.kIn ⟨o,h1,h2.1⟩ e (fun z=>nomatch z) h
 | @ins a C dx fs ea cl ha hn htk hm=>
  cases (show u=Value.ref a from rx)
  obtain ⟨mA,O,_⟩:=vZ I.hok ea
  obtain ⟨od,J,_⟩:=O.look
  exact PySem.W.kia_one (PySem.W.kitx_own (cl.get _) cl.hd ha hn htk hm) I.kIn J e (fun z=>nomatch z) h
end
end L2
namespace L2
open PySem PySem.Spec PyProof.Rows
structure Room (k:Nat) (A:Around):Prop where
 hd:A.handled=none
 dp:A.depth+3*k+5<recursionLimit
 un:A.units+16*k+200<cLine
theorem Room.mono {j k:Nat} {A:Around} (r:Room k A) (h:j<=k):Room j A:=⟨r.hd,by have:=r.dp; omega,by have:=r.un; omega⟩
theorem Room.deeper {k:Nat} {A:Around} (r:Room (k+1) A) (env:Env):Room k (A.deeper env):=
 ⟨r.hd,by have:=r.dp; show A.depth+1+3*k+5<_; omega,by have:=r.un; show A.units+3+16*k+200<_; omega⟩
theorem Room.in1 {k:Nat} {A:Around} (r:Room (k+1) A):Room k A.in1:=
 ⟨r.hd,by have:=r.dp; show A.depth+3*k+5<_; omega,by have:=r.un; show A.units+1+16*k+200<_; omega⟩
theorem Room.depth {k:Nat} {A:Around} (r:Room k A):A.depth<recursionLimit:=by have:=r.dp; omega
theorem Room.units {k:Nat} {A:Around} (r:Room k A):A.units+64<cLine:=by have:=r.un; omega
def tNil:TA:=fun _ H Q=>Q [] H
def V3 (ta:TE) (tr:TA):TA:=fun σ H Q=>ta σ H fun x H1=>tr σ H1 fun xs H2=>Q (x::xs) H2
section
variable {X:Cx} {e:Expr} {es:List Expr} {te:TE} {t:TA} {pos:Pos}
theorem pa_nil:PA X [] tNil:=fun _ _ _ _ H Q I h=>Calls.spliced_nil ⟨[],H,I,.nil,h⟩
theorem X4 (ha:PE X e te) (hr:PA X es t) (hs:starEach (e::es) X.env=(false,eval e X.env)::starEach es X.env:=by rfl):PA X (e::es) (V3 te t):=by
 intro pos pins s σ H Q I h
 rw [hs]
 show wpAny _ _ (spliced ((false,eval e X.env)::backTo pos (starEach es X.env))) _ _ s
 refine Calls.spliced_cons (thn (ha pins s σ H _ I h) fun u s1 zz35=>?_)
 obtain ⟨x,H1,I1,r1,q1⟩:=zz35
 exact thn (hr pos pins s1 σ H1 _ I1 q1) fun us s2 zz36=>by obtain ⟨xs,H2,I2,r2,q2⟩:=zz36; exact ⟨x::xs,H2,I2,.cons r1 r2,q2⟩
def qm (t:TA):TE:=fun σ H Q=>t σ H fun xs H1=>xs.length<=sizeLine/\∀ p,H1 p=none->Q (.ref p) (upd H1 p (.tup xs))
def xC (t:TA):TE:=fun σ H Q=>t σ H fun xs H1=>xs.length<=sizeLine/\∀ p,H1 p=none->Q (.ref p) (upd H1 p (.lst xs))
theorem oj {x1} (h:PA X es t):PE X (.Tuple es x1 pos) (qm t):=by
 intro pins s σ H Q I hq
 refine wpAny_Tuple_spliced (thn (h pos pins s σ H _ I hq) fun us s1 ⟨xs,H1,I1,r,z,q⟩=>⟨by rw [<- r.length]; exact z,?_⟩)
 have hf:H1 s1.heap.objs.size=none:=I1.hok.fresh (Nat.le_refl _)
 refine ⟨.ref s1.heap.objs.size,upd H1 s1.heap.objs.size (.tup xs),I1.laid (t':=s1.toks) (fun b u e=>Heap.get?_push_of_some _ e) (Nat.le_refl _) ?_,rfl,q _ hf⟩
 exact ⟨z,us,r,⟨_,Heap.get?_push_size _ rfl,rfl,_,rfl⟩⟩
theorem zl (h:PA X es t):PE X (.List es pos) (xC t):=by
 intro pins s σ H Q I hq
 refine wpAny_List_spliced (thn (h pos pins s σ H _ I hq) fun us s1 ⟨xs,H1,I1,r,z,q⟩=>⟨by rw [<- r.length]; exact z,?_⟩)
 have hf:H1 s1.heap.objs.size=none:=I1.hok.fresh (Nat.le_refl _)
 refine ⟨.ref s1.heap.objs.size,upd H1 s1.heap.objs.size (.lst xs),I1.laid (t':=s1.toks) (fun b u e=>Heap.get?_push_of_some _ e) (Nat.le_refl _) ?_,rfl,q _ hf⟩
 exact ⟨z,us,0,r,Heap.get?_push_size _ rfl⟩
end
abbrev Sp:=List V->Hp->VK->XK->Prop
abbrev CXT:=List Env->Hp->Shared->XK->Value->Shared->Prop
structure mO (P:Program) (w:World) (K:Frag) (mg:Str->Option Value) (base:Heap) (A:Around) (outer:List Env) (s:Shared) (H:Hp):Prop where
 frames:A.frames=some outer
 mod:Mod K mg base
 bs:∀ b o,base.get? b=some o->s.heap.get? b=some o/\H b=none
 bsz:base.objs.size<=s.heap.objs.size
 funs:s.heap.FunFrames base outer
 frf:∀ b∈frs outer,H b=none
 hok:HOk P w H s.heap
 bare:AllBare s.gens
def CE (outer:List Env) (P:Program) (w:World) (H:Hp) (s:Shared) (Q:VK) (u:Value) (s':Shared):Prop:=
 ∃ v H',s'.os=s.os/\AllBare s'.gens/\Un (frs outer) [] H H' s.heap s'.heap/\HOk P w H' s'.heap/\RelV v u/\Q v H'
def CR (CX:CXT) (outer:List Env) (P:Program) (w:World) (H:Hp) (s:Shared) (Q:VK) (E:XK) (r:Result) (s':Shared):Prop:=
 match r with
 | .ok (.ret u)=>CE outer P w H s Q u s'
 | .ok _=>False
 | .error e=>CX outer H s E e s'
structure FnOk (P:Program) (w:World) (K:Frag) (mg:Str->Option Value) (base:Heap) (CX:CXT) (k:Nat) (f:Addr) (fd:FuncData) (ps:List Str) (sp:Sp):Prop where
 len:∀ vs H Q E,sp vs H Q E->vs.length=ps.length
 run:∀ (A:Around) (outer:List Env) (s:Shared) (H:Hp) (args:Args) (us:List Value) (vs:List V) (Q:VK) (E:XK),Room k A->mO P w K mg base A outer s H->BindsTo s fd args (ps.zip us)->Vals vs us->sp vs H Q E ->
  codeAny (model P w) A (.call (.ref f) args) (CR CX outer P w H s Q E) s
theorem FnOk.imp {P:Program} {w:World} {K:Frag} {mg:Str->Option Value} {base:Heap} {CX:CXT} {k:Nat} {f:Addr} {fd:FuncData} {ps:List Str} {sp sp':Sp} (F:FnOk P w K mg base CX k f fd ps sp)
  (h:∀ vs H Q E,sp' vs H Q E->sp vs H Q E):FnOk P w K mg base CX k f fd ps sp':=
 ⟨fun vs H Q E q=>F.len vs H Q E (h _ _ _ _ q),fun A outer s H args us vs Q E hr he hb hv hs=>F.run A outer s H args us vs Q E hr he hb hv (h _ _ _ _ hs)⟩
section
variable {X:Cx} {pins:List (Addr×Obj)} {σ:St} {H:Hp} {s s':Shared}
theorem Inv.env0 (I:Inv X pins σ H s):mO X.prog X.w X.K X.mg X.base X.A X.stack s H:=
 ⟨I.ok.frames,I.ok.mod,I.bs,Nat.le_trans I.ok.bsz I.sz,I.stack,I.stkFree,I.hok,I.bare⟩
theorem Inv.after {Q:VK} {u:Value} (I:Inv X pins σ H s) (h:CE X.stack X.prog X.w H s Q u s'):EP X pins σ Q u s':=by
 obtain ⟨v,H',os,bare,un,hok,r,q⟩:=h
 obtain ⟨hh,g,d,t,os'⟩:=s'
 obtain rfl:os'=s.os:=os
 exact ⟨v,H',I.call (h':=hh) (g':=g) (d':=d) (t':=t) (ch:=[]) un hok bare (fun b z=>absurd z (by simp)),r,q⟩
end
def cW (sp:Sp) (Hd:List V) (E:XK) (t:TA):TE:=fun σ H Q=>t σ H fun vs H1=>sp (vs++Hd) H1 Q E
def Binds (K:Frag) (fd:FuncData) (ps:List Str) (ds:List Value):Prop:=
 ∀ (s:Shared) (us:List Value),K.In s.heap->(us++ds).length=ps.length->BindsTo s fd ⟨us,[]⟩ (ps.zip (us++ds))
theorem Binds.all {K:Frag} {fd:FuncData} {ps:List Str} (h:∀ us:List Value,us.length=ps.length->bindArgs fd ⟨us,[]⟩=pure (ps.zip us)):Binds K fd ps []:=fun s us _ hl=>by
 rw [List.append_nil] at hl ⊢
 exact .of_eq (h us hl)
def jl (CX:CXT) (X:Cx) (E:XK):Prop:=∀ (pins:List (Addr×Obj)) (σ:St) (H:Hp) (s:Shared) (e:Value) (s':Shared),Inv X pins σ H s->CX X.stack H s E e s'->X.xe e s'
section
variable {X:Cx} {CX:CXT} {k:Nat} {f C:Addr} {fd:FuncData} {ps:List Str} {sp:Sp} {Hd:List V} {ds:List Value} {E:XK} {x m:Str} {p pos apos:Pos} {e o:Expr} {es:List Expr} {ta:TE} {t:TA}
theorem nQ {pins:List (Addr×Obj)} {σ:St} {H:Hp} {s:Shared} {Q:VK} {us:List Value} {vs:List V} (F:FnOk X.prog X.w X.K X.mg X.base CX k f fd ps sp) (hr:Room k X.A) (hb:Binds X.K fd ps ds) (hd:Vals Hd ds) (hx:jl CX X E)
  (I:Inv X pins σ H s) (r:Vals vs us) (h:sp (vs++Hd) H Q E):wpAny (model X.prog X.w) X.A (call (.ref f) us) (EP X pins σ Q) X.xe s:=by
 have r2:Vals (vs++Hd) (us++ds):=r.append hd
 have hl:(us++ds).length=ps.length:=by rw [<- r2.length]; exact F.len _ _ _ _ h
 refine wpAny_call (codeAny_mono (F.run X.A X.stack s H ⟨us,[]⟩ (us++ds) (vs++Hd) Q E hr I.env0 (hb s us I.kIn hl) r2 h) fun r s' hq=>?_)
 cases r with
 | error e=>exact hx pins σ H s e s' I hq
 | ok fl=>
  cases fl with
  | ret u=>exact I.after hq
  | next=>exact False.elim hq
  | brk=>exact False.elim hq
  | cont=>exact False.elim hq
theorem bF (F:FnOk X.prog X.w X.K X.mg X.base CX k f fd ps sp) (hr:Room k X.A) (hg:Gl X x) (hm:X.mg x=some (.ref f)) (hk:PySem.W.keepIn X.K (.ref f)=true) (hb:Binds X.K fd ps ds) (hd:Vals Hd ds) (hx:jl CX X E)
  (ha:PA X (e::es) t) (Fv:(x == ("__debug__" : Str))=false:=by decide) (he:starEach (e::es) X.env=(false,eval e X.env)::starEach es X.env:=by rfl) (Fn:(backTo pos (starEach es X.env)).any (·.1)=false:=by rfl) :
  PE X (.Call (.Name x p) (e::es) [] pos) (cW sp Hd E t):=by
 intro pins s σ H Q I h
 refine wpAny_Call_Name_kw (kh I hg hm ?_ Fv)
 refine PySem.W.callWith_K (h₀:=X.base) I.ok.mod.kin hk (thn (ha pos pins s σ H _ I h) fun us s1 ⟨vs,H1,I1,r,q⟩=>⟨I1.kIn,?_⟩) he Fn
 exact nQ F hr hb hd hx I1 r q
end
def PK (X:Cx) (Ia:List Keyword) (t:TA):Prop:=
 ∀ (pos:Pos) (pins:List (Addr×Obj)) (s:Shared) (σ:St) (H:Hp) (Q:List V->Hp->Prop),Inv X pins σ H s->t σ H Q->wpAny (model X.prog X.w) X.A (evalAll ((backToKw pos (keywordEach Ia X.env)).map (·.2))) (AP X pins σ Q) X.xe s
section
variable {X:Cx} {CX:CXT} {k:Nat} {f C:Addr} {fd:FuncData} {ps ks:List Str} {sp:Sp} {E:XK} {x m:Str} {p pos apos kpos:Pos} {e o:Expr} {es:List Expr} {Ia:List Keyword} {te ta:TE} {t tk:TA} {nm:Option Str}
theorem zf:PK X [] tNil:=fun _ _ _ _ H Q I h=>wpAny_evalAll_nil ⟨[],H,I,.nil,h⟩
theorem jQ (ha:PE X e te) (hr:PK X Ia t):PK X (⟨nm,e,kpos⟩::Ia) (V3 te t):=by
 intro pos pins s σ H Q I h
 show wpAny _ _ (evalAll ((do let v <- eval e X.env; standAt pos; pure v)::(backToKw pos (keywordEach Ia X.env)).map (·.2))) _ _ s
 refine wpAny_evalAll_cons (wpAny_bind (thn (ha pins s σ H _ I h) fun u s1 ⟨x,H1,I1,r1,q1⟩=>wpAny_bind (wpAny_standAt (wpAny_pure ?_))))
 exact thn (hr pos pins s1 σ H1 _ I1 q1) fun us s2 zz41=>by obtain ⟨xs,H2,I2,r2,q2⟩:=zz41; exact ⟨x::xs,H2,I2,.cons r1 r2,q2⟩
variable {g:List Value->List Value->List Value} {gV:List V->List V->List V}
end
structure f6 (N P:List Str) (sc:Scope):Prop where
 kind:sc.kind=.function
 co:sc.isCoroutine=false
 gen:sc.isGenerator=false
 nd:N.Nodup
 pre:N.take P.length=P
 par:∀ x∈P,sc.names.lookup x=some .local\/sc.names.lookup x=some .cell
 nofree:∀ y∈sc.names,y.2≠.free
theorem pK {kindOf:Str->Option NameKind} {x:Str}:∀ {binds:List (Str×Value)} {m:Str->Option Value},(∀ v,(x,v)∉binds)->bindL kindOf binds m x=m x:=by
 intro binds
 induction binds with
 | nil=>intro m _; rfl
 | cons p r ih=>
  intro m h
  unfold bindL
  rw [ih fun w hw=>h w (List.mem_cons_of_mem _ hw)]
  split
  ·have:x≠p.1:=by rintro rfl; exact h p.2 List.mem_cons_self
   simp [this]
  ·rfl
theorem pM {kindOf:Str->Option NameKind} {x:Str}:∀ {binds:List (Str×Value)} {m:Str->Option Value},(∀ v,(x,v)∉binds)->bindC kindOf binds m x=m x:=by
 intro binds
 induction binds with
 | nil=>intro m _; rfl
 | cons p r ih=>
  intro m h
  unfold bindC
  rw [ih fun w hw=>h w (List.mem_cons_of_mem _ hw)]
  split
  ·rfl
  ·have:x≠p.1:=by rintro rfl; exact h p.2 List.mem_cons_self
   simp [this]
theorem pL {kindOf:Str->Option NameKind} {x:Str} {v:Value}:∀ {P:List Str} {vs:List Value} {i:Nat} {m:Str->Option Value},P.Nodup->P[i]?=some x->vs[i]?=some v->kindOf x=some .local ->
  bindL kindOf (P.zip vs) m x=some v:=by
 intro P
 induction P with
 | nil=>intro vs i m _ h _ _; cases h
 | cons p P ih=>
  intro vs i m nd h1 h2 hk
  cases vs with
  | nil=>cases h2
  | cons w vs=>
   show bindL kindOf ((p,w)::P.zip vs) m x=_
   unfold bindL
   cases i with
   | zero=>
    cases h1
    cases h2
    rw [pK fun v hv=>(List.nodup_cons.mp nd).1 (List.of_mem_zip hv).1,if_pos hk]
    simp
   | succ i=>exact ih (List.nodup_cons.mp nd).2 h1 h2 hk
theorem pO {kindOf:Str->Option NameKind} {x:Str} {v:Value}:∀ {P:List Str} {vs:List Value} {i:Nat} {m:Str->Option Value},P.Nodup->P[i]?=some x->vs[i]?=some v->kindOf x≠some .local ->
  bindC kindOf (P.zip vs) m x=some v:=by
 intro P
 induction P with
 | nil=>intro vs i m _ h _ _; cases h
 | cons p P ih=>
  intro vs i m nd h1 h2 hk
  cases vs with
  | nil=>cases h2
  | cons w vs=>
   show bindC kindOf ((p,w)::P.zip vs) m x=_
   unfold bindC
   cases i with
   | zero=>
    cases h1
    cases h2
    rw [pM fun v hv=>(List.nodup_cons.mp nd).1 (List.of_mem_zip hv).1,if_neg hk]
    simp
   | succ i=>exact ih (List.nodup_cons.mp nd).2 h1 h2 hk
def start (N:List Str) (vs:List V):St:=vs.map some++List.replicate (N.length-vs.length) none
def aq (CX:CXT) (P:Program) (w:World) (K:Frag) (mg:Str->Option Value) (base:Heap) (N:List Str) (qual:Str) (scope:Scope) (f:Addr) (cd:Value) (A:Around) (outer:List Env) (s:Shared) (H:Hp) (E:XK):Cx where
 prog:=P
 w:=w
 K:=K
 mg:=mg
 base:=base
 A:=A.deeper (envOfC qual scope s.heap.objs.size f cd)
 N:=N
 s₀:=s
 H₀:=H
 env:=envOfC qual scope s.heap.objs.size f cd
 outer:=outer
 stack:=envOfC qual scope s.heap.objs.size f cd::outer
 ex:=[]
 calm:=true
 fn:=fun _=>true
 pn:=[]
 xe:=fun e s'=>wpAny (model P w) (A.deeper (envOfC qual scope s.heap.objs.size f cd)) (leaving (envOfC qual scope s.heap.objs.size f cd) e) (fun _ Gb=>CX outer H s E e Gb) (fun e' Gb=>CX outer H s E e' Gb) s'
theorem iZ {sc:Scope} {n:Nat} {x:Str} (h:sc.names.lookup x=some .cell):∃ c,(cellsFrom n sc.names []).lookup x=some c:=by
 have q:=PySem.W.cellsFrom_some sc.names n [] (.inl h)
 exact Option.isSome_iff_exists.mp q
theorem oQ {CX:CXT} {P:Program} {w:World} {K:Frag} {mg:Str->Option Value} {base:Heap} {N ps:List Str} {qual:Str} {scope:Scope} {f:Addr} {cd:Value} {A:Around} {outer:List Env} {s s1:Shared} {H:Hp} {E:XK} {us:List Value} {vs:List V}
  (S:f6 N ps scope) (hd:A.handled=none) (e0:mO P w K mg base A outer s H) (hl:vs.length=ps.length) (r:Vals vs us)
  (x:InCallC s s.heap.objs.size (bindL (envOfC qual scope s.heap.objs.size f cd).kindOf (ps.zip us) fun _=>none) (cellsFrom (s.heap.objs.size+1) scope.names []) (bindC (envOfC qual scope s.heap.objs.size f cd).kindOf (ps.zip us) fun _=>none) s1) :
  Inv (aq CX P w K mg base N qual scope f cd A outer s H E) [] (start N vs) H s1:=by
 have Fn:ps.length<=N.length:=by have:=congrArg List.length S.pre; rw [List.length_take] at this; omega
 obtain ⟨h1,tk,rfl,hk⟩:=x.done
 have HX:∀ b:Addr,b∉(aq CX P w K mg base N qual scope f cd A outer s H E).ex:=fun b z=>absurd (show b∈([]:List Addr) from z) (by simp)
 refine ⟨⟨e0.mod,S.kind,rfl,rfl,Nat.le_refl _,fun y z c h1 h2=>?_,fun y hy=>?_,fun y c _ h=>?_,fun _=>hd,Around.frames_deeper e0.frames,.inr ⟨rfl,rfl⟩,fun b z=>absurd z (HX b),e0.bs,e0.bsz,fun b _ _=>HX b,fun b z=>absurd z (HX b),e0.funs,e0.frf⟩,
  rfl,e0.bare,Un.kept hk,⟨_,x.toInCall.ns,fun i y v h1 h2 h3=>?_⟩,fun y c h=>⟨_,x.cell y c h⟩,e0.hok.fresh (Nat.le_refl _),fun y c h=>?_,fun p hp=>absurd (show p∈([]:List (Addr×Obj)) from hp) (by simp),e0.hok.kept hk,?_⟩
 ·exact name_of_addr x.apart (PySem.mem_of_lookup h1) (PySem.mem_of_lookup h2)
 ·have hy:scope.names.lookup y=some .cell\/scope.names.lookup y=some .free:=hy
  rcases hy with hy | hy
  ·exact iZ hy
  ·exact absurd rfl (S.nofree _ (PySem.mem_of_lookup hy))
 ·exact Nat.le_of_lt (x.above y c (PySem.mem_of_lookup h))
 ·have hi:i<vs.length:=by
   unfold start at h2
   by_cases hi:i<vs.length
   ·exact hi
   ·rw [List.getElem?_append_right (by simpa using hi)] at h2
    rw [List.getElem?_replicate] at h2
    split at h2 <;> cases h2
  have ha:vs[i]?=some v:=by
   unfold start at h2
   rw [List.getElem?_append_left (by simpa using hi),List.getElem?_map] at h2
   cases e:vs[i]? with
   | none=>rw [e] at h2; cases h2
   | some a=>rw [e] at h2; cases h2; rfl
  obtain ⟨u,hu,rv⟩:=r.get ha
  have hp:ps[i]?=some y:=by
   rw [<- S.pre,List.getElem?_take_of_lt (by omega)]; exact h1
  have ndP:ps.Nodup:=by rw [<- S.pre]; exact S.nd.sublist (List.take_sublist _ _)
  refine ⟨u,rv,?_⟩
  rcases S.par y (List.mem_of_getElem? hp) with k | k
  ·exact .inl ⟨k,pL ndP hp hu k⟩
  ·obtain ⟨c,e⟩:=iZ (n:=s.heap.objs.size+1) k
   refine .inr ⟨.inl k,c,e,?_⟩
   have q:=x.cell y c e
   rw [pO ndP hp hu (by show scope.names.lookup y≠_; rw [k]; decide)] at q
   exact q
 ·exact e0.hok.fresh (Nat.le_of_lt (x.above y c (PySem.mem_of_lookup h)))
 ·unfold start
  show _=N.length
  rw [List.length_append,List.length_map,List.length_replicate]
  omega
theorem Dj {CX:CXT} {P:Program} {w:World} {K:Frag} {mg:Str->Option Value} {base:Heap} {k:Nat} {f:Addr} {name qual:Str} {params:Arguments} {body:List Stmt} {scope:Scope} {dV kV doc pm EW ct oc:Value} {an od:Option Addr}
  {GN:Array (Option Value)} {N ps:List Str} {sp:Sp} (lk:K.lookup f=some ⟨oc,od,.func (PySem.W.fnOf name qual params body scope dV kV doc pm an EW ct),GN⟩) (Fo:PySem.W.codeIn K EW qual=true) (S:f6 N ps scope)
  (len:∀ vs H Q E,sp vs H Q E->vs.length=ps.length)
  (FG:∀ (A:Around) (outer:List Env) (s:Shared) (H:Hp) (vs:List V) (Q:VK) (E:XK),Room k (A.deeper (envOfC qual scope s.heap.objs.size f EW))->sp vs H Q E ->
   ∃ t,PSs (aq CX P w K mg base N qual scope f EW A outer s H E) body t/\t { nx:=fun _ H'=>Q .non H',rt:=Q } (start N vs) H) :
  FnOk P w K mg base CX (k+1) f (PySem.W.fnOf name qual params body scope dV kV doc pm an EW ct) ps sp:=by
 refine ⟨len,fun A outer s H args us vs Q E hr e0 hb r Gy=>?_⟩
 have hl:=len _ _ _ _ Gy
 have KX:K.In s.heap:=e0.mod.kin.keeps fun b o e=>(e0.bs b o e).1
 have lim:s.heap.NoLimit:=e0.mod.nolimit.keeps fun b o e=>(e0.bs b o e).1
 have hkind:∀ y∈ps.zip us,scope.names.lookup y.1=some .local\/(scope.names.lookup y.1=some .cell/\((cellsFrom (s.heap.objs.size+1) scope.names []).lookup y.1).isSome=true):=fun zz42 hy=>by
  obtain ⟨n,v⟩:=zz42
  rcases S.par n (List.of_mem_zip hy).1 with q | q
  ·exact .inl q
  ·exact .inr ⟨q,PySem.W.cellsFrom_some _ _ _ (.inl q)⟩
 refine codeAny_call_function hr.depth (KX _ _ lk) rfl S.co S.gen rfl (PySem.W.codeRec_of KX Fo) (hb _ _ _ _ ?_)
 refine wpAny_newFunctionEnv_cells S.kind hkind fun env he s1 x=>?_
 subst he
 refine ⟨lim.keeps x.toInCall.keep,codeAny_func ?_⟩
 obtain ⟨t,ht,hq⟩:=FG A outer s H vs Q E (hr.deeper _) Gy
 have I:Inv (aq CX P w K mg base N qual scope f EW A outer s H E) [] (start N vs) H s1:=oQ S hr.hd e0 hl r x
 refine wpAny_mono (ht [] s1 (start N vs) H _ I hq) (fun fl s' hs=>?_) fun e s' hs=>hs
 have fin:∀ {σ':St} {H':Hp} {v:V} {u:Value},Inv (aq CX P w K mg base N qual scope f EW A outer s H E) [] σ' H' s'->RelV v u->Q v H'->CE outer P w H s Q u s':=
  fun {σ' H' v u} J rv q=>⟨v,H',J.os,J.bare,J.base,J.hok,rv,q⟩
 cases fl with
 | ret u=>
  obtain ⟨v,σ',H',J,rv,q⟩:=hs
  exact fin J rv q
 | next=>
  obtain ⟨σ',H',J,q⟩:=hs
  exact fin (v:=V.non) (u:=Value.none) J rfl q
 | brk=>
  obtain ⟨_,_,_,q⟩:=hs
  exact False.elim q
 | cont=>
  obtain ⟨_,_,_,q⟩:=hs
  exact False.elim q
end L2
namespace L2
open PySem PySem.Spec PyProof.Rows
section
variable {X:Cx} {x:Str} {p pos:Pos} {e:Expr} {es:List Expr} {t:TA} {id T:String} {r:List V->Hp->VK->Prop}
def tCB (r:List V->Hp->VK->Prop) (t:TA):TE:=fun σ H Q=>t σ H fun vs H1=>r vs H1 Q
theorem qZ (hc:E2 X (.builtin id) r) (hg:Gl X x) (hm:X.mg x=none) (hv:bootBuiltins x=some (.builtin id)) (ha:PA X (e::es) t) (hn:x ≠ "__name__" := by decide) (Fv:(x == ("__debug__" : Str))=false:=by decide)
  (he:starEach (e::es) X.env=(false,eval e X.env)::starEach es X.env:=by rfl) (Fn:(backTo pos (starEach es X.env)).any (·.1)=false:=by rfl):PE X (.Call (.Name x p) (e::es) [] pos) (tCB r t):=by
 intro pins s σ H Q I h
 refine wpAny_Call_Name_kw (P6 I hg hm hv ?_ hn Fv)
 exact PyProof.Rows.callWith_builtin1 (thn (ha pos pins s σ H _ I h) fun us s1 zz43=>by obtain ⟨vs,H1,I1,r1,q1⟩:=zz43; exact hc pins s1 σ H1 vs us Q I1 r1 q1) he Fn
theorem om (hc:E2 X (.type T) r) (hg:Gl X x) (hm:X.mg x=none) (hv:bootBuiltins x=some (.type T)) (ha:PA X (e::es) t) (hn:x ≠ "__name__" := by decide) (Fv:(x == ("__debug__" : Str))=false:=by decide)
  (he:starEach (e::es) X.env=(false,eval e X.env)::starEach es X.env:=by rfl) (Fn:(backTo pos (starEach es X.env)).any (·.1)=false:=by rfl):PE X (.Call (.Name x p) (e::es) [] pos) (tCB r t):=by
 intro pins s σ H Q I h
 refine wpAny_Call_Name_kw (P6 I hg hm hv ?_ hn Fv)
 exact PyProof.Rows.callWith_type1 (thn (ha pos pins s σ H _ I h) fun us s1 zz44=>by obtain ⟨vs,H1,I1,r1,q1⟩:=zz44; exact hc pins s1 σ H1 vs us Q I1 r1 q1) he Fn
end
end L2
namespace HT
open PySem PyProof.Rows
def lexLt:List Int->List Int->Bool
 | [],[]=>false
 | [],_::_=>true
 | _::_,[]=>false
 | x::xs,y::ys=>if x=y then lexLt xs ys else decide (x<y)
section
open PySem.SeqAt
open PySem.AutoSeq1 (wpAny_loadPart')
open PySem.MeetsSeq PySem.MeetsSeq2 PySem.MeetsSeq3
end
section
variable {prog:Program} {w:World} {A:Around} {E:Value->Shared->Prop} {s:Shared}
def sIx (n d:Nat):Option Int->Nat
 | none=>d
 | some v=>if v<0 then (v+(n:Int)).toNat else min v.toNat n
theorem sIx_none (n d:Nat):sIx n d none=d:=rfl
end
end HT
namespace L2
open PySem PySem.Spec PyProof.Rows
abbrev TO:=St->Hp->(Option Int->Hp->Prop)->Prop
def PO (X:Cx) (e:Option Expr) (t:TO):Prop:=
 ∀ (pins:List (Addr×Obj)) (s:Shared) (σ:St) (H:Hp) (Q:Option Int->Hp->Prop),Inv X pins σ H s->t σ H Q ->
  wpAny (model X.prog X.w) X.A (evalPart e X.env) (fun u s'=>∃ o H',Inv X pins σ H' s'/\IsPart u o/\Q o H') X.xe s
def tNoPart:TO:=fun _ H Q=>Q none H
def tf (t:TE):TO:=fun σ H Q=>t σ H fun x H1=>∃ i,x=.int i/\Q (some i) H1
section
variable {X:Cx} {e:Expr} {te:TE} {lo hi:Option Expr} {tl th:TO} {pos p2:Pos}
theorem po_none:PO X none tNoPart:=by
 intro pins s σ H Q I h
 rw [evalPart_none]
 exact wpAny_pure ⟨none,H,I,.none,h⟩
theorem vd (h:PE X e te):PO X (some e) (tf te):=by
 intro pins s σ H Q I hw
 rw [evalPart_some]
 refine thn (h pins s σ H _ I hw) fun u s1 zz45=>?_
 obtain ⟨x,H1,I1,r1,q1⟩:=zz45
 obtain ⟨i,rfl,q⟩:=q1
 obtain ⟨t,rfl⟩:=r1
 exact ⟨some i,H1,I1,.int i t,q⟩
def SlR (X:Cx) (r:V->Option Int->Option Int->Hp->VK->Prop):Prop:=
 ∀ (pins:List (Addr×Obj)) (s:Shared) (σ:St) (H:Hp) (x:V) (v vl vu:Value) (lo hi:Option Int) (sl:Addr) (Q:VK),Inv X pins σ H s->RelV x v->s.heap.IsSliceOf sl vl vu .none->IsPart vl lo->IsPart vu hi->r x lo hi H Q ->
  ∃ T id,typeLookup (.type T) "__getitem__" = pure (some (.builtin id))/\s.TypeIs v T/\wpAny (model X.prog X.w) X.A (getItem v (.ref sl)) (EP X pins σ Q) X.xe s
def tSl (r:V->Option Int->Option Int->Hp->VK->Prop) (te:TE) (tl th:TO):TE:=fun σ H Q=>te σ H fun x H1=>tl σ H1 fun l H2=>th σ H2 fun u H3=>r x l u H3 Q
theorem qX {r:V->Option Int->Option Int->Hp->VK->Prop} (hr:SlR X r) (he:PE X e te) (hl:PO X lo tl) (hu:PO X hi th):PE X (.Subscript e (.Slice lo hi none p2) pos) (tSl r te tl th):=by
 intro pins s σ H Q I h
 refine Subscript_ (thn (he pins s σ H _ I h) fun v s1 zz46=>?_)
 obtain ⟨x,H1,I1,r1,q1⟩:=zz46
 refine wpAny_Slice (thn (hl pins s1 σ H1 _ I1 q1) fun vl s2 ⟨l,H2,I2,pl,q2⟩=>thn (hu pins s2 σ H2 _ I2 q2) fun vu s3 zz48=>?_)
 obtain ⟨u,H3,I3,pu,q3⟩:=zz48
 rw [evalPart_none]
 refine wpAny_pure ?_
 have I4:Inv X pins σ H3 { s3 with heap:=s3.heap.push { cls:=.type "slice",data:=.fields #[vl,vu,.none] } }:=I3.kept (t':=s3.toks) fun b ob q=>Heap.get?_push_of_some _ q
 obtain ⟨T,id,hT,ht,hg⟩:=hr pins { s3 with heap:=s3.heap.push { cls:=.type "slice",data:=.fields #[vl,vu,.none] } } σ H3 x v vl vu l u s3.heap.objs.size Q I4 r1 (Heap.IsSliceOf.new ..) pl pu q3
 show wpAny (model X.prog X.w) X.A (subscriptTail e (.Slice lo hi none p2) v (.ref s3.heap.objs.size)) (EP X pins σ Q) X.xe { s3 with heap:=s3.heap.push { cls:=.type "slice",data:=.fields #[vl,vu,.none] } }
 exact tail_any (ops:=[.ref s3.heap.objs.size,v]) ht hT hg (by with_unfolding_all rfl)
def fk (xs:List V) (lo hi:Option Int):List V:=(xs.drop (HT.sIx xs.length 0 lo)).take (HT.sIx xs.length xs.length hi-HT.sIx xs.length 0 lo)
theorem jD (xs:List V) (lo hi:Option Int):(fk xs lo hi).length<=xs.length:=by
 unfold fk
 rw [List.length_take,List.length_drop]
 omega
end
end L2
namespace L2
open PySem PySem.Spec PyProof.Rows
def ixN (n:Nat) (i:Int):Option Nat:=if 0<=i then (if i<n then some i.toNat else none) else if -(n:Int)<=i then some (i+n).toNat else none
def atI {α:Type} (xs:List α) (i:Int):Option α:=(ixN xs.length i).bind fun j=>xs[j]?
theorem kj {n:Nat} {i:Int} {j:Nat} (h:ixN n i=some j):seqIndex? i n=some j/\j<n /\ -(n:Int)<=i/\i<n:=by
 unfold ixN at h
 by_cases h0:0<=i
 ·rw [if_pos h0] at h
  by_cases h1:i<n
  ·rw [if_pos h1] at h
   have e:i.toNat=j:=Option.some.inj h
   exact ⟨by rw [seqIndex_of h0 h1,e],by omega,by omega,h1⟩
  ·rw [if_neg h1] at h; cases h
 ·rw [if_neg h0] at h
  by_cases h1:-(n:Int)<=i
  ·rw [if_pos h1] at h
   have e:(i+n).toNat=j:=Option.some.inj h
   exact ⟨by rw [seqIndex_neg (by omega) h1,e],by omega,h1,by omega⟩
  ·rw [if_neg h1] at h; cases h
theorem fo {α:Type} {xs:List α} {i:Int} {v:α} (h:atI xs i=some v):∃ j,seqIndex? i xs.length=some j/\xs[j]?=some v/\j<xs.length /\ -(xs.length:Int)<=i/\i<xs.length:=by
 unfold atI at h
 cases e:ixN xs.length i with
 | none=>rw [e] at h; cases h
 | some j=>
  rw [e] at h
  obtain ⟨h1,h2,h3,h4⟩:=kj e
  exact ⟨j,h1,h,h2,h3,h4⟩
def fr (b:Expr):Prop:=∀ o i,subscripted b false o i=operate [o,i] (getItem o i)
def IxR (X:Cx) (r:R2):Prop:=
 ∀ (value slice:Expr) (pins:List (Addr×Obj)) (s:Shared) (σ:St) (H:Hp) (x y:V) (v u:Value) (Q:VK),Inv X pins σ H s->RelV x v->RelV y u->r x y H Q ->
  subscripted slice false v u=operate [v,u] (getItem v u)->wpAny (model X.prog X.w) X.A (subscriptTail value slice v u) (EP X pins σ Q) X.xe s
def MtR (X:Cx) (id:String) (r:V->List V->Hp->VK->Prop):Prop:=
 ∀ (pins:List (Addr×Obj)) (s:Shared) (σ:St) (H:Hp) (x:V) (xs:List V) (v:Value) (us:List Value) (Q:VK),Inv X pins σ H s->RelV x v->Vals xs us->r x xs H Q ->
  wpAny (model X.prog X.w) X.A (call (.builtin id) (v::us)) (EP X pins σ Q) X.xe s
section
variable {X:Cx} {a b:Expr} {ta tb:TE} {pos:Pos}
theorem IxR.or {r r':R2} (h:IxR X r) (h':IxR X r'):IxR X (fun x y H Q=>r x y H Q\/r' x y H Q):=by
 intro value slice pins s σ H x y v u Q I rx ry q hs
 rcases q with q | q
 ·exact h value slice pins s σ H x y v u Q I rx ry q hs
 ·exact h' value slice pins s σ H x y v u Q I rx ry q hs
theorem tJ {r:R2} (hr:IxR X r) (ha:PE X a ta) (hb:PE X b tb) (hs:fr b):PE X (.Subscript a b pos) (tOp r ta tb):=by
 intro pins s σ H Q I h
 exact Subscript_ (sO ha hb I h fun v u s2 x y H2 I2 rx ry q=>hr a b pins s2 σ H2 x y v u Q I2 rx ry q (hs _ _))
def yN (K:Frag):R2:=fun x y H Q=>∃ p xs i v,x=.ref p/\y=.int i/\SqL K H p xs/\atI xs i=some v/\Q v H
def yM (K:Frag):R2:=fun x y H Q=>∃ p xs i v,x=.ref p/\y=.int i/\SqT K H p xs/\atI xs i=some v/\Q v H
def rIxS:R2:=fun x y H Q=>∃ z i c,x=.str z/\y=.int i/\z.length<=sizeLine/\atI z.cps.toList i=some c/\Q (.str ⟨#[c]⟩) H
theorem ix_list:IxR X (yN X.K):=by
 intro value slice pins s σ H x y v u Q I rx ry h hs
 obtain ⟨p,xs,i,z,rfl,rfl,hq,he,q⟩:=h
 cases rx
 obtain ⟨t,rfl⟩:=ry
 obtain ⟨its,r,pl,hz⟩:=I.list hq
 obtain ⟨j,h1,h2,h3,h4,h5⟩:=fo he
 obtain ⟨w,ew,Ji⟩:=r.get h2
 have hl:=r.length
 have hn:=aZ
 have fin:EP X pins σ Q w s:=⟨z,H,I,Ji,q⟩
 by_cases h0:0<=i
 ·have hj:i.toNat=j:=by
   rw [seqIndex_of h0 h5] at h1
   exact Option.some.inj h1
  exact item_listR pl.isList h0 (by omega) (by rw [hj]; simpa using ew) fin hs
 ·have hj:(i+(its.toArray.size:Int)).toNat=j:=by
   rw [seqIndex_neg (by omega) h4] at h1
   rw [List.size_toArray,<- hl]
   exact Option.some.inj h1
  exact subscriptTail_builtinR (x:=w) pl.isList.typeIs slot_list_getitem.lookup
   (wpAny_getItem_list_neg (Q:=fun r s'=>r=w/\EP X pins σ Q r s') pl.isList (by omega) (by rw [List.size_toArray] <;> omega) (by omega) (by rw [hj]; simpa using ew) ⟨rfl,fin⟩) hs
theorem ix_tup:IxR X (yM X.K):=by
 intro value slice pins s σ H x y v u Q I rx ry h hs
 obtain ⟨p,xs,i,z,rfl,rfl,hq,he,q⟩:=h
 cases rx
 obtain ⟨t,rfl⟩:=ry
 obtain ⟨its,r,pl,hz⟩:=I.tuple hq
 obtain ⟨j,h1,h2,h3,h4,h5⟩:=fo he
 obtain ⟨w,ew,Ji⟩:=r.get h2
 have hl:=r.length
 have hn:=aZ
 have fin:EP X pins σ Q w s:=⟨z,H,I,Ji,q⟩
 exact subscriptTail_builtinR (x:=w) pl.typeIs slot_tuple_getitem.lookup
  (getItem_tuple (j:=j) (Q:=fun r s'=>r=w/\EP X pins σ Q r s') pl (by omega) (by omega) (by rw [List.size_toArray,<- hl]; exact h1) (by simpa using ew) ⟨rfl,fin⟩) hs
theorem zW:IxR X rIxS:=by
 intro value slice pins s σ H x y v u Q I rx ry h hs
 obtain ⟨z,i,c,rfl,rfl,hz,he,q⟩:=h
 obtain ⟨t,rfl⟩:=rx
 obtain ⟨t',rfl⟩:=ry
 obtain ⟨j,h1,h2,h3,h4,h5⟩:=fo he
 have hl:z.cps.toList.length=z.length:=by simp [Str.length]
 rw [hl] at h1 h4 h5
 have hn:=aZ
 exact tail_any (typeIs_str s z t) slot_str_getitem.lookup (getItem_str (c:=c) (by
  have e1:decide (i < -(2^63:Int))=false:=decide_eq_false (by omega)
  have e2:decide (i≥2^63)=false:=decide_eq_false (by omega)
  rw [e1,e2,Bool.or_false]) (by rw [h1]; simpa using h2) ⟨.str ⟨#[c]⟩,H,I.tok _,⟨_,rfl⟩,q⟩) hs
def rIx (K:Frag):R2:=fun x y H Q=>yN K x y H Q\/yM K x y H Q\/rIxS x y H Q
theorem oJ:IxR X (rIx X.K):=ix_list.or (ix_tup.or zW)
theorem lP (its:List Value) (n j:Nat) (u:Value):Obj.mapSeq (·.setIfInBounds j u) { cls:=.type "list",data:=.seq its.toArray n }={ cls:=.type "list",data:=.seq (its.set j u).toArray n }:=by
 simp [Obj.mapSeq]
theorem Inv.lst {pins:List (Addr×Obj)} {σ:St} {H:Hp} {s:Shared} {p:Addr} {xs:List V} (I:Inv X pins σ H s) (h:H p=some (.lst xs)) :
  ∃ (its:List Value) (n:Nat),Vals xs its/\s.heap.get? p=some { cls:=.type "list",data:=.seq its.toArray n }/\xs.length<=sizeLine:=by
 obtain ⟨z,its,n,r,e⟩:=I.hok p _ h
 exact ⟨its,n,r,e,z⟩
theorem Inv.lstUpd {pins:List (Addr×Obj)} {σ:St} {H:Hp} {s:Shared} {p:Addr} {xs ys:List V} {its its':List Value} {n n':Nat} {f:Obj->Obj} (I:Inv X pins σ H s) (h:H p=some (.lst xs))
  (ho:s.heap.get? p=some { cls:=.type "list",data:=.seq its.toArray n }) (hf:f { cls:=.type "list",data:=.seq its.toArray n }={ cls:=.type "list",data:=.seq its'.toArray n' }) (r:Vals ys its') (hz:ys.length<=sizeLine) (t:Nat) :
  Inv X pins σ (upd H p (.lst ys)) { s with heap:=s.heap.update p f,toks:=t }:=by
 have e:(s.heap.update p f).get? p=some { cls:=.type "list",data:=.seq its'.toArray n' }:=by
  rw [Heap.get?_update_self f ho (by rw [hf] <;> rfl),hf]
 refine I.write (x:=p) (e:=p) (by rw [h]; trivial) (.inl rfl) (fun b u hb q=>(Heap.get?_update_other _ _ (Ne.symm hb)).trans q) ⟨_,e⟩ ?_
 exact ⟨hz,its',n',r,e⟩
def rSetL:V->V->V->Hp->(Hp->Prop)->Prop:=fun o i v H Q=>∃ p xs k j,o=.ref p/\i=.int k/\H p=some (.lst xs)/\ixN xs.length k=some j/\Q (upd H p (.lst (xs.set j v)))
theorem set_list:Cn X rSetL:=by
 intro pins s σ H o i v ov iv u Q I ro ri rv h
 obtain ⟨p,xs,k,j,rfl,rfl,hp,hj,q⟩:=h
 cases ro
 obtain ⟨t,rfl⟩:=ri
 obtain ⟨its,n,r,ho,hz⟩:=I.lst hp
 obtain ⟨h1,h2,h3,h4⟩:=kj hj
 have hl:=r.length
 have hn:=aZ
 have I':Inv X pins σ (upd H p (.lst (xs.set j v))) { s with heap:=s.heap.update p (Obj.mapSeq (·.setIfInBounds j u)) }:=
  I.lstUpd hp ho (lP its n j u) (r.set rv j) (by rw [List.length_set]; exact hz) s.toks
 by_cases h0:0<=k
 ·have hk:k.toNat=j:=by
   rw [seqIndex_of h0 h4] at h1
   exact Option.some.inj h1
  exact PySem.W.ki_setAt ho h0 (by omega) (by rw [List.size_toArray,<- hl]; exact h4) (by rw [hk]; exact ⟨_,I',q⟩)
 ·have hk:(k+(its.toArray.size:Int)).toNat=j:=by
   rw [seqIndex_neg (by omega) h3] at h1
   rw [List.size_toArray,<- hl]
   exact Option.some.inj h1
  exact PySem.W.ki_setBack ho (by omega) (by rw [List.size_toArray,<- hl]; exact h3) (by omega) (by rw [hk]; exact ⟨_,I',q⟩)
theorem gR (lo hi:Option Int) (n:Nat):(sliceBounds lo hi none n).1=((HT.sIx n 0 lo:Nat):Int)/\(sliceBounds lo hi none n).2.1=((HT.sIx n n hi:Nat):Int)/\(sliceBounds lo hi none n).2.2=1:=by
 refine ⟨?_,?_,rfl⟩
 ·cases lo with
  | none=>simp [sliceBounds,HT.sIx]
  | some i=>
   simp only [sliceBounds,HT.sIx,Option.getD_none,show (1:Int)>0 by decide,if_true]
   by_cases h:i<0
   ·simp only [h,if_true] <;> omega
   ·simp only [h,if_false] <;> omega
 ·cases hi with
  | none=>simp [sliceBounds,HT.sIx]
  | some i=>
   simp only [sliceBounds,HT.sIx,Option.getD_none,show (1:Int)>0 by decide,if_true]
   by_cases h:i<0
   ·simp only [h,if_true] <;> omega
   ·simp only [h,if_false] <;> omega
theorem fY (its:List Value) (lo hi:Option Int):slicePick its.toArray lo hi none=((its.drop (HT.sIx its.length 0 lo)).take (HT.sIx its.length its.length hi-HT.sIx its.length 0 lo)).toArray:=by
 obtain ⟨h1,h2,h3⟩:=gR lo hi its.toArray.size
 unfold slicePick
 rw [h1,h2,h3]
 simp only [sliceRange_one,pick_run,List.size_toArray] <;> rfl
def yI (K:Frag):V->Option Int->Option Int->Hp->VK->Prop:=fun x lo hi H Q=>∃ a xs,x=.ref a/\SqL K H a xs/\∀ p,H p=none->Q (.ref p) (upd H p (.lst (fk xs lo hi)))
theorem uv:SlR X (yI X.K):=by
 intro pins s σ H x v vl vu lo hi sl Q I rx hs pl pu h
 obtain ⟨a,xs,rfl,hx,q⟩:=h
 cases rx
 obtain ⟨its,r,ht,hz⟩:=I.list hx
 have hlen:=r.length
 refine ⟨"list",_,slot_list_getitem.lookup,ht.isList.typeIs,?_⟩
 refine wpAny_getItem_list_slice ht.isList hs pl pu .none (by simp) ?_ (by rw [List.size_toArray] <;> omega)
 rw [fY,<- hlen]
 refine ⟨.ref s.heap.objs.size,_,I.laid (t':=s.toks) (o:=.lst (fk xs lo hi)) (fun b ob q=>Heap.get?_push_of_some _ q) (Nat.le_refl _) ?_,rfl,q _ (I.hok.fresh (Nat.le_refl _))⟩
 exact ⟨Nat.le_trans (jD xs lo hi) hz,_,0,(r.drop (HT.sIx xs.length 0 lo)).take (HT.sIx xs.length xs.length hi-HT.sIx xs.length 0 lo),Heap.get?_push_size _ rfl⟩
theorem jb:E2 X (.builtin "len") (fun xs H Q=>∃ p ys,xs = [.ref p]/\(SqL X.K H p ys\/SqT X.K H p ys)/\Q (.int ys.length) H):=by
 intro pins s σ H xs us Q I r h
 obtain ⟨p,ys,rfl,hq,q⟩:=h
 obtain ⟨u,rfl,rx⟩:=vals1 r
 cases rx
 have hn:=aZ
 rcases hq with hq | hq
 ·obtain ⟨its,r',pl,hz⟩:=I.list hq
  have hlen:=r'.length
  exact Calls.call_len_list pl.isList (by simp only [List.size_toArray] <;> omega) ⟨.int ys.length,H,I.tok _,⟨s.toks+1,by rw [List.size_toArray,hlen]⟩,q⟩
 ·obtain ⟨its,r',pl,hz⟩:=I.tuple hq
  have hlen:=r'.length
  exact len_tuple pl (by simp only [List.size_toArray] <;> omega) ⟨.int ys.length,H,I.tok _,⟨s.toks+1,by rw [List.size_toArray,hlen]⟩,q⟩
theorem ja:E2 X (.type "list") (fun xs H Q=>∃ p ys,xs = [.ref p]/\(SqL X.K H p ys\/SqT X.K H p ys)/\∀ l,H l=none->Q (.ref l) (upd H l (.lst ys))):=by
 intro pins s σ H xs us Q I r h
 obtain ⟨p,ys,rfl,hq,q⟩:=h
 obtain ⟨u,rfl,rx⟩:=vals1 r
 cases rx
 have fin:∀ (its:List Value),Vals ys its->ys.length<=sizeLine->∀ (h':Heap) (c':Nat),(∀ b o',s.heap.get? b=some o'->h'.get? b=some o') ->
   h'.get? s.heap.objs.size=some { cls:=.type "list",dict:=none,data:=.seq its.toArray c',slots:=#[] }->EP X pins σ Q (.ref s.heap.objs.size) { s with heap:=h' }:=fun its r' hz h' c' kp e=>
  ⟨.ref s.heap.objs.size,_,I.laid (t':=s.toks) kp (Nat.le_refl _) (show ObjOk X.prog X.w _ h' _ (.lst ys) from ⟨hz,its,c',r',e⟩),rfl,q _ (I.hok.fresh (Nat.le_refl _))⟩
 rcases hq with hq | hq
 ·obtain ⟨its,r',pl,hz⟩:=I.list hq
  have hlen:=r'.length
  obtain ⟨o,ho,hc,n,hd⟩:=pl.isList
  exact call_list_seq p (.inl rfl) ho hc hd (fun h' c' kp e=>fin its r' hz h' c' kp e) (by simp only [List.size_toArray] <;> omega)
 ·obtain ⟨its,r',pl,hz⟩:=I.tuple hq
  have hlen:=r'.length
  obtain ⟨o,ho,hc,n,hd⟩:=pl
  exact call_list_seq p (.inr rfl) ho hc hd (fun h' c' kp e=>fin its r' hz h' c' kp e) (by simp only [List.size_toArray] <;> omega)
theorem gc:E2 X (.type "tuple") (fun xs H Q=>∃ p ys,xs = [.ref p]/\((SqL X.K H p ys/\∀ l,H l=none->Q (.ref l) (upd H l (.tup ys)))\/(SqT X.K H p ys/\Q (.ref p) H))):=by
 intro pins s σ H xs us Q I r h
 obtain ⟨p,ys,rfl,h⟩:=h
 obtain ⟨u,rfl,rx⟩:=vals1 r
 cases rx
 rcases h with ⟨hq,q⟩ | ⟨hq,q⟩
 ·obtain ⟨its,r',pl,hz⟩:=I.list hq
  have hlen:=r'.length
  refine call_tuple_list pl.isList (fun h' kp=>?_) (by simp only [List.size_toArray] <;> omega)
  have I1:Inv X pins σ H { s with heap:=h' }:=I.kept (t':=s.toks) kp
  have I2:Inv X pins σ (upd H h'.objs.size (.tup ys)) { s with heap:=h'.push { cls:=.type "tuple",data:=.seq its.toArray } }:=
   I1.laid (t':=s.toks) (fun b o e=>Heap.get?_push_of_some _ e) (Nat.le_refl _) (show ObjOk X.prog X.w _ _ _ (.tup ys) from ⟨hz,its,r',IsTup.new _ _⟩)
  exact ⟨.ref h'.objs.size,_,I2,rfl,q _ (I1.hok.fresh (Nat.le_refl _))⟩
 ·obtain ⟨its,r',pl,hz⟩:=I.tuple hq
  exact call_tuple_same pl ⟨.ref p,H,I,rfl,q⟩
def tyV (K:Frag) (T:String) (x:V) (H:Hp):Prop:=match x with
 | .str _=>T = "str"
 | .int _=>T = "int"
 | .ref p=>(T = "list" /\ ∃ xs,SqL K H p xs)\/(T = "tuple" /\ ∃ o,K.lookup p=some o/\o.cls=.type "tuple" /\ o.dict=none) \/
   (T = "dict" /\ ((∃ EQ,H p=some (.dK EQ))\/∃ EQ,H p=some (.dT EQ)))\/(T = "set" /\ ∃ S n,H p=some (.set S n))
 | _=>False
theorem gG {pins:List (Addr×Obj)} {σ:St} {H:Hp} {s:Shared} {T:String} {x:V} {v:Value} (I:Inv X pins σ H s) (r:RelV x v) (ty:tyV X.K T x H) :
  s.TypeIs v T/\∀ a,v=.ref a->∃ ob,s.heap.get? a=some ob/\ob.dict=none:=by
 cases x with
 | str z=>
  obtain ⟨t,rfl⟩:=r
  cases (show T = "str" from ty)
  exact ⟨typeIs_str s z t,fun _ e=>nomatch e⟩
 | int i=>
  obtain ⟨t,rfl⟩:=r
  cases (show T = "int" from ty)
  exact ⟨typeIs_int s i t,fun _ e=>nomatch e⟩
 | ref p=>
  cases r
  rcases ty with ⟨rfl,xs,hq⟩ | ⟨rfl,o,hk,hc,hd⟩ | ⟨rfl,hk⟩ | ⟨rfl,S,n,hk⟩
  ·obtain ⟨its,_,pl,_⟩:=I.list hq
   refine ⟨pl.isList.typeIs,fun a e=>?_⟩
   cases e
   obtain ⟨o,n,e,c,hd,_⟩:=pl
   exact ⟨o,e,hd⟩
  ·refine ⟨⟨o,I.kIn p o hk,hc⟩,fun a e=>?_⟩
   cases e
   exact ⟨o,I.kIn _ o hk,hd⟩
  ·have z:∃ o,s.heap.get? p=some o/\o.ExactDict:=by
    rcases hk with ⟨EQ,hk⟩ | ⟨EQ,hk⟩
    ·obtain ⟨_,_,_,_,o,_,_,e,ex,_⟩:=I.hok p _ hk
     exact ⟨o,e,ex⟩
    ·obtain ⟨_,_,_,_,o,_,_,e,ex,_⟩:=I.hok p _ hk
     exact ⟨o,e,ex⟩
   obtain ⟨o,e,ex⟩:=z
   refine ⟨⟨o,e,ex.1⟩,fun a e2=>?_⟩
   cases e2
   exact ⟨o,e,ex.2.1⟩
  ·obtain ⟨o,_,_,_,e,ex,_⟩:=I.hok p _ hk
   refine ⟨⟨o,e,ex.1⟩,fun a e2=>?_⟩
   cases e2
   exact ⟨o,e,ex.2.1⟩
 | _=>exact False.elim ty
def xF (K:Frag) (T:String) (r:V->List V->Hp->VK->Prop) (to:TE):TE:=fun σ H Q=>to σ H fun x H1=>tyV K T x H1/\r x [] H1 Q
def tBM (K:Frag) (T:String) (r:V->List V->Hp->VK->Prop) (to:TE) (t:TA):TE:=fun σ H Q=>to σ H fun x H1=>tyV K T x H1/\t σ H1 fun xs H2=>r x xs H2 Q
variable {o e:Expr} {es:List Expr} {to:TE} {t:TA} {name:Str} {apos EL:Pos} {T id:String} {r:V->List V->Hp->VK->Prop}
theorem zm (pa:PlainAttrs T) (slot:Slot T name id) (Ju:typeOf (.builtin id)=pure (.type "method_descriptor")) (hm:MtR X id r) (ho:PE X o to)
  (ET:attributeBase o name X.env (eval o X.env)=eval o X.env:=by rfl) (ER:(apos.endLine == EL.line)=true:=by rfl):PE X (.Call (.Attribute o name apos) [] [] EL) (xF X.K T r to):=by
 intro pins s σ H Q I h
 refine wpAny_Call_method0_late ET ER (thn (ho pins s σ H _ I h) fun v s1 zz49=>?_)
 obtain ⟨x,H1,I1,r1,ty,q1⟩:=zz49
 obtain ⟨h1,h2⟩:=gG I1 r1 ty
 exact ⟨T,id,pa,slot,Ju,h1,h2,Calls.callWith_builtin rfl (PySem.evalArgs_none (hm pins s1 σ H1 x [] v [] Q I1 r1 .nil q1))⟩
theorem CN (pa:PlainAttrs T) (slot:Slot T name id) (Ju:typeOf (.builtin id)=pure (.type "method_descriptor")) (hm:MtR X id r) (ho:PE X o to) (ha:PA X (e::es) t)
  (ET:attributeBase o name X.env (eval o X.env)=eval o X.env:=by rfl)
  (FA:((backTo EL (starEach (e::es) X.env)).all (fun x=>!x.1)&&(backToKw EL (keywordEach [] X.env)).all (fun x=>x.1.isSome)
   && decide ((e::es).length+([]:List Keyword).length+(if ([]:List Keyword).isEmpty then 0 else 1)<30))=true:=by rfl)
  (ER:(apos.endLine == EL.line)=true:=by rfl) (hs:starEach (e::es) X.env=(false,eval e X.env)::starEach es X.env:=by rfl) (Fq:(backTo EL (starEach es X.env)).any (·.1)=false:=by rfl) :
  PE X (.Call (.Attribute o name apos) (e::es) [] EL) (tBM X.K T r to t):=by
 intro pins s σ H Q I h
 refine wpAny_Call_method_late ET FA ER rfl (thn (ho pins s σ H _ I h) fun v s1 zz50=>?_)
 obtain ⟨x,H1,I1,r1,ty,q1⟩:=zz50
 obtain ⟨h1,h2⟩:=gG I1 r1 ty
 refine ⟨T,id,pa,slot,Ju,h1,h2,?_⟩
 have hA:=ha EL pins s1 σ H1 _ I1 q1
 rw [hs] at hA ⊢
 refine Calls.callWith_builtin (by show (false||(backTo EL (starEach es X.env)).any (·.1))=false; rw [Fq] <;> rfl) (Calls.evalArgs_plain ?_)
 exact thn hA fun us s2 zz51=>by obtain ⟨vs,H2,I2,r2,q2⟩:=zz51; exact hm pins s2 σ H2 x vs v us Q I2 r1 r2 q2
end
end L2
namespace L2
open PySem PySem.Spec PyProof.Rows
def MtM (X:Cx) (id:String) (r:V->List V->Hp->VK->Prop):Prop:=
 ∀ (pins:List (Addr×Obj)) (s:Shared) (σ:St) (H:Hp) (x:V) (xs:List V) (v:Value) (us:List Value) (Q:VK),Inv X pins σ H s->RelV x v->Vals xs us->r x xs H Q ->
  wpAny (model X.prog X.w) X.A (call (.builtin id) (v::us)) (EP X pins σ Q) X.xe s
theorem Vals.one:∀ {x:V} {us:List Value},Vals [x] us->∃ u,us = [u]/\RelV x u:=by
 intro x us r
 cases r with
 | cons r t=>cases t; exact ⟨_,rfl,r⟩
theorem Vals.zero:∀ {us:List Value},Vals [] us->us = []
 | _,.nil=>rfl
theorem Vals.reverse {xs:List V} {us:List Value} (h:Vals xs us):Vals xs.reverse us.reverse:=by
 induction h with
 | nil=>exact .nil
 | cons r t ih=>rw [List.reverse_cons,List.reverse_cons]; exact Vals.append ih (.cons r .nil)
section
variable {X:Cx} {pins:List (Addr×Obj)} {σ:St} {H:Hp} {s:Shared} {l b:Addr} {xs ys zs:List V}
theorem Inv.lset {its its':List Value} {n:Nat} {f:Array Value->Array Value} {t':Nat} (I:Inv X pins σ H s) (hH:H l=some (.lst xs))
  (e:s.heap.get? l=some { cls:=.type "list",data:=.seq its.toArray n }) (hf:f its.toArray=its'.toArray) (hv:Vals ys its') (hz:ys.length<=sizeLine) :
  Inv X pins σ (upd H l (.lst ys)) { s with heap:=s.heap.update l (Obj.mapSeq f),toks:=t' }:=by
 have q:=PySem.IsL.update e f
 rw [hf] at q
 refine I.write (x:=l) (e:=l) (by rw [hH]; exact trivial) (.inl rfl) (fun b' u hb hu=>(Heap.get?_update_other s.heap (Obj.mapSeq f) (Ne.symm hb)).trans hu) ⟨_,q⟩ ?_
 exact ⟨hz,its',_,hv,q⟩
theorem Inv.lnew {its:List Value} {t':Nat} (I:Inv X pins σ H s) (hv:Vals ys its) (hz:ys.length<=sizeLine) :
  Inv X pins σ (upd H s.heap.objs.size (.lst ys)) { s with heap:=s.heap.push { cls:=.type "list",data:=.seq its.toArray },toks:=t' }:=
 I.laid (fun _ _ q=>Heap.get?_push_of_some _ q) (Nat.le_refl _) ⟨hz,its,0,hv,Heap.get?_push_size _ rfl⟩
theorem Inv.fresh (I:Inv X pins σ H s):H s.heap.objs.size=none:=I.hok.fresh (Nat.le_refl _)
theorem Inv.lstM (I:Inv X pins σ H s) (hH:H l=some (.lst xs)):xs.length<=sizeLine/\∃ (its:List Value) (n:Nat),Vals xs its/\xs.length=its.length/\s.heap.get? l=some { cls:=.type "list",data:=.seq its.toArray n }:=by
 obtain ⟨z,its,n,r,e⟩:=I.hok l _ hH
 exact ⟨z,its,n,r,r.length,e⟩
theorem rq {n:Nat} (h:n<=sizeLine):Builtin.List.listTooLong n=false:=by
 unfold Builtin.List.listTooLong
 exact decide_eq_false (by omega)
end
section
variable {X:Cx}
def rAppend:V->List V->Hp->VK->Prop:=fun x vs H Q=>∃ l xs y,x=.ref l/\vs = [y]/\H l=some (.lst xs)/\xs.length<sizeLine/\Q .non (upd H l (.lst (xs ++ [y])))
theorem fG:MtM X "list.append" rAppend:=by
 intro pins s σ H x vs v us Q I rx rv h
 obtain ⟨l,xs,y,rfl,rfl,hH,hz,q⟩:=h
 cases rx
 obtain ⟨u,rfl,ru⟩:=rv.one
 obtain ⟨z,its,n,r,hl,e⟩:=I.lstM hH
 refine call_meets F.slot_list_append ⟨_,e,rfl⟩ F.entry_list_append (F.args_list_append_2 _ _) (PySem.list_append l its.toArray n u (by rw [List.size_toArray]; omega)) ⟨e,?_⟩
 refine ⟨.non,_,I.lset (its':=its ++ [u]) hH e (by simp) (r.append (.cons ru .nil)) ?_,rfl,q⟩
 rw [List.length_append,List.length_singleton]
 omega
def rExtend:V->List V->Hp->VK->Prop:=fun x vs H Q=>∃ l b xs zs,x=.ref l/\vs = [.ref b]/\H l=some (.lst xs)/\H b=some (.lst zs)/\xs.length+zs.length<=sizeLine/\Q .non (upd H l (.lst (xs++zs)))
theorem oC:MtM X "list.extend" rExtend:=by
 intro pins s σ H x vs v us Q I rx rv h
 obtain ⟨l,b,xs,zs,rfl,rfl,hH,hB,hz,q⟩:=h
 cases rx
 obtain ⟨u,rfl,ru⟩:=rv.one
 cases ru
 obtain ⟨z,its,n,r,hl,e⟩:=I.lstM hH
 obtain ⟨z2,EY,n2,r2,hl2,e2⟩:=I.lstM hB
 have Gx:its.toArray.size+EY.toArray.size<=sizeLine:=by rw [List.size_toArray,List.size_toArray]; omega
 have hlong:¬ (!its.toArray.isEmpty&&Builtin.List.listTooLong (its.toArray.size+EY.toArray.size))=true:=by
  rw [rq Gx,Bool.and_false]
  exact Bool.false_ne_true
 refine call_meets F.slot_list_extend ⟨_,e,rfl⟩ F.entry_list_extend (F.args_list_extend_2 _ _)
  (AutoSeq1.list_extend_list_list_0 l its.toArray n b EY.toArray n2 hlong (by rw [List.size_toArray]; omega) (by omega)) ⟨e,e2,?_⟩
 refine ⟨.non,_,I.lset (its':=its++EY) hH e (by simp) (r.append r2) ?_,rfl,q⟩
 rw [List.length_append]
 omega
def rReverse:V->List V->Hp->VK->Prop:=fun x vs H Q=>∃ l xs,x=.ref l/\vs = []/\H l=some (.lst xs)/\Q .non (upd H l (.lst xs.reverse))
theorem lL:MtM X "list.reverse" rReverse:=by
 intro pins s σ H x vs v us Q I rx rv h
 obtain ⟨l,xs,rfl,rfl,hH,q⟩:=h
 cases rx
 have hus:=rv.zero
 subst hus
 obtain ⟨z,its,n,r,hl,e⟩:=I.lstM hH
 refine call_meets F.slot_list_reverse ⟨_,e,rfl⟩ F.entry_list_reverse (F.args_list_reverse_1 _) (AutoSeq1.list_reverse_list_0 l its.toArray n (by rw [List.size_toArray]; omega)) ⟨e,?_⟩
 refine ⟨.non,_,I.lset (its':=its.reverse) hH e (by simp) r.reverse ?_,rfl,q⟩
 rw [List.length_reverse]
 omega
def rCat:R2:=fun x y H Q=>∃ l b xs zs,x=.ref l/\y=.ref b/\H l=some (.lst xs)/\H b=some (.lst zs)/\xs.length+zs.length<=sizeLine/\∀ p,H p=none->Q (.ref p) (upd H p (.lst (xs++zs)))
theorem zp:OpR X (binaryOp .Add) rCat:=by
 intro pins s σ H x y v u Q I rx ry h
 obtain ⟨l,b,xs,zs,rfl,rfl,hH,hB,hz,q⟩:=h
 cases rx
 cases ry
 obtain ⟨z,its,n,r,hl,e⟩:=I.lstM hH
 obtain ⟨z2,EY,n2,r2,hl2,e2⟩:=I.lstM hB
 refine PySem.P.add_list e e2 ?_ (by rw [List.size_toArray,List.size_toArray]; omega)
 have ea:its.toArray++EY.toArray=(its++EY).toArray:=by simp
 rw [ea]
 exact ⟨.ref _,_,I.lnew (t':=s.toks) (r.append r2) (by rw [List.length_append]; omega),rfl,q _ I.fresh⟩
end
section
variable {prog:Program} {w:World} {A:Around} {E:Value->Shared->Prop} {s:Shared}
end
section
variable {X:Cx}
end
end L2
namespace Att
open PySem PySem.W PySem.Calls PyProof.Rows
theorem dC {P:Params} {h:Heap}:∀ (ns:List Int) (vs:List Value),WellAll P h vs (ns.map WData.int)->IntsAre vs ns:=by
 intro ns
 induction ns with
 | nil=>
  intro vs w
  rw [List.map_nil] at w
  cases w
  exact .nil
 | cons n ns ih=>
  intro vs w
  rw [List.map_cons] at w
  cases w with
  | cons a b=>
   cases a
   exact .cons _ _ (ih _ b)
theorem nL {l:OpenLaw} {n:Nat} (hn:l.most=some n) {P:Params} {h:Heap} {args:List WData} {vals:List Value}
  (GH:l.row.toRowW.claim.pre args=true) (HH:WellAll P h vals args) :
  ∃ a vs ns,vals = [Value.ref a]/\args = [WData.list (ns.map WData.int)]/\h.get? a=some { cls:=.type "list",data:=.seq vs.toArray }/\IntsAre vs ns/\ns.length<=n:=by
 have GT:WShape.hasAll [] args [.list .int]=true:=(pre_splitW GH).1
 have hc:l.pre.holds [] { args:=args }=true:=(pre_splitW GH).2
 obtain ⟨d,r,rfl,h1,h2⟩:=hasAllW_cons GT
 obtain rfl:=hasAllW_nil h2
 obtain ⟨xs,rfl,h3⟩:=hasW_list h1
 obtain ⟨ns,rfl⟩:=items_int h3
 have hlen:ns.length<=n:=by
  unfold OpenLaw.pre at hc
  have h4:(WTm.not (.lt (.lit (.int (n:Int))) (.len (.arg 0)))).holds [] { args:=[.list (ns.map .int)] }=true:=by
   have h4:=(holds_andW hc).1
   rw [hn] at h4
   exact h4
  have h5:=condW_of h4 (w_not (w_lt w_lit (w_len_list (w_arg rfl))))
  rw [List.length_map] at h5
  refine Nat.le_of_not_lt fun q=>?_
  have q':(n:Int)<((ns.length:Nat):Int):=by omega
  first
   | (rw [decide_eq_true q'] at h5; exact absurd h5 (by decide))
   | (simp at h5; omega)
 cases HH with
 | cons w1 w2=>
  cases w2
  cases w1 with
  | list ho EN=>exact ⟨_,_,ns,rfl,rfl,ho,dC ns _ EN,hlen⟩
theorem og (l:OpenLaw) (args:List WData):l.row.toRowW.claim.post args (.bool true) args=true:=
 postW_of (r:=l.row.toRowW) (X:=(true == true))
  (show WShape.has [] (.bool true) .bool=true by first | rfl | decide | simp [WShape.has,WShape.arms,WShape.armsAll])
  (show (WTm.eq .res (.lit (.bool true))).value [] { args:=args,res:=some (.bool true),after:=args }=some (.bool (true == true)) from w_eq_bool (w_res rfl) w_lit) rfl
theorem attach_call {l:OpenLaw} {n:Nat} {q:Program} {loose:List Str} {XP:(Str->Option Value)->Heap->Prop} {YP:World->Heap->Prop} {d:DefRec}
  (hn:l.most=some n) (Ip:d.params.defaults = [])
  (call:∀ (w:World) (s₀ s₁:Shared) (mg mb:Str->Option Value) (fa:Addr) (o:Obj) (pm cd doc:Value) (a:Addr) (vs:List Value) (ns:List Int),
   Ground q loose [] XP w s₀ mg mb s₁.heap->YP w s₁.heap ->
   s₁.heap.get? fa=some o->o.data=.func (docDef d.name d.params d.body d.scope pm cd doc)->s₁.heap.CodeRec cd d.name->mg d.name=some (.ref fa) ->
   s₁.heap.get? a=some { cls:=.type "list",data:=.seq vs.toArray }->IntsAre vs ns->ns.length<=n->s₁.gens=#[] ->
   codeAny (model l.prog w) callerA (.call (.ref fa) ⟨[.ref a],[]⟩) (fun r s'=>r=.ok (.ret (.bool true))/\OldK s₁.heap s'.heap/\s'.os=s₁.os/\AllBare s'.gens) s₁) :
  WalkO q loose XP YP l.row.toRowW d [] (fun f vs=>PySem.call f vs):=by
 intro w s₀ s₁ mg mb G Y fa o pm cd doc dV kV ho hd Fo hD JA hg args vals as GH hlay hrd HH GB
 obtain rfl:dV=.none:=Dflts.none hD Ip
 obtain rfl:kV=.none:=Dflts.noKw hD
 obtain ⟨a,vs,ns,rfl,rfl,Ho,hints,hlen⟩:=nL hn GH HH
 refine enter_call (codeAny_mono (call w s₀ s₁ mg mb fa o pm cd doc a vs ns G Y ho (fd_plain hd) Fo JA Ho hints hlen hg) fun r s' hq=>?_)
 obtain ⟨rfl,h2,h3,h4⟩:=hq
 exact ⟨.inl ⟨.bool true,.bool true,[],rfl,fun _=>rfl,.bool true,og l _,fun _=>⟨List.Pairwise.nil,fun _ hm=>(nomatch hm)⟩⟩,h2,h3,h4⟩
section
variable {prog:Program} {w:World} {A:Around} {E:Value->Shared->Prop} {s:Shared} {K:Frag}
end
end Att
namespace L2
open PySem PySem.Spec PyProof.Rows
theorem mZ:∀ {vs:List Value} {ns:List Int},IntsAre vs ns->Vals (ns.map V.int) vs:=by
 intro vs ns h
 induction h with
 | nil=>exact .nil
 | cons n t h ih=>exact .cons ⟨t,rfl⟩ ih
def mM (H:Hp):Prop:=∀ b,H b=none\/∃ o xs,H b=some (.frz o (.lst xs))
theorem rO {P:Program} {w:World} {K:Frag} {mg mb:Str->Option Value} {CX:CXT} {k:Nat} {fa a:Addr} {fd:FuncData} {x:Str} {sp:Sp} {s₁:Shared} {vs:List Value} {ns:List Int}
  (KX:K.In s₁.heap) (hns:s₁.heap.Ns mainGlobals mg) (hb:s₁.heap.Ns builtinsNs mb) (hbb:∀ x:Str,x ≠ "__name__" -> mb x=bootBuiltins x) (hlim:s₁.heap.NoLimit) (hg:s₁.gens=#[])
  (ha:s₁.heap.get? a=some { cls:=.type "list",data:=.seq vs.toArray }) (hi:IntsAre vs ns) (hl:ns.length<=sizeLine) (hr:Room k callerA)
  (F:∀ base:Heap,K.In base->base.Ns mainGlobals mg->FnOk P w K mg base CX k fa fd [x] sp) (hbind:∀ (s:Shared) (u:Value),BindsTo s fd ⟨[u],[]⟩ [(x,u)])
  (Gy:∀ H:Hp,mM H->SqL K H a (ns.map V.int)->sp [.ref a] H (fun v _=>v=.bl true) fun _ _ _=>False)
  (IA:∀ H e s',CX [] H s₁ (fun _ _ _=>False) e s'->False) :
  codeAny (model P w) callerA (.call (.ref fa) ⟨[.ref a],[]⟩) (fun r s'=>r=.ok (.ret (.bool true))/\OldK s₁.heap s'.heap/\s'.os=s₁.os/\AllBare s'.gens) s₁:=by
 have rv:=mZ hi
 have lenV:=hi.length
 -- from an abstract heap in which nothing but the script may be tracked
 have core:∀ H:Hp,mM H->SqL K H a (ns.map V.int)->HOk P w H s₁.heap->(∀ b,H b≠none->b=a)->(H a≠none->K.lookup a=none) ->
   codeAny (model P w) callerA (.call (.ref fa) ⟨[.ref a],[]⟩) (fun r s'=>r=.ok (.ret (.bool true))/\OldK s₁.heap s'.heap/\s'.os=s₁.os/\AllBare s'.gens) s₁:=by
  intro H hO hS hok hA hK
  have FT:∀ {b:Addr} {o:Obj},s₁.heap.get? b=some o->H b=none->(ai s₁.heap H).get? b=some o:=fun e n=>rX e n
  have HX:∀ {b:Addr} {o:Obj} {es:Array DictEntry} {ep:Nat},s₁.heap.get? b=some o->o.data=.dict es ep->H b=none:=fun {b o es ep} e d=>by
   cases q:H b with
   | none=>rfl
   | some u=>
    have e':b=a:=hA b (by rw [q]; simp)
    subst e'
    rw [ha] at e; cases e
    have d':Data.seq vs.toArray _=Data.dict es ep:=d
    cases d'
  have II:∀ {b:Addr} {m:Str->Option Value},s₁.heap.Ns b m->(ai s₁.heap H).Ns b m:=fun {b m} zz52=>by obtain ⟨o,es,ep,e,d,r⟩:=zz52; exact ⟨o,es,ep,FT e (HX e d),d,r⟩
  have hKb:K.In (ai s₁.heap H):=fun b o e=>FT (KX b o e) (by
   cases q:H b with
   | none=>rfl
   | some u=>
    have e':b=a:=hA b (by rw [q]; simp)
    subst e'
    rw [hK (by rw [q]; simp)] at e; cases e)
  have hM:Mod K mg (ai s₁.heap H):=⟨hKb,II hns,⟨mb,II hb,hbb⟩,let ⟨mc,h1,h2⟩:=hlim; ⟨mc,II h1,h2⟩⟩
  have e0:mO P w K mg (ai s₁.heap H) callerA [] s₁ H:=⟨rfl,hM,fun b o e=>vt e,Nat.le_of_eq (oT _ _),trivial,fun b hb=>absurd (show b∈([]:List Addr) from hb) (by simp),hok,.of_eq hg⟩
  refine codeAny_mono ((F _ hKb (II hns)).run callerA [] s₁ H ⟨[.ref a],[]⟩ [.ref a] [.ref a] _ _ hr e0 (hbind s₁ (.ref a)) (.cons rfl .nil) (Gy H hO hS)) fun r s' h=>?_
  cases r with
  | error e=>exact (IA H e s' h).elim
  | ok fl=>
   cases fl with
   | next=>exact False.elim h
   | brk=>exact False.elim h
   | cont=>exact False.elim h
   | ret u=>
    obtain ⟨v,H',os,bare,un,hok',r',q⟩:=h
    have q':v=.bl true:=q
    subst q'
    obtain rfl:u=Value.bool true:=r'
    refine ⟨rfl,OldK.of_keep fun b o e=>?_,os,bare⟩
    cases q:H b with
    | none=>exact un.keep b o e q (by intro z; exact absurd (show b∈([]:List Addr) from z) (by simp)) (by simp)
    | some u=>
     rcases hO b with z | ⟨ob,xs,z⟩
     ·rw [q] at z; cases z
     ·have z2:=un.frzs b ob _ z
      obtain ⟨e1,_⟩:=hok b _ z
      obtain ⟨e2,_⟩:=hok' b _ z2
      rw [e] at e1; cases e1
      exact e2
 cases hk:K.lookup a with
 | some o=>
  -- the script is one of the module's own objects
  have e:=KX a o hk
  rw [ha] at e
  cases e
  refine core (fun _=>none) (fun _=>.inl rfl) (.inr ⟨_,vs.toArray,_,hk,rfl,rfl,rfl,by rw [List.size_toArray,lenV]; exact hl,by simpa using rv⟩) (fun b u z=>by have z':(none:Option HO)=some u:=z; cases z') (fun b z=>absurd rfl z) fun z=>absurd rfl z
 | none=>
  refine core (fun b=>if b=a then some (.frz { cls:=.type "list",data:=.seq vs.toArray } (.lst (ns.map V.int))) else none) (fun b=>?_) (.inl (.inr ⟨{ cls:=.type "list",data:=.seq vs.toArray },if_pos rfl⟩)) (fun b u z=>?_) (fun b z=>?_) fun _=>hk
  ·by_cases hb:b=a
   ·exact .inr ⟨_,_,if_pos hb⟩
   ·exact .inl (if_neg hb)
  ·by_cases hb:b=a
   ·have z':=(if_pos hb).symm.trans z
    cases z'
    subst hb
    exact ⟨ha,by rw [List.length_map]; exact hl,vs,_,rv,ha⟩
   ·have z':=(if_neg hb).symm.trans z
    cases z'
  ·by_cases hb:b=a
   ·exact hb
   ·exact absurd (if_neg hb) z
end L2
namespace L2
open PySem PySem.Spec PyProof.Rows
theorem ug {l:PySem.W.OpenLaw} {n k:Nat} {q:Program} {loose:List Str} {XP:(Str->Option Value)->Heap->Prop} {YP:World->Heap->Prop} {d:DefRec} {K:Params->Frag} {CX:World->CXT} {sp:World->Sp} {x:Str}
  (hn:l.most=some n) (Hq:n<=sizeLine) (Ip:d.params.defaults = []) (hr:Room k callerA)
  (hY:∀ (w:World) (h:Heap),YP w h->(K w.params).In h)
  (F:∀ (w:World) (mg:Str->Option Value) (fa:Addr) (h:Heap),(K w.params).In h->h.Ns mainGlobals mg->mg d.name=some (.ref fa) ->
   ∃ fd:FuncData,(∀ (s:Shared) (u:Value),BindsTo s fd ⟨[u],[]⟩ [(x,u)]) /\
    ∀ base:Heap,(K w.params).In base->base.Ns mainGlobals mg->FnOk l.prog w (K w.params) mg base (CX w) k fa fd [x] (sp w))
  (Gy:∀ (w:World) (H:Hp) (a:Addr) (ns:List Int),ns.length<=n->mM H->SqL (K w.params) H a (ns.map V.int)->sp w [.ref a] H (fun v _=>v=.bl true) fun _ _ _=>False)
  (IA:∀ (w:World) (H:Hp) (s:Shared) (e:Value) (s':Shared),CX w [] H s (fun _ _ _=>False) e s'->False) :
  PySem.W.WalkO q loose XP YP l.row.toRowW d [] (fun f vs=>PySem.call f vs):=by
 refine Att.attach_call hn Ip fun w s₀ s₁ mg mb fa o pm cd doc a vs ns G Y ho hd Fo JA Ho hints hlen hg=>?_
 have KX:=hY w _ Y
 obtain ⟨fd,hb,hF⟩:=F w mg fa _ KX G.T.g JA
 exact rO KX G.T.g G.T.b G.T.builtins G.T.nolimit hg Ho hints (Nat.le_trans hlen Hq) hr hF hb (fun H hO hS=>Gy w H a ns hlen hO hS) fun H e s'=>IA w H s₁ e s'
theorem walk_ofK {l:PySem.W.OpenLaw} {n k:Nat} {q:Program} {loose:List Str} {XP:(Str->Option Value)->Heap->Prop} {YP:World->Heap->Prop} {d:DefRec} {K:Params->Frag} {CX:CXT} {sp:Frag->Sp} {x:Str}
  (hn:l.most=some n) (Hq:n<=sizeLine) (Ip:d.params.defaults = []) (hr:Room k callerA)
  (hY:∀ (w:World) (h:Heap),YP w h->(K w.params).In h)
  (F:∀ (w:World) (mg:Str->Option Value) (fa:Addr) (h:Heap),(K w.params).In h->h.Ns mainGlobals mg->mg d.name=some (.ref fa) ->
   ∃ fd:FuncData,(∀ (s:Shared) (u:Value),BindsTo s fd ⟨[u],[]⟩ [(x,u)]) /\
    ∀ base:Heap,(K w.params).In base->base.Ns mainGlobals mg->FnOk l.prog w (K w.params) mg base CX k fa fd [x] (sp (K w.params)))
  (Gy:∀ (K:Frag) (H:Hp) (a:Addr) (ns:List Int),ns.length<=n->mM H->SqL K H a (ns.map V.int)->sp K [.ref a] H (fun v _=>v=.bl true) fun _ _ _=>False)
  (IA:∀ (H:Hp) (s:Shared) (e:Value) (s':Shared),CX [] H s (fun _ _ _=>False) e s'->False) :
  PySem.W.WalkO q loose XP YP l.row.toRowW d [] (fun f vs=>PySem.call f vs):=
 ug (K:=K) (CX:=fun _=>CX) (sp:=fun w=>sp (K w.params)) hn Hq Ip hr hY F (fun w H a ns h1 h2 h3=>Gy (K w.params) H a ns h1 h2 h3) fun _ H s e s'=>IA H s e s'
end L2
namespace L2
open PySem PySem.Spec PyProof.Rows
def M7 (s:Stmt):Arguments:=match s with
 | .FunctionDef _ a _ _ _ _ _ _ _ _=>a
 | _=>{ posonlyargs:=[],args:=[],vararg:=none,kwonlyargs:=[],kw_defaults:=[],kwarg:=none,defaults:=[] }
def B9 (s:Stmt):List Stmt:=match s with
 | .FunctionDef _ _ b _ _ _ _ _ _ _=>b
 | _=>[]
def b7 (s:Stmt):Scope:=match s with
 | .FunctionDef _ _ _ _ _ _ sc _ _ _=>sc
 | _=>{ kind:=.function,names:=[],isGenerator:=false,isCoroutine:=false }
abbrev CX0:CXT:=fun _ _ _ _ _ _=>False
abbrev E0:XK:=fun _ _ _=>False
theorem dh {X:Cx}:jl CX0 X E0:=fun _ _ _ _ _ _ _ h=>h.elim
structure Fun (K:Frag) (x qual:Str) (st:Stmt) (f:Addr) (fd:FuncData):Prop where
 ex:∃ (oc:Value) (od:Option Addr) (kV doc pm:Value) (an:Option Addr) (EW ct:Value) (GN:Array (Option Value)),
  fd=PySem.W.fnOf x qual (M7 st) (B9 st) (b7 st) .none kV doc pm an EW ct/\K.lookup f=some ⟨oc,od,.func fd,GN⟩/\PySem.W.codeIn K EW qual=true
 kp:PySem.W.keepIn K (.ref f)=true
section
variable {P:Program} {w:World} {K:Frag} {mg:Str->Option Value} {base:Heap}
theorem Fun.ok {x qual:Str} {st:Stmt} {f:Addr} {fd:FuncData} {N ps:List Str} {k:Nat} {sp:Sp} (F:Fun K x qual st f fd) (S:f6 N ps (b7 st)) (len:∀ vs H Q E,sp vs H Q E->vs.length=ps.length)
  (FG:∀ (EW:Value) (A:Around) (outer:List Env) (s:Shared) (H:Hp) (vs:List V) (Q:VK) (E:XK),Room k (A.deeper (envOfC qual (b7 st) s.heap.objs.size f EW))->sp vs H Q E ->
   ∃ t,PSs (aq CX0 P w K mg base N qual (b7 st) f EW A outer s H E).nox (B9 st) t/\t { nx:=fun _ H'=>Q .non H',rt:=Q } (start N vs) H):FnOk P w K mg base CX0 (k+1) f fd ps sp:=by
 obtain ⟨oc,od,kV,doc,pm,an,EW,ct,GN,rfl,lk,Fo⟩:=F.ex
 refine Dj lk Fo S len fun A outer s H vs Q E hr Gy=>?_
 obtain ⟨t,h,q⟩:=FG EW A outer s H vs Q E hr Gy
 exact ⟨t,h.nox,q⟩
theorem Fun.binds {x qual:Str} {st:Stmt} {f:Addr} {fd:FuncData} {ps:List Str} (F:Fun K x qual st f fd)
  (h:∀ (kV doc pm:Value) (an:Option Addr) (EW ct:Value) (us:List Value),us.length=ps.length->bindArgs (PySem.W.fnOf x qual (M7 st) (B9 st) (b7 st) .none kV doc pm an EW ct) ⟨us,[]⟩=pure (ps.zip us)):Binds K fd ps []:=by
 obtain ⟨oc,od,kV,doc,pm,an,EW,ct,GN,rfl,lk,Fo⟩:=F.ex
 exact .all (h kV doc pm an EW ct)
theorem AL {x qual:Str} {st:Stmt} {f:Addr} {oc:Value} {od an:Option Addr} {GN:Array (Option Value)} {kV doc pm EW ct:Value} (l:K.lookup f=some ⟨oc,od,.func (PySem.W.fnOf x qual (M7 st) (B9 st) (b7 st) .none kV doc pm an EW ct),GN⟩)
  (c:PySem.W.codeIn K EW qual=true) (k:PySem.W.keepIn K (.ref f)=true):Fun K x qual st f (PySem.W.fnOf x qual (M7 st) (B9 st) (b7 st) .none kV doc pm an EW ct):=⟨⟨oc,od,kV,doc,pm,an,EW,ct,GN,rfl,l,c⟩,k⟩
end
section
variable {X:Cx}
theorem pv (i:Nat) {x:Str} {pos:Pos} (hN:X.N[i]?=some x:=by rfl) (hv:Vis X.env.scope x:=by first | exact Or.inl rfl | exact Or.inr (Or.inl rfl) | exact Or.inr (Or.inr rfl)) (hd:(x == ("__debug__" : Str))=false:=by decide)
  (Fo:(x == ("__classdict__" : Str))=false:=by decide):PE X (.Name x pos) (S3 i):=P4 hN hv hd Fo
end
def Same (H H':Hp):Prop:=∀ b o,H b=some o->H' b=some o
theorem Same.refl (H:Hp):Same H H:=fun _ _ h=>h
theorem Same.trans {H H1 H2:Hp} (a:Same H H1) (b:Same H1 H2):Same H H2:=fun c o h=>b c o (a c o h)
theorem Same.free {H H':Hp} (e:Same H H') {l:Addr} (h:H' l=Option.none):H l=Option.none:=by
 cases q:H l with
 | none=>rfl
 | some o=>
  rw [e l o q] at h
  cases h
theorem Same.seq {K:Frag} {H H':Hp} {a:Addr} {xs:List V} (e:Same H H') (h:SqL K H a xs):SqL K H' a xs:=by
 rcases h with (h | ⟨o,h⟩) | h
 ·exact .inl (.inl (e _ _ h))
 ·exact .inl (.inr ⟨o,e _ _ h⟩)
 ·exact .inr h
end L2
namespace L2
open PySem PySem.Spec PyProof.Rows
section
variable {κ:Type} [DecidableEq κ]
def xo (EQ:List (κ×V)) (k:κ):Option V:=(EQ.find? fun kv=>decide (kv.1=k)).map (·.2)
def putK (EQ:List (κ×V)) (k:κ) (v:V):List (κ×V):=
 if (EQ.any fun kv=>decide (kv.1=k))=true then EQ.map (fun kv=>if kv.1=k then (kv.1,v) else kv) else EQ ++ [(k,v)]
def dropK (EQ:List (κ×V)) (k:κ):List (κ×V):=EQ.filter fun kv=>decide (kv.1≠k)
end
abbrev KT (H:Hp):List (List Key×V)->List (List Key×Addr×Value)->Prop:=Paired fun p q=>p.1=q.1/\H q.2.1=some (.tup (p.1.map kV))/\RelV p.2 q.2.2
section
variable {P:Program} {w:World} {H:Hp} {h:Heap} {a:Addr}
end
def DGet (H:Hp) (a:Addr) (y:V) (r:Option V):Prop:=
 (∃ EQ k,Rd H a (.dK EQ)/\y=kV k/\r=xo EQ k)\/∃ EQ k b,Rd H a (.dT EQ)/\y=.ref b/\H b=some (.tup (k.map kV))/\r=xo EQ k
def DPut (H:Hp) (a:Addr) (y v:V) (H':Hp):Prop:=
 (∃ EQ k,H a=some (.dK EQ)/\y=kV k/\EQ.length<sizeLine/\H'=upd H a (.dK (putK EQ k v))) \/
 ∃ EQ k b,H a=some (.dT EQ)/\y=.ref b/\H b=some (.tup (k.map kV))/\EQ.length<sizeLine/\H'=upd H a (.dT (putK EQ k v))
section
variable {X:Cx} {pins:List (Addr×Obj)} {σ:St} {H:Hp} {s:Shared} {a:Addr} {y v:V} {u r:Value} {o:Option V} {A:Around} {E:Value->Shared->Prop}
end
section
variable {X:Cx} {pins:List (Addr×Obj)} {σ:St} {H:Hp} {s:Shared} {a:Addr} {EQ:List (Key×V)} {k:Key} {u:Value} {A:Around} {E:Value->Shared->Prop}
end
section
variable {X:Cx} {o i e value:Expr} {pos pos' tpos:Pos} {td ty tv:TE}
end
section
variable {X:Cx} {pos:Pos}
end
end L2
namespace L2
open PySem
structure Sub where
 t:Bool
 i:Addr
 l:Addr
def Sub.At (u:Sub) (h:Heap) (n:Nat):Prop:=if u.t=true then h.IsTupleIter u.i u.l n else h.IsListIter u.i u.l n
def Sub.Src (u:Sub) (h:Heap) (xs:Array Value):Prop:=if u.t=true then h.IsTuple u.l xs else h.IsList u.l xs
theorem Sub.At.obj {u:Sub} {h:Heap} {n:Nat} (x:u.At h n):∃ o,h.get? u.i=some o/\o.data=.fields #[.ref u.l,.int n 0]:=by
 unfold Sub.At at x
 split at x <;> (obtain ⟨o,e,_,d⟩:=x; exact ⟨o,e,d⟩)
theorem Sub.At.keep {u:Sub} {h h':Heap} {n:Nat} (x:u.At h n) (k:∀ o,h.get? u.i=some o->h'.get? u.i=some o):u.At h' n:=by
 unfold Sub.At at x ⊢
 split at x <;> (rename_i ht; obtain ⟨o,e,r⟩:=x; simp only [ht,if_true,if_false,Bool.false_eq_true]; exact ⟨o,k o e,r⟩)
theorem Sub.Src.keep {u:Sub} {h h':Heap} {xs:Array Value} (x:u.Src h xs) (k:∀ o,h.get? u.l=some o->h'.get? u.l=some o):u.Src h' xs:=by
 unfold Sub.Src at x ⊢
 split at x <;> (rename_i ht; obtain ⟨o,e,r⟩:=x; simp only [ht,if_true,if_false,Bool.false_eq_true]; exact ⟨o,k o e,r⟩)
section
variable {prog:Program} {w:World} {A:Around} {E:Value->Shared->Prop} {s:Shared}
theorem du {it t:Addr} {i:Nat} {items:Array Value} {x:Value} {Q:Value->Shared->Prop} (hit:s.heap.IsTupleIter it t i) (ht:s.heap.IsTuple t items) (hx:items[i]?=some x)
  (hQ:∀ h',h'.IsTupleIter it t (i+1)->Heap.SameBut it s.heap h'->Q x { s with heap:=h' }):wpAny (model prog w) A (Builtin.SmallTypes.nextOf (.ref it)) Q E s:=by
 obtain ⟨o,ho,hc,hd⟩:=id hit; obtain ⟨ol,Jx,_,nl,IW⟩:=ht; unfold Builtin.SmallTypes.nextOf
 refine wpAny_bind (wpAny_callSpecial?_slot (name:=Str.ofString "__next__") hit.typeIs F.slot_tuple_iterator_next (wpAny_call_entry F.slot_tuple_iterator_next hit.typeIs F.entry_tuple_iterator_next ?_ (F.args_tuple_iterator_next_1 _)))
 show wpAny _ _ (field (.ref it) 0>>=_) _ _ s; refine wpAny_bind (wpAny_field ho hd (x:=.ref t) rfl ?_)
 show wpAny _ _ (if (Value.ref t == Value.none)=true then _ else _) _ _ s; rw [if_neg (show ¬ ((Value.ref t == Value.none)=true) from Bool.false_ne_true)]
 show wpAny _ _ (field (.ref it) 1>>=_) _ _ s; refine wpAny_bind (wpAny_field ho hd (x:=.int i 0) rfl ?_)
 show wpAny _ _ (seqItems? (.ref t)>>=_) _ _ s; refine wpAny_bind (wpAny_seqItems Jx IW ?_); simp only [Int.toNat_natCast,hx]
 refine wpAny_bind (wpAny_setField ho hd (by simp) (wpAny_pure ⟨x,rfl,wpAny_pure (hQ _ ?_ (Heap.SameBut.update ..))⟩)); exact ⟨_,Heap.get?_update_self _ ho (Obj.isFreed_of_fields (Obj.data_mapFields hd _)),(Obj.cls_mapFields ..).trans hc,by rw [Obj.data_mapFields hd]; simp [rawInt]⟩
theorem eT {it t:Addr} {i:Nat} {items:Array Value} {Q:Value->Shared->Prop} (hh:A.handled=none) (hit:s.heap.IsTupleIter it t i) (ht:s.heap.IsTuple t items) (hx:items[i]?=none)
  (hE:∀ h' e,Heap.ExtBut it s.heap h'->(∃ o,h'.get? e=some o/\o.cls=.type "StopIteration")->E (.ref e) { s with heap:=h' }):wpAny (model prog w) A (Builtin.SmallTypes.nextOf (.ref it)) Q E s:=by
 obtain ⟨o,ho,hc,hd⟩:=id hit; obtain ⟨ol,Jx,_,nl,IW⟩:=ht; unfold Builtin.SmallTypes.nextOf
 refine wpAny_bind (wpAny_callSpecial?_slot (name:=Str.ofString "__next__") hit.typeIs F.slot_tuple_iterator_next (wpAny_call_entry F.slot_tuple_iterator_next hit.typeIs F.entry_tuple_iterator_next ?_ (F.args_tuple_iterator_next_1 _)))
 show wpAny _ _ (field (.ref it) 0>>=_) _ _ s; refine wpAny_bind (wpAny_field ho hd (x:=.ref t) rfl ?_)
 show wpAny _ _ (if (Value.ref t == Value.none)=true then _ else _) _ _ s; rw [if_neg (show ¬ ((Value.ref t == Value.none)=true) from Bool.false_ne_true)]
 show wpAny _ _ (field (.ref it) 1>>=_) _ _ s; refine wpAny_bind (wpAny_field ho hd (x:=.int i 0) rfl ?_)
 show wpAny _ _ (seqItems? (.ref t)>>=_) _ _ s; refine wpAny_bind (wpAny_seqItems Jx IW ?_); simp only [Int.toNat_natCast,hx]
 refine wpAny_bind (wpAny_rule (wpAny_bind (wpAny_setField ho hd (by simp) ?_))); show wpAny _ _ (newExc (.type "StopIteration") []>>=_) _ _ _
 refine wpAny_bind ?_; simp only [newExc,newTuple]; refine wpAny_bind (wpAny_newObj_type ?_ (by size_fits))
 refine wpAny_bind (m:=firstArgMember _ _) (wpAny_of_eq (a:=Value.none) (by first | rfl | (simp only [firstArgMember]; rfl)) ?_); refine wpAny_newObj_type ?_ (by size_fits); simp only [raiseNew]
 refine wpAny_bind (wpAny_handled ?_); first | rw [show A.in1.handled=none from hh] | rw [hh]
 refine wpAny_bind (wpAny_pure (wpAny_throw ?_)); exact hE _ _ (((Heap.SameBut.update ..).extBut.push _).push _) ⟨_,Heap.get?_push_size _ rfl,rfl⟩
theorem Sub.item {u:Sub} {n:Nat} {xs:Array Value} {x:Value} {Q:Value->Shared->Prop} (ha:u.At s.heap n) (hs:u.Src s.heap xs) (hx:xs[n]?=some x)
  (hQ:∀ h',u.At h' (n+1)->Heap.SameBut u.i s.heap h'->Q x { s with heap:=h' }):wpAny (model prog w) A (Builtin.SmallTypes.nextOf (.ref u.i)) Q E s:=by
 unfold Sub.At at ha hQ; unfold Sub.Src at hs
 cases ht:u.t with
 | true=>simp only [ht,if_true] at ha hs hQ; exact du ha hs hx hQ
 | false=>simp only [ht,if_false,Bool.false_eq_true] at ha hs hQ; exact wpAny_nextOf_list_item ha hs hx hQ
theorem Sub.ends {u:Sub} {n:Nat} {xs:Array Value} {Q:Value->Shared->Prop} (hh:A.handled=none) (ha:u.At s.heap n) (hs:u.Src s.heap xs) (hx:xs[n]?=none)
  (hE:∀ h' e,Heap.ExtBut u.i s.heap h'->(∃ o,h'.get? e=some o/\o.cls=.type "StopIteration")->E (.ref e) { s with heap:=h' }):wpAny (model prog w) A (Builtin.SmallTypes.nextOf (.ref u.i)) Q E s:=by
 unfold Sub.At at ha; unfold Sub.Src at hs
 cases ht:u.t with
 | true=>simp only [ht,if_true] at ha hs; exact eT hh ha hs hx hE
 | false=>simp only [ht,if_false,Bool.false_eq_true] at ha hs; exact wpAny_nextOf_list_end hh ha hs hx hE
abbrev C4 (h:Heap) (T:Addr) (arr:Array Value):Prop:=h.get? T=some { cls:=.type "tuple",data:=.seq arr }
def drawn (n:Nat):List (Sub×Array Value)->Nat->Array Value->Array Value
 | [],_,arr=>arr
 | u::r,c,arr=>drawn n r (c+1) (arr.setIfInBounds c (u.2.getD n .none))
def tY (prog:Program) (w:World) (A:Around) (z TO:Addr) (E:Value->Shared->Prop) (B:Value×Nat->Option Fin×Unit->Sem (ForInStep (Option Fin×Unit))):Prop:=
 ∀ (v:Value) (k:Nat) (s:Shared) (Q:ForInStep (Option Fin×Unit)->Shared->Prop),
  wpAny (model prog w) A (Builtin.SmallTypes.nextOf v) (fun x s1=>∃ arr,C4 s1.heap TO arr/\arr.size<=sizeLine/\∀ h',C4 h' TO (arr.setIfInBounds k x)->Heap.SameBut TO s1.heap h'->Q (.yield (none,())) { s1 with heap:=h' })
   (fun e s1=>wpAny (model prog w) A (setField (.ref z) 0 .none) (fun _ s2=>E e s2) E s1) s->wpAny (model prog w) A (B (v,k) (none,())) Q E s
structure Apart (z TO:Addr) (ss:List (Sub×Array Value)):Prop where
 zTO:z≠TO
 zi:∀ u∈ss,u.1.i≠z
 ti:∀ u∈ss,u.1.i≠TO
 nd:ss.Pairwise fun u v=>u.1.i≠v.1.i
 lz:∀ u∈ss,u.1.l≠z
 lt:∀ u∈ss,u.1.l≠TO
 li:∀ u∈ss,∀ v∈ss,u.1.l≠v.1.i
theorem Apart.tail {z TO:Addr} {u:Sub×Array Value} {ss:List (Sub×Array Value)} (D:Apart z TO (u::ss)):Apart z TO ss:=
 ⟨D.zTO,fun v hv=>D.zi v (List.mem_cons_of_mem _ hv),fun v hv=>D.ti v (List.mem_cons_of_mem _ hv),(List.pairwise_cons.mp D.nd).2,fun v hv=>D.lz v (List.mem_cons_of_mem _ hv),fun v hv=>D.lt v (List.mem_cons_of_mem _ hv),
  fun v hv x hx=>D.li v (List.mem_cons_of_mem _ hv) x (List.mem_cons_of_mem _ hx)⟩
theorem draws {z TI TO:Addr} {n:Nat} {B:Value×Nat->Option Fin×Unit->Sem (ForInStep (Option Fin×Unit))} (hB:tY prog w A z TO E B) :
  ∀ (ss:List (Sub×Array Value)) (c:Nat) (arr:Array Value) (s:Shared) (Q:Option Fin×Unit->Shared->Prop),Apart z TO ss->IsZip s.heap z TI TO .ellipsis->C4 s.heap TO arr->arr.size<=sizeLine ->
   (∀ u∈ss,u.1.At s.heap n/\u.1.Src s.heap u.2/\∃ x,u.2[n]?=some x) ->
   (∀ h',IsZip h' z TI TO .ellipsis->C4 h' TO (drawn n ss c arr)->(∀ u∈ss,u.1.At h' (n+1))->h'.objs.size=s.heap.objs.size ->
    (∀ b o,b≠TO->(∀ u∈ss,b≠u.1.i)->s.heap.get? b=some o->h'.get? b=some o)->Q (none,()) { s with heap:=h' }) ->
   wpAny (model prog w) A (forIn ((ss.map fun u=>Value.ref u.1.i).zipIdx c) (none,()) B) Q E s:=by
 intro ss
 induction ss with
 | nil=>
  intro c arr s Q D hz hT hl hu hQ
  simp only [List.map_nil,List.zipIdx_nil,List.forIn_nil]
  exact wpAny_pure (hQ s.heap hz hT (fun _ h=>absurd h List.not_mem_nil) rfl fun _ _ _ _ e=>e)
 | cons u r ih=>
  intro c arr s Q D hz hT hl hu hQ
  simp only [List.map_cons,List.zipIdx_cons,List.forIn_cons]
  obtain ⟨ha,EZ,x,hx⟩:=hu u List.mem_cons_self
  refine wpAny_bind (hB _ _ _ _ (Sub.item ha EZ hx fun h1 Ix sb1=>⟨arr,sb1.extBut _ _ (D.ti u List.mem_cons_self).symm hT,hl,fun h2 JI sb2=>?_⟩))
  have uz:=D.zi u List.mem_cons_self
  have ut:=D.ti u List.mem_cons_self
  have kp:∀ b o,b≠TO->b≠u.1.i->s.heap.get? b=some o->h2.get? b=some o:=fun b o h1 h2 e=>sb2.extBut _ _ h1 (sb1.extBut _ _ h2 e)
  have IO:∀ v∈r,v.1.i≠u.1.i:=fun v hv=>((List.pairwise_cons.mp D.nd).1 v hv).symm
  refine ih (c+1) (arr.setIfInBounds c x) { s with heap:=h2 } Q D.tail (kp _ _ D.zTO uz.symm hz) JI (by simpa using hl) (fun v hv=>?_) fun h3 z3 T3 a3 s3 k3=>?_
  ·obtain ⟨a,b,y⟩:=hu v (List.mem_cons_of_mem _ hv)
   exact ⟨a.keep fun o e=>kp _ o (D.ti v (List.mem_cons_of_mem _ hv)) (IO v hv) e,b.keep fun o e=>kp _ o (D.lt v (List.mem_cons_of_mem _ hv)) (D.li v (List.mem_cons_of_mem _ hv) u List.mem_cons_self) e,y⟩
  ·refine hQ h3 z3 ?_ (fun v hv=>?_) (by rw [s3]; show h2.objs.size=_; rw [sb2.1,sb1.1]) fun b o h1 h2 e=>k3 b o h1 (fun v hv=>h2 v (List.mem_cons_of_mem _ hv)) (kp b o h1 (h2 u List.mem_cons_self) e)
   ·have e:u.2.getD n .none=x:=by simp [Array.getD_eq_getD_getElem?,hx]
    show C4 h3 TO (drawn n r (c+1) (arr.setIfInBounds c (u.2.getD n .none)))
    rw [e]; exact T3
   ·rcases List.mem_cons.mp hv with rfl | hv
    ·exact Ix.keep fun o e=>k3 _ o ut (fun v' IN=>(IO v' IN).symm) (sb2.extBut _ _ ut e)
    ·exact a3 v hv
theorem pj {z TI TO:Addr} {n:Nat} {B:Value×Nat->Option Fin×Unit->Sem (ForInStep (Option Fin×Unit))} (hh:A.handled=none) (hB:tY prog w A z TO E B) :
  ∀ (ss:List (Sub×Array Value)) (c:Nat) (arr:Array Value) (s:Shared) (Q:Option Fin×Unit->Shared->Prop),Apart z TO ss->IsZip s.heap z TI TO .ellipsis->C4 s.heap TO arr->arr.size<=sizeLine ->
   (∀ u∈ss,u.1.At s.heap n/\u.1.Src s.heap u.2)->(∃ u∈ss,u.2[n]?=none) ->
   (∀ h' e,(∀ b o,b≠z->b≠TO->(∀ u∈ss,b≠u.1.i)->s.heap.get? b=some o->h'.get? b=some o)->(∃ o,h'.get? e=some o/\o.cls=.type "StopIteration")->E (.ref e) { s with heap:=h' }) ->
   wpAny (model prog w) A (forIn ((ss.map fun u=>Value.ref u.1.i).zipIdx c) (none,()) B) Q E s:=by
 intro ss
 induction ss with
 | nil=>
  intro c arr s Q D hz hT hl hu hx hQ
  obtain ⟨_,h,_⟩:=hx
  exact absurd h List.not_mem_nil
 | cons u r ih=>
  intro c arr s Q D hz hT hl hu hx hQ
  simp only [List.map_cons,List.zipIdx_cons,List.forIn_cons]
  obtain ⟨ha,EZ⟩:=hu u List.mem_cons_self
  have uz:=D.zi u List.mem_cons_self
  have ut:=D.ti u List.mem_cons_self
  cases Ig:u.2[n]? with
  | none=>
   refine wpAny_bind (hB _ _ _ _ (Sub.ends hh ha EZ Ig fun h1 e eb he=>?_))
   obtain ⟨oe,Jy,hce⟩:=he
   have GR:IsZip h1 z TI TO .ellipsis:=eb _ _ uz.symm hz
   have hez:e≠z:=fun x=>by subst x; rw [GR] at Jy; cases Jy; simp at hce
   exact wpAny_setField_rec GR (by simp) fun h3 _ sb3=>hQ h3 e (fun b o b1 b2 b3 q=>sb3.extBut _ _ b1 (eb _ _ (b3 u List.mem_cons_self) q)) ⟨oe,sb3.extBut _ _ hez Jy,hce⟩
  | some x=>
   refine wpAny_bind (hB _ _ _ _ (Sub.item ha EZ Ig fun h1 Ix sb1=>⟨arr,sb1.extBut _ _ ut.symm hT,hl,fun h2 JI sb2=>?_⟩))
   have kp:∀ b o,b≠TO->b≠u.1.i->s.heap.get? b=some o->h2.get? b=some o:=fun b o h1 h2 e=>sb2.extBut _ _ h1 (sb1.extBut _ _ h2 e)
   have IO:∀ v∈r,v.1.i≠u.1.i:=fun v hv=>((List.pairwise_cons.mp D.nd).1 v hv).symm
   refine ih (c+1) (arr.setIfInBounds c x) { s with heap:=h2 } Q D.tail (kp _ _ D.zTO uz.symm hz) JI (by simpa using hl) (fun v hv=>?_) ?_ fun h3 e k3 he=>?_
   ·obtain ⟨a,b⟩:=hu v (List.mem_cons_of_mem _ hv)
    exact ⟨a.keep fun o e=>kp _ o (D.ti v (List.mem_cons_of_mem _ hv)) (IO v hv) e,b.keep fun o e=>kp _ o (D.lt v (List.mem_cons_of_mem _ hv)) (D.li v (List.mem_cons_of_mem _ hv) u List.mem_cons_self) e⟩
   ·obtain ⟨v,hv,e⟩:=hx
    rcases List.mem_cons.mp hv with rfl | hv
    ·rw [Ig] at e; cases e
    ·exact ⟨v,hv,e⟩
   ·exact hQ h3 e (fun b o b1 b2 b3 q=>k3 b o b1 b2 (fun v hv=>b3 v (List.mem_cons_of_mem _ hv)) (kp b o b2 (b3 u List.mem_cons_self) q)) he
theorem mj (n:Nat):∀ (ss:List (Sub×Array Value)) (c:Nat) (arr:Array Value),(drawn n ss c arr).size=arr.size:=by
 intro ss
 induction ss with
 | nil=>intro c arr; rfl
 | cons u r ih=>intro c arr; unfold drawn; rw [ih]; simp
theorem pk (n:Nat):∀ (ss:List (Sub×Array Value)) (c:Nat) (arr:Array Value),c+ss.length=arr.size->(drawn n ss c arr).toList=arr.toList.take c++ss.map fun u=>u.2.getD n .none:=by
 intro ss
 induction ss with
 | nil=>
  intro c arr h
  unfold drawn
  simp at h; subst h
  rw [List.map_nil,List.append_nil]
  exact (List.take_of_length_le (by simp)).symm
 | cons u r ih=>
  intro c arr h
  unfold drawn
  have hc:c<arr.size:=by simp at h; omega
  rw [ih (c+1) _ (by simp at h ⊢; omega)]
  rw [List.map_cons,Array.toList_setIfInBounds]
  have:(arr.toList.set c (u.2.getD n Value.none)).take (c+1)=arr.toList.take c ++ [u.2.getD n Value.none]:=by
   rw [List.take_add_one,List.take_set,List.getElem?_set_self (by simpa using hc)]
   rw [List.set_eq_of_length_le (by simp; omega)]; rfl
  rw [this,List.append_assoc]; rfl
theorem pW {z TI TO:Addr} {n:Nat} {ss:List (Sub×Array Value)} {arr:Array Value} {Q:Option Value->Shared->Prop} (D:Apart z TO ss) (ES:ss ≠ []) (Gx:arr.size=ss.length) (ER:ss.length<=sizeLine)
  (hz:IsZip s.heap z TI TO .none) (FO:C4 s.heap TI (ss.map fun u=>Value.ref u.1.i).toArray) (FS:C4 s.heap TO arr) (hu:∀ u∈ss,u.1.At s.heap n/\u.1.Src s.heap u.2/\∃ x,u.2[n]?=some x)
  (hQ:∀ h',IsZip h' z TI TO (rawInt s.heap.objs.size)->(∃ EV,C4 h' TO EV/\EV.size=ss.length)->(∀ u∈ss,u.1.At h' (n+1))->C4 h' s.heap.objs.size (ss.map fun u=>u.2.getD n .none).toArray ->
   (∀ b o,b≠z->b≠TO->(∀ u∈ss,b≠u.1.i)->s.heap.get? b=some o->h'.get? b=some o)->Q (some (.ref s.heap.objs.size)) { s with heap:=h' }) :
  wpAny (model prog w) A (pyNext (.ref z)) Q E s:=by
 have hT:s.TypeIs (.ref z) "zip" := ⟨_,hz,rfl⟩
 unfold pyNext
 refine wpAny_bind (wpAny_attempt (wpAny_callSpecial?_slot (name:=Str.ofString "__next__") hT F.slot_zip_next (wpAny_call_entry F.slot_zip_next hT F.entry_zip_next ?_ (F.args_zip_next_1 _))))
 show wpAny _ _ (field (.ref z) 2>>=_) _ _ _; refine wpAny_bind (wpAny_field hz rfl (x:=.bool false) rfl ?_)
 show wpAny _ _ (field (.ref z) 3>>=_) _ _ _; refine wpAny_bind (wpAny_field hz rfl (x:=.ref TI) rfl ?_); refine wpAny_bind (wpAny_seqItems FO rfl ?_)
 have e1:(ss.map fun u=>Value.ref u.1.i).toArray.isEmpty=false:=by cases ss <;> simp_all
 simp only [e1]
 refine wpAny_bind ?_; unfold Builtin.SmallTypes.ownedTupleIsFree; refine wpAny_bind (wpAny_field hz rfl (x:=.none) rfl (wpAny_pure ?_)); simp only [if_true]
 refine wpAny_bind (wpAny_rule ?_); refine wpAny_bind (wpAny_field hz rfl (x:=.ref TO) rfl ?_)
 refine wpAny_bind (wpAny_setField_rec hz (by simp) fun h1 z1 sb1=>?_); replace z1:IsZip h1 z TI TO .ellipsis:=z1
 refine wpAny_bind (draws (TI:=TI) (n:=n) (z:=z) (TO:=TO) ?_ ss 0 arr _ _ D z1 (sb1.extBut _ _ D.zTO.symm FS) (by omega) (fun u hm=>?_) fun h2 z2 T2 a2 s2 k2=>?_)
 ·intro v k s Q h
  refine wpAny_bind (wpAny_onRaise ?_)
  show wpAny _ _ (Builtin.SmallTypes.nextOf v>>=_) _ _ _
  refine wpAny_bind (wpAny_mono h (fun x s1 ⟨arr,hT1,hl,hq⟩=>wpAny_pure ?_) fun e s1 he=>he)
  refine wpAny_bind (wpAny_seqItems hT1 rfl ?_)
  refine wpAny_bind (wpAny_updateSeq hT1 rfl ?_ hl (by rw [Array.size_setIfInBounds]; omega))
  refine wpAny_bind (wpAny_letGo (wpAny_pure (hq _ ?_ (Heap.SameBut.update ..))))
  show Heap.get? _ _=_
  rw [Heap.get?_update_self _ hT1 rfl]; simp [Obj.mapSeq]
 ·obtain ⟨a,b,x⟩:=hu u hm
  exact ⟨a.keep fun o e=>sb1.extBut _ _ (D.zi u hm) e,b.keep fun o e=>sb1.extBut _ _ (D.lz u hm) e,x⟩
 ·have ed:(drawn n ss 0 arr).toList=ss.map fun u=>u.2.getD n .none:=by rw [pk n ss 0 arr (by omega)]; simp
  refine wpAny_bind (wpAny_seqItems T2 rfl ?_)
  have Gk:h2.objs.size=s.heap.objs.size:=by rw [s2]; exact sb1.1
  have hlz:z<h2.objs.size:=Heap.lt_size z2
  refine wpAny_bind (wpAny_newTuple (wpAny_bind ?_) (by rw [ed,List.length_map]; exact ER))
  unfold Builtin.SmallTypes.ownedTupleHandOut
  have z3:IsZip (h2.push { cls:=.type "tuple",data:=.seq (drawn n ss 0 arr).toList.toArray }) z TI TO .ellipsis:=Heap.get?_push_of_some _ z2
  refine wpAny_bind (wpAny_setField_rec z3 (by simp) fun h4 z4 sb4=>?_); replace z4:IsZip h4 z TI TO (rawInt h2.objs.size):=z4
  refine wpAny_setField_rec z4 (by simp) fun h5 z5 sb5=>?_; replace z5:IsZip h5 z TI TO (rawInt h2.objs.size):=z5
  have up:∀ b o,b≠z->h2.get? b=some o->h5.get? b=some o:=fun b o hb e=>sb5.extBut _ _ hb (sb4.extBut _ _ hb (Heap.get?_push_of_some _ e))
  have T5:C4 h5 h2.objs.size (drawn n ss 0 arr).toList.toArray:=sb5.extBut _ _ (Nat.ne_of_gt hlz) (sb4.extBut _ _ (Nat.ne_of_gt hlz) (Heap.get?_push_size _ rfl))
  rw [ed] at T5
  rw [Gk] at z5 T5
  refine wpAny_pure ⟨_,rfl,wpAny_pure ?_⟩
  show Q (some (.ref h2.objs.size)) _
  rw [Gk]
  exact hQ h5 z5 ⟨_,up _ _ D.zTO.symm T2,by rw [mj,Gx]⟩ (fun u hm=>(a2 u hm).keep fun o e=>up _ o (D.zi u hm) e) T5 fun b o b1 b2 b3 e=>up b o b1 (k2 b o b2 b3 (sb1.extBut _ _ b1 e))
theorem pV {z TI TO:Addr} {n:Nat} {ss:List (Sub×Array Value)} {arr:Array Value} {Q:Option Value->Shared->Prop} (hh:A.handled=none) (D:Apart z TO ss) (Gx:arr.size=ss.length) (ER:ss.length<=sizeLine)
  (hz:IsZip s.heap z TI TO .none) (FO:C4 s.heap TI (ss.map fun u=>Value.ref u.1.i).toArray) (FS:C4 s.heap TO arr) (hu:∀ u∈ss,u.1.At s.heap n/\u.1.Src s.heap u.2) (hx:∃ u∈ss,u.2[n]?=none)
  (hQ:∀ h',(∀ b o,b≠z->b≠TO->(∀ u∈ss,b≠u.1.i)->s.heap.get? b=some o->h'.get? b=some o)->Q none { s with heap:=h' }) :
  wpAny (model prog w) A (pyNext (.ref z)) Q E s:=by
 have hT:s.TypeIs (.ref z) "zip" := ⟨_,hz,rfl⟩
 unfold pyNext
 refine wpAny_bind (wpAny_attempt (wpAny_callSpecial?_slot (name:=Str.ofString "__next__") hT F.slot_zip_next (wpAny_call_entry F.slot_zip_next hT F.entry_zip_next ?_ (F.args_zip_next_1 _))))
 show wpAny _ _ (field (.ref z) 2>>=_) _ _ _; refine wpAny_bind (wpAny_field hz rfl (x:=.bool false) rfl ?_)
 show wpAny _ _ (field (.ref z) 3>>=_) _ _ _; refine wpAny_bind (wpAny_field hz rfl (x:=.ref TI) rfl ?_); refine wpAny_bind (wpAny_seqItems FO rfl ?_)
 have e1:(ss.map fun u=>Value.ref u.1.i).toArray.isEmpty=false:=by
  obtain ⟨u,hm,_⟩:=hx
  cases ss with
  | nil=>exact nomatch hm
  | cons a b=>simp
 simp only [e1]
 refine wpAny_bind ?_; unfold Builtin.SmallTypes.ownedTupleIsFree; refine wpAny_bind (wpAny_field hz rfl (x:=.none) rfl (wpAny_pure ?_)); simp only [if_true]
 refine wpAny_bind (wpAny_rule ?_); refine wpAny_bind (wpAny_field hz rfl (x:=.ref TO) rfl ?_)
 refine wpAny_bind (wpAny_setField_rec hz (by simp) fun h1 z1 sb1=>?_); replace z1:IsZip h1 z TI TO .ellipsis:=z1
 refine wpAny_bind (pj (A:=A.in1) (TI:=TI) (n:=n) (z:=z) (TO:=TO) (show A.in1.handled=none from hh) ?_ ss 0 arr _ _ D z1 (sb1.extBut _ _ D.zTO.symm FS) (by omega) (fun u hm=>?_) hx fun h2 e k2 he=>?_)
 ·intro v k s Q h
  refine wpAny_bind (wpAny_onRaise ?_)
  show wpAny _ _ (Builtin.SmallTypes.nextOf v>>=_) _ _ _
  refine wpAny_bind (wpAny_mono h (fun x s1 ⟨arr,hT1,hl,hq⟩=>wpAny_pure ?_) fun e s1 he=>he)
  refine wpAny_bind (wpAny_seqItems hT1 rfl ?_)
  refine wpAny_bind (wpAny_updateSeq hT1 rfl ?_ hl (by rw [Array.size_setIfInBounds]; omega))
  refine wpAny_bind (wpAny_letGo (wpAny_pure (hq _ ?_ (Heap.SameBut.update ..))))
  show Heap.get? _ _=_
  rw [Heap.get?_update_self _ hT1 rfl]; simp [Obj.mapSeq]
 ·obtain ⟨a,b⟩:=hu u hm
  exact ⟨a.keep fun o e=>sb1.extBut _ _ (D.zi u hm) e,b.keep fun o e=>sb1.extBut _ _ (D.lz u hm) e⟩
 ·obtain ⟨o,ho,hc⟩:=he
  refine wpAny_bind (wpAny_isInstance (T := "StopIteration") (b:=true) ⟨o,ho,hc⟩ isSubtype_stop ?_)
  exact wpAny_pure (hQ _ fun b o b1 b2 b3 e=>k2 b o b1 b2 b3 (sb1.extBut _ _ b1 e))
def SrcAt (h:Heap) (u:Bool×Addr×Array Value):Prop:=if u.1=true then h.IsTuple u.2.1 u.2.2 else h.IsList u.2.1 u.2.2
def g5 (n:Nat):List (Bool×Addr×Array Value)->List (Sub×Array Value)
 | []=>[]
 | u::r=>(⟨u.1,n,u.2.1⟩,u.2.2)::g5 (n+1) r
theorem rT {u:Bool×Addr×Array Value} {Q:Value->Shared->Prop} (hs:SrcAt s.heap u)
  (hQ:∀ h',(Sub.mk u.1 s.heap.objs.size u.2.1).At h' 0->h'.objs.size=s.heap.objs.size+1->(∀ b o,s.heap.get? b=some o->h'.get? b=some o)->Q (.ref s.heap.objs.size) { s with heap:=h' }) :
  wpAny (model prog w) A (pyIter (.ref u.2.1)) Q E s:=by
 unfold SrcAt at hs
 cases ht:u.1 with
 | true=>
  simp only [ht,if_true] at hs
  refine wpAny_pyIter_tuple hs (hQ _ ?_ (Heap.size_push ..) fun b o e=>Heap.get?_push_of_some _ e)
  unfold Sub.At
  simp only [ht,if_true]
  exact ⟨_,Heap.get?_push_size _ rfl,rfl,rfl⟩
 | false=>
  simp only [ht,Bool.false_eq_true,if_false] at hs
  refine wpAny_pyIter_list hs (hQ _ ?_ (Heap.size_push ..) fun b o e=>Heap.get?_push_of_some _ e)
  unfold Sub.At
  simp only [ht,Bool.false_eq_true,if_false]
  exact ⟨_,Heap.get?_push_size _ rfl,rfl,rfl⟩
theorem SrcAt.keep {h h':Heap} {u:Bool×Addr×Array Value} (x:SrcAt h u) (k:∀ b o,h.get? b=some o->h'.get? b=some o):SrcAt h' u:=by
 unfold SrcAt at x ⊢
 split at x <;> (rename_i ht; obtain ⟨o,e,r⟩:=x; simp only [ht,if_true,if_false,Bool.false_eq_true]; exact ⟨o,k _ o e,r⟩)
theorem jC:∀ (us:List (Bool×Addr×Array Value)) (acc:Array Value) (s:Shared) (Q:Array Value->Shared->Prop),(∀ u∈us,SrcAt s.heap u) ->
  (∀ h',(∀ v∈g5 s.heap.objs.size us,v.1.At h' 0)->h'.objs.size=s.heap.objs.size+us.length->(∀ b o,s.heap.get? b=some o->h'.get? b=some o) ->
   Q (acc++((g5 s.heap.objs.size us).map fun v=>Value.ref v.1.i).toArray) { s with heap:=h' }) ->
  wpAny (model prog w) A (forIn (us.map fun u=>Value.ref u.2.1) acc fun x r=>do let y <- holding r.toList (pyIter x); pure (ForInStep.yield (r.push y))) Q E s:=by
 intro us
 induction us with
 | nil=>
  intro acc s Q _ hQ
  simp only [List.map_nil,List.forIn_nil]
  have:=hQ s.heap (fun _ h=>absurd h List.not_mem_nil) rfl fun _ _ e=>e
  exact wpAny_pure (by simpa [g5] using this)
 | cons u r ih=>
  intro acc s Q hs hQ
  simp only [List.map_cons,List.forIn_cons]
  refine wpAny_bind (wpAny_bind (wpAny_holding (rT (hs u List.mem_cons_self) fun h1 a1 s1 k1=>wpAny_pure ?_)))
  refine ih (acc.push (.ref s.heap.objs.size)) { s with heap:=h1 } Q (fun v hv=>(hs v (List.mem_cons_of_mem _ hv)).keep k1) fun h2 a2 s2 k2=>?_
  have e0:g5 h1.objs.size r=g5 (s.heap.objs.size+1) r:=by rw [s1]
  have q:=hQ h2 (fun v hv=>?_) (by rw [s2]; show h1.objs.size+_=_; rw [s1,List.length_cons]; omega) fun b o e=>k2 b o (k1 b o e)
  ·have e:acc.push (Value.ref s.heap.objs.size)++(List.map (fun v=>Value.ref v.1.i) (g5 h1.objs.size r)).toArray=acc++(List.map (fun v=>Value.ref v.1.i) (g5 s.heap.objs.size (u::r))).toArray:=by
    rw [e0]; simp [g5]
   show Q (acc.push (Value.ref s.heap.objs.size)++(List.map (fun v=>Value.ref v.1.i) (g5 h1.objs.size r)).toArray) _
   rw [e]; exact q
  ·rcases List.mem_cons.mp hv with rfl | hv
   ·exact a1.keep fun o e=>k2 _ o e
   ·exact a2 v (by show v∈g5 h1.objs.size r; rw [e0]; exact hv)
theorem rV {us:List (Bool×Addr×Array Value)} {Q:List Value->Shared->Prop} (hs:∀ u∈us,SrcAt s.heap u)
  (hQ:∀ h',(∀ v∈g5 s.heap.objs.size us,v.1.At h' 0)->h'.objs.size=s.heap.objs.size+us.length->(∀ b o,s.heap.get? b=some o->h'.get? b=some o) ->
   Q ((g5 s.heap.objs.size us).map fun v=>Value.ref v.1.i) { s with heap:=h' }):wpAny (model prog w) A (Builtin.SmallTypes.iterAll (us.map fun u=>Value.ref u.2.1)) Q E s:=by
 unfold Builtin.SmallTypes.iterAll
 refine wpAny_bind (jC us #[] s _ hs fun h' a1 s1 k1=>wpAny_pure ?_)
 have:=hQ h' a1 s1 k1
 simpa using this
theorem N6:∀ (us:List (Bool×Addr×Array Value)) (n:Nat),(g5 n us).length=us.length:=by
 intro us
 induction us with
 | nil=>intro n; rfl
 | cons u r ih=>intro n; unfold g5; rw [List.length_cons,ih,List.length_cons]
theorem fH (us:List (Bool×Addr×Array Value)) (hl:us.length<=sizeLine) :
  Meets (Builtin.«zip.__new__» ⟨.type "zip" :: us.map fun u=>Value.ref u.2.1,[]⟩) (fun _ R s=>(∀ u∈us,SrcAt s.heap u) /\
   ∀ h',(∀ v∈g5 s.heap.objs.size us,v.1.At h' 0)->C4 h' (s.heap.objs.size+us.length) ((g5 s.heap.objs.size us).map fun v=>Value.ref v.1.i).toArray ->
    (∃ arr,C4 h' (s.heap.objs.size+us.length+1) arr/\arr.size=us.length)->IsZip h' (s.heap.objs.size+us.length+2) (s.heap.objs.size+us.length) (s.heap.objs.size+us.length+1) .none ->
    (∀ b o,s.heap.get? b=some o->h'.get? b=some o)->R (.ok (.ret (.ref (s.heap.objs.size+us.length+2)))) { s with heap:=h' }):=
 .of_wp fun prog w A R s h=>by
  obtain ⟨hs,h⟩:=h
  show wpAny _ _ (Builtin.SmallTypes.newClass "zip" _>>=_) _ _ _
  refine wpAny_bind ?_
  unfold Builtin.SmallTypes.newClass
  refine wpAny_bind (wpAny_of_eq (a:=true) rfl ?_)
  simp only [Bool.not_true,Bool.false_eq_true,if_false]
  refine wpAny_bind (wpAny_of_eq (a:=true) sub_zip ?_)
  simp only [Bool.not_true,Bool.false_eq_true,if_false]
  refine wpAny_pure ?_
  simp only [List.length_nil,show ¬ (0>1) by decide,if_false]
  refine wpAny_bind (rV hs fun h1 a1 s1 k1=>?_)
  refine wpAny_bind (wpAny_newTuple ?_ (by simp [N6,hl]))
  refine wpAny_bind (wpAny_newTuple ?_ (by simp [N6,hl]))
  generalize hI:((g5 s.heap.objs.size us).map fun v=>Value.ref v.1.i)=I at h ⊢
  have hIl:I.length=us.length:=by rw [<- hI,List.length_map,N6]
  refine wpAny_bind ?_
  show wpAny _ _ (newObj (.type "zip") (.fields #[.none,.bool false,.bool false,.ref h1.objs.size,.ref (h1.push { cls:=.type "tuple",data:=.seq I.toArray }).objs.size]) none) _ _ _
  refine wpAny_newObj_type (wpAny_pure ?_) (by size_fits)
  have z0:h1.objs.size=s.heap.objs.size+us.length:=s1
  have z1:(h1.push { cls:=.type "tuple",data:=.seq I.toArray }).objs.size=s.heap.objs.size+us.length+1:=by rw [Heap.size_push,s1]
  have z2:((h1.push { cls:=.type "tuple",data:=.seq I.toArray }).push { cls:=.type "tuple",data:=.seq (I.map fun _=>Value.none).toArray }).objs.size=s.heap.objs.size+us.length+2:=by rw [Heap.size_push,z1]
  refine ⟨_,rfl,?_⟩
  have g:=h (((h1.push { cls:=.type "tuple",data:=.seq I.toArray }).push { cls:=.type "tuple",data:=.seq (I.map fun _=>Value.none).toArray }).push { cls:=.type "zip",data:=.fields #[.none,.bool false,.bool false,.ref h1.objs.size,.ref (h1.push { cls:=.type "tuple",data:=.seq I.toArray }).objs.size] })
   (fun v hv=>(a1 v hv).keep fun o e=>Heap.get?_push_of_some _ (Heap.get?_push_of_some _ (Heap.get?_push_of_some _ e))) ?_ ⟨(I.map fun _=>Value.none).toArray,?_,by simp [hIl]⟩ ?_ fun b o e=>Heap.get?_push_of_some _ (Heap.get?_push_of_some _ (Heap.get?_push_of_some _ (k1 b o e)))
  ·rw [<- z2] at g
   exact g
  ·rw [<- z0]; exact Heap.get?_push_of_some _ (Heap.get?_push_of_some _ (Heap.get?_push_size _ rfl))
  ·rw [<- z1]; exact Heap.get?_push_of_some _ (Heap.get?_push_size _ rfl)
  ·rw [<- z2,<- z1,<- z0]; exact Heap.get?_push_size _ rfl
theorem kP (a b c:Value):checkTypeCall "zip" ⟨[a,b,c],[]⟩=pure ():=by kernel_rfl
theorem lK (a b c:Value):checkBuiltinCall "zip.__new__" ⟨[.type "zip",a,b,c],[]⟩=pure ():=by kernel_rfl
theorem mF (a b c d:Value):argsOk "object.__init__" ⟨[a,b,c,d],[]⟩:=by
 unfold argsOk; rw [signature?_of (id := "object.__init__") (n:=['_','_','t','i','n','i','_','_']) (o:=['t','c','e','j','b','o']) (by kernel_rfl) F.owner_object]; kernel_rfl
theorem sI (us:List (Bool×Addr×Array Value)) (hl:us.length=2\/us.length=3) {Q:Value->Shared->Prop} (hs:∀ u∈us,SrcAt s.heap u)
  (h:∀ h',(∀ v∈g5 s.heap.objs.size us,v.1.At h' 0)->C4 h' (s.heap.objs.size+us.length) ((g5 s.heap.objs.size us).map fun v=>Value.ref v.1.i).toArray ->
    (∃ arr,C4 h' (s.heap.objs.size+us.length+1) arr/\arr.size=us.length)->IsZip h' (s.heap.objs.size+us.length+2) (s.heap.objs.size+us.length) (s.heap.objs.size+us.length+1) .none ->
    (∀ b o,s.heap.get? b=some o->h'.get? b=some o)->Q (.ref (s.heap.objs.size+us.length+2)) { s with heap:=h' }) :
  wpAny (model prog w) A (call (.type "zip") (us.map fun u=>Value.ref u.2.1)) Q E s:=by
 have hle:us.length<=sizeLine:=Nat.le_trans (show us.length<=3 by omega) (by decide)
 have k:∀ h',_->_->_->_->_->({ s with heap:=h' }:Shared).TypeIs (.ref (s.heap.objs.size+us.length+2)) "zip" /\ Q (.ref (s.heap.objs.size+us.length+2)) { s with heap:=h' }:=fun h' c1 c2 c3 c4 c5=>⟨⟨_,c4,rfl⟩,h h' c1 c2 c3 c4 c5⟩
 cases us with
 | nil=>rcases hl with hl | hl <;> cases hl
 | cons a us=>
  cases us with
  | nil=>rcases hl with hl | hl <;> cases hl
  | cons b us=>
   cases us with
   | nil=>exact callType_new F.called_zip (by decide) (F.typeCall_zip_2 _ _) (F.newCall_zip_2 _ _) (fun obj=>F.args_object_init_3 obj _ _) F.entry_zip_new (fH [a,b] hle) ⟨hs,k⟩
   | cons c us=>
    cases us with
    | nil=>exact callType_new F.called_zip (by decide) (kP _ _ _) (lK _ _ _) (fun obj=>mF obj _ _ _) F.entry_zip_new (fH [a,b,c] hle) ⟨hs,k⟩
    | cons d us=>rcases hl with hl | hl <;> (simp only [List.length_cons] at hl; omega)
end
end L2
namespace L2
open PySem PySem.Spec PyProof.Rows
theorem W8 {α β:Type} {R:α->β->Prop}:∀ {l:List α},(∀ a∈l,∃ b,R a b)->∃ l':List (α×β),l'.map (·.1)=l/\∀ p∈l',R p.1 p.2:=by
 intro l
 induction l with
 | nil=>exact fun _=>⟨[],rfl,fun _ h=>absurd h List.not_mem_nil⟩
 | cons a l ih=>
  intro h
  obtain ⟨b,hb⟩:=h a List.mem_cons_self
  obtain ⟨l',e,q⟩:=ih fun x hx=>h x (List.mem_cons_of_mem _ hx)
  refine ⟨(a,b)::l',by rw [List.map_cons,e],fun p hp=>?_⟩
  rcases List.mem_cons.mp hp with rfl | hp
  ·exact hb
  ·exact q p hp
def Sq (K:Frag) (H:Hp) (t:Bool) (a:Addr) (xs:List V):Prop:=if t=true then SqT K H a xs else SqL K H a xs
section
variable {X:Cx} {pins:List (Addr×Obj)} {σ:St} {H:Hp} {s:Shared}
theorem kne {b a:Addr} {o:Obj} (I:Inv X pins σ H s) (h:X.K.lookup a=some o) (f:D9 X pins H b):a≠b:=by
 intro e
 subst e
 have hb:X.base.get? a=some o:=I.mod.kin a o h
 obtain ⟨f0,f1,f2,f3,f4,f5⟩:=f
 rcases f3 with z | z
 ·exact I.ok.noex a o hb z
 ·exact absurd (Nat.lt_of_lt_of_le (Heap.lt_size (I.ok.bs a o hb).1) z) (Nat.lt_irrefl _)
theorem Sq.ne {t:Bool} {a b:Addr} {xs:List V} (I:Inv X pins σ H s) (h:Sq X.K H t a xs) (f:D9 X pins H b):a≠b:=by
 have tr:∀ {u:HO},Rd H a u->a≠b:=fun {u} r e=>by
  subst e
  have f0:=f.1
  rcases r with r | ⟨o,r⟩ <;> (rw [f0] at r; cases r)
 unfold Sq at h
 split at h
 ·rcases h with h | ⟨o,its,n,hk,_⟩
  ·exact tr h
  ·exact kne I hk f
 ·rcases h with h | ⟨o,its,n,hk,_⟩
  ·exact tr h
  ·exact kne I hk f
theorem Sq.src {t:Bool} {a:Addr} {xs:List V} (I:Inv X pins σ H s) (h:Sq X.K H t a xs):∃ its:List Value,Vals xs its/\(Sub.mk t 0 a).Src s.heap its.toArray:=by
 unfold Sq at h
 unfold Sub.Src
 split at h
 ·rename_i ht
  obtain ⟨its,r,p,_⟩:=I.tuple h
  exact ⟨its,r,by simp only [ht,if_true]; exact p⟩
 ·rename_i ht
  obtain ⟨its,r,p,_⟩:=I.list h
  exact ⟨its,r,by simp only [ht,if_false]; exact p.isList⟩
theorem Sq.inj {t:Bool} {a:Addr} {xs ys:List V} (I:Inv X pins σ H s) (h:Sq X.K H t a xs) (h':Sq X.K H t a ys):xs=ys:=by
 unfold Sq at h h'
 split at h
 ·rename_i ht; simp only [ht,if_true] at h'; exact I.tuple_inj h h'
 ·rename_i ht; simp only [ht,if_false] at h'; exact I.list_inj h h'
end
def ItZ (K:Frag) (us:List (Bool×Addr)):It:=
  ⟨fun i H=>∀ u∈us,∃ xs x,Sq K H u.1 u.2 xs/\xs[i]?=some x,
   fun i H x H'=>∃ p ys,x=.ref p/\H p=none/\H'=upd H p (.tup ys)/\Paired (fun (u:Bool×Addr) (y:V)=>∀ xs,Sq K H u.1 u.2 xs->xs[i]?=some y) us ys,
   fun i H=>(∀ u∈us,∃ xs,Sq K H u.1 u.2 xs)/\∃ u∈us,∃ xs,Sq K H u.1 u.2 xs/\xs.length<=i⟩
structure ZSt (z TI TO:Addr) (subs:List Sub):Prop where
 zTO:z≠TO
 TIz:TI≠z
 TITO:TI≠TO
 zi:∀ u∈subs,u.i≠z
 ti:∀ u∈subs,u.i≠TO
 Ii:∀ u∈subs,u.i≠TI
 nd:subs.Pairwise fun u v=>u.i≠v.i
abbrev zTn (z TI TO:Addr) (subs:List Sub) (i:Nat) (h:Heap):Prop:=
 IsZip h z TI TO .none/\C4 h TI (subs.map fun u=>Value.ref u.i).toArray/\(∃ arr,C4 h TO arr/\arr.size=subs.length)/\∀ u∈subs,u.At h i
theorem K7 {α β γ:Type} {F:α->γ->Prop} {f:β->α} {g:β->γ}:∀ {l:List β},(∀ b∈l,F (f b) (g b))->Paired F (l.map f) (l.map g)
 | [],_=>.nil
 | _::_,h=>.cons (h _ List.mem_cons_self) (K7 fun b hb=>h b (List.mem_cons_of_mem _ hb))
theorem qe {P:Program} {w:World} {K:Frag} {elts:List Expr} {k:Nat} {tp:Pos} {z TI TO:Addr} {subs:List Sub} (D:ZSt z TI TO subs) (ES:subs ≠ []) (GW:subs.length<=sizeLine) :
  Turn P w K (.Tuple elts k tp) (ItZ K (subs.map fun u=>(u.t,u.l))) (z::TI::TO::subs.map (·.i)) z (zTn z TI TO subs) where
 mem:=by simp
 obj:=fun i h st b hb=>by
  obtain ⟨hz,FO,⟨arr,FS,_⟩,hs⟩:=st
  simp only [List.mem_cons,List.mem_map] at hb
  rcases hb with rfl | rfl | rfl | ⟨u,hu,rfl⟩
  ·exact ⟨_,hz,fun v q=>by cases q⟩
  ·exact ⟨_,FO,fun v q=>by cases q⟩
  ·exact ⟨_,FS,fun v q=>by cases q⟩
  ·obtain ⟨o,e,d⟩:=(hs u hu).obj
   exact ⟨o,e,fun v q=>by rw [d] at q; cases q⟩
 keep:=fun i h h' st kp=>by
  obtain ⟨hz,FO,⟨arr,FS,ha⟩,hs⟩:=st
  exact ⟨kp z (by simp) _ hz,kp TI (by simp) _ FO,⟨arr,kp TO (by simp) _ FS,ha⟩,fun u hu=>(hs u hu).keep fun o e=>kp u.i (by simp only [List.mem_cons,List.mem_map]; exact .inr (.inr (.inr ⟨u,hu,rfl⟩))) o e⟩
 item:=by
  intro X hP hw hK hc i pins s σ H E I hf st hg
  subst hP hw hK
  obtain ⟨hz,FO,⟨arr,FS,ha⟩,hs⟩:=st
  have fz:=hf z (by simp)
  have fT:=hf TO (by simp)
  have fi:∀ u∈subs,D9 X pins H u.i:=fun u hu=>hf u.i (by simp only [List.mem_cons,List.mem_map]; exact .inr (.inr (.inr ⟨u,hu,rfl⟩)))
  obtain ⟨ss,FZ,Ft⟩:=W8 (R:=fun (u:Sub) (q:List Value×List V×V)=>Sq X.K H u.t u.l q.2.1/\Vals q.2.1 q.1/\u.Src s.heap q.1.toArray/\q.2.1[i]?=some q.2.2) (l:=subs) (fun u hu=>by
   obtain ⟨xs,x,h1,h2⟩:=hg (u.t,u.l) (List.mem_map.mpr ⟨u,hu,rfl⟩)
   obtain ⟨its,r,EZ⟩:=Sq.src I h1
   exact ⟨(its,xs,x),h1,r,EZ,h2⟩)
  have Gc:∀ v∈ss,v.1∈subs:=fun v hv=>by rw [<- FZ]; exact List.mem_map.mpr ⟨v,hv,rfl⟩
  have Jm:ss.Pairwise fun u v=>u.1.i≠v.1.i:=by
   have:=D.nd
   rw [<- FZ,List.pairwise_map] at this
   exact this
  have DA:Apart z TO (ss.map fun v=>(v.1,v.2.1.toArray)):=by
   refine ⟨D.zTO,?_,?_,?_,?_,?_,?_⟩
   ·rintro _ hu; obtain ⟨v,hv,rfl⟩:=List.mem_map.mp hu; exact D.zi _ (Gc v hv)
   ·rintro _ hu; obtain ⟨v,hv,rfl⟩:=List.mem_map.mp hu; exact D.ti _ (Gc v hv)
   ·rw [List.pairwise_map]; exact Jm
   ·rintro _ hu; obtain ⟨v,hv,rfl⟩:=List.mem_map.mp hu; exact Sq.ne I (Ft v hv).1 fz
   ·rintro _ hu; obtain ⟨v,hv,rfl⟩:=List.mem_map.mp hu; exact Sq.ne I (Ft v hv).1 fT
   ·rintro _ hu _ Jt; obtain ⟨v,hv,rfl⟩:=List.mem_map.mp hu; obtain ⟨v2,IM,rfl⟩:=List.mem_map.mp Jt; exact Sq.ne I (Ft v hv).1 (fi _ (Gc v2 IM))
  have el:(ss.map fun v=>(v.1,v.2.1.toArray)).length=subs.length:=by rw [List.length_map,<- FZ,List.length_map]
  have eI:((ss.map fun v=>(v.1,v.2.1.toArray)).map fun u=>Value.ref u.1.i)=subs.map fun u=>Value.ref u.i:=by rw [<- FZ,List.map_map,List.map_map]; rfl
  have ys:∀ v∈ss,∃ u,v.2.1.toArray[i]?=some u/\RelV v.2.2.2 u:=fun v hv=>by
   obtain ⟨u,e,r⟩:=(Ft v hv).2.1.get (Ft v hv).2.2.2
   exact ⟨u,by simpa using e,r⟩
  refine pW (n:=i) DA (by intro q; apply ES; have:=congrArg List.length q; rw [el] at this; exact List.length_eq_zero_iff.mp this) (by rw [ha,el]) (by rw [el]; exact GW) hz (by rw [eI]; exact FO) FS (fun u hu=>?_) fun h1 z1 T1 a1 p1 k1=>?_
  ·obtain ⟨v,hv,rfl⟩:=List.mem_map.mp hu
   obtain ⟨u,e,_⟩:=ys v hv
   exact ⟨hs _ (Gc v hv),(Ft v hv).2.2.1,u,e⟩
  refine ⟨_,rfl,wpAny_letOwnedTupleGo_zip z1 fun h2 z2 sb2=>?_⟩
  have Ib:z<s.heap.objs.size:=Heap.lt_size hz
  have kp:∀ b o,b≠z->b≠TO->(∀ u∈subs,b≠u.i)->s.heap.get? b=some o->h2.get? b=some o:=fun b o b1 b2 b3 e=>sb2.extBut _ _ b1 (k1 b o b1 b2 (fun u hu=>by obtain ⟨v,hv,rfl⟩:=List.mem_map.mp hu; exact b3 _ (Gc v hv)) e)
  have FX:H s.heap.objs.size=none:=I.hok.fresh (Nat.le_refl _)
  have trk:∀ b u,H b=some u->b≠z/\b≠TO/\∀ v∈subs,b≠v.i:=fun b u e=>⟨fun q=>(by subst q; rw [fz.1] at e; cases e),fun q=>(by subst q; rw [fT.1] at e; cases e),fun v hv q=>(by subst q; rw [(fi v hv).1] at e; cases e)⟩
  have JK:C4 h2 s.heap.objs.size (ss.map fun v=>v.2.1.toArray.getD i .none).toArray:=by
   have:=sb2.extBut _ _ (Nat.ne_of_gt Ib) p1
   rw [List.map_map] at this
   exact this
  have rel:Vals (ss.map fun v=>v.2.2.2) (ss.map fun v=>v.2.1.toArray.getD i .none):=K7 fun v hv=>by
   obtain ⟨u,e,r⟩:=ys v hv
   rw [show v.2.1.toArray.getD i Value.none=u by simp only [Array.getD_eq_getD_getElem?,e,Option.getD_some]]
   exact r
  have len:(ss.map fun v=>v.2.2.2).length<=sizeLine:=by rw [List.length_map,show ss.length=subs.length by rw [<- FZ,List.length_map]]; exact GW
  refine ⟨.ref s.heap.objs.size,upd H s.heap.objs.size (.tup (ss.map fun v=>v.2.2.2)),?_,rfl,⟨_,_,rfl,FX,rfl,?_⟩,⟨z2,?_,?_,fun u hu=>?_⟩,fun b hb=>?_⟩
  ·show Inv X pins σ _ { s with heap:=h2 }
   refine I.step (g':=s.gens) (t':=s.toks) (d':=s.drawn) (ch:=z::TO::subs.map (·.i)) (fun b hb=>?_) (fun b o _ _ hc e _=>kp b o ?_ ?_ ?_ e) (fun b o _ _ hc e _=>⟨o.slots,kp b o ?_ ?_ ?_ e⟩) (fun b o hc e n=>?_) (fun b o hc e=>⟨o,kp b o ?_ ?_ ?_ e⟩) (fun b xs e=>?_) (fun b o u e=>?_) (fun b ps e=>?_) (fun m hm=>?_) ?_ I.bare
   ·simp only [List.mem_cons,List.mem_map] at hb
    rcases hb with rfl | rfl | ⟨u,hu,rfl⟩
    ·exact ⟨fz.2.2.2.1,fz.2.1,fz.2.2.2.2.1,fz.2.2.2.2.2⟩
    ·exact ⟨fT.2.2.2.1,fT.2.1,fT.2.2.2.2.1,fT.2.2.2.2.2⟩
    ·have f:=fi u hu; exact ⟨f.2.2.2.1,f.2.1,f.2.2.2.2.1,f.2.2.2.2.2⟩
   all_goals first
    | (intro q; exact hc (by simp [q]; done))
    | (intro u hu q; exact hc (by rw [q]; exact List.mem_cons_of_mem _ (List.mem_cons_of_mem _ (List.mem_map.mpr ⟨u,hu,rfl⟩))))
    | skip
   ·rw [b8 (Nat.ne_of_lt (Heap.lt_size e))]; exact n
   ·rw [b8 (c7 e FX)]; exact e
   ·rw [b8 (c7 e FX)]; exact e
   ·exact ⟨#[],by rw [b8 (c7 e FX),e]; simp⟩
   ·obtain ⟨o,es,ep,ho,r⟩:=hm
    exact ⟨o,es,ep,kp _ o (Ne.symm fz.2.1) (Ne.symm fT.2.1) (fun u hu=>Ne.symm (fi u hu).2.1) ho,r⟩
   ·intro b u e
    by_cases hb:b=s.heap.objs.size
    ·subst hb
     rw [j6] at e; cases e
     exact ⟨len,_,rel,⟨_,JK,rfl,_,rfl⟩⟩
    ·rw [b8 hb] at e
     refine (I.hok b u e).stay (fun c v FB q=>?_) (fun c q=>by rw [b8 (c7 q FX)]; exact q) fun c xs q=>by rw [b8 (c7 q FX)]; exact q
     rcases FB with rfl | FB
     ·exact kp _ v (trk _ _ e).1 (trk _ _ e).2.1 (trk _ _ e).2.2 q
     ·exact kp _ v (trk _ _ FB).1 (trk _ _ FB).2.1 (trk _ _ FB).2.2 q
  ·rw [<- FZ,List.map_map]
   exact K7 fun v hv xs hx=>by rw [Sq.inj I hx (Ft v hv).1]; exact (Ft v hv).2.2.2
  ·exact kp TI _ D.TIz D.TITO (fun u hu=>Ne.symm (D.Ii u hu)) FO
  ·obtain ⟨EV,hT',ha'⟩:=T1
   exact ⟨EV,sb2.extBut _ _ D.zTO.symm hT',by rw [ha',el]⟩
  ·have hv:∃ v∈ss,v.1=u:=by rw [<- FZ] at hu; exact List.mem_map.mp hu
   obtain ⟨v,hv,rfl⟩:=hv
   exact (a1 (v.1,v.2.1.toArray) (List.mem_map.mpr ⟨v,hv,rfl⟩)).keep fun o e=>sb2.extBut _ _ (D.zi _ (Gc v hv)) e
  ·have:b≠s.heap.objs.size:=by
    simp only [List.mem_cons,List.mem_map] at hb
    rcases hb with rfl | rfl | rfl | ⟨u,hu,rfl⟩
    ·exact Nat.ne_of_lt Ib
    ·exact Nat.ne_of_lt (Heap.lt_size FO)
    ·exact Nat.ne_of_lt (Heap.lt_size FS)
    ·obtain ⟨o,e,_⟩:=(hs u hu).obj; exact Nat.ne_of_lt (Heap.lt_size e)
   rw [b8 this]
   exact (hf b hb).1
 done:=by
  intro X hP hw hK hc i pins s σ H E I hf st hg
  subst hP hw hK
  obtain ⟨hz,FO,⟨arr,FS,ha⟩,hs⟩:=st
  obtain ⟨EN,u0,Ig,xs0,IU,Go⟩:=hg
  have fz:=hf z (by simp)
  have fT:=hf TO (by simp)
  have fi:∀ u∈subs,D9 X pins H u.i:=fun u hu=>hf u.i (by simp only [List.mem_cons,List.mem_map]; exact .inr (.inr (.inr ⟨u,hu,rfl⟩)))
  obtain ⟨ss,FZ,Ft⟩:=W8 (R:=fun (u:Sub) (q:List Value×List V)=>Sq X.K H u.t u.l q.2/\Vals q.2 q.1/\u.Src s.heap q.1.toArray) (l:=subs) (fun u hu=>by
   obtain ⟨xs,h1⟩:=EN (u.t,u.l) (List.mem_map.mpr ⟨u,hu,rfl⟩)
   obtain ⟨its,r,EZ⟩:=Sq.src I h1
   exact ⟨(its,xs),h1,r,EZ⟩)
  have Gc:∀ v∈ss,v.1∈subs:=fun v hv=>by rw [<- FZ]; exact List.mem_map.mpr ⟨v,hv,rfl⟩
  have Jm:ss.Pairwise fun u v=>u.1.i≠v.1.i:=by
   have:=D.nd
   rw [<- FZ,List.pairwise_map] at this
   exact this
  have DA:Apart z TO (ss.map fun v=>(v.1,v.2.1.toArray)):=by
   refine ⟨D.zTO,?_,?_,?_,?_,?_,?_⟩
   ·rintro _ hu; obtain ⟨v,hv,rfl⟩:=List.mem_map.mp hu; exact D.zi _ (Gc v hv)
   ·rintro _ hu; obtain ⟨v,hv,rfl⟩:=List.mem_map.mp hu; exact D.ti _ (Gc v hv)
   ·rw [List.pairwise_map]; exact Jm
   ·rintro _ hu; obtain ⟨v,hv,rfl⟩:=List.mem_map.mp hu; exact Sq.ne I (Ft v hv).1 fz
   ·rintro _ hu; obtain ⟨v,hv,rfl⟩:=List.mem_map.mp hu; exact Sq.ne I (Ft v hv).1 fT
   ·rintro _ hu _ Jt; obtain ⟨v,hv,rfl⟩:=List.mem_map.mp hu; obtain ⟨v2,IM,rfl⟩:=List.mem_map.mp Jt; exact Sq.ne I (Ft v hv).1 (fi _ (Gc v2 IM))
  have el:(ss.map fun v=>(v.1,v.2.1.toArray)).length=subs.length:=by rw [List.length_map,<- FZ,List.length_map]
  have eI:((ss.map fun v=>(v.1,v.2.1.toArray)).map fun u=>Value.ref u.1.i)=subs.map fun u=>Value.ref u.i:=by rw [<- FZ,List.map_map,List.map_map]; rfl
  refine pV (n:=i) (I.ok.hd hc) DA (by rw [ha,el]) (by rw [el]; exact GW) hz (by rw [eI]; exact FO) FS (fun u hu=>?_) ?_ fun h1 k1=>⟨rfl,?_⟩
  ·obtain ⟨v,hv,rfl⟩:=List.mem_map.mp hu
   exact ⟨hs _ (Gc v hv),(Ft v hv).2.2⟩
  ·obtain ⟨u,hu,e0⟩:=List.mem_map.mp Ig
   have hv:∃ v∈ss,v.1=u:=by rw [<- FZ] at hu; exact List.mem_map.mp hu
   obtain ⟨v,hv,rfl⟩:=hv
   subst e0
   refine ⟨(v.1,v.2.1.toArray),List.mem_map.mpr ⟨v,hv,rfl⟩,?_⟩
   have e1:=Sq.inj I (Ft v hv).1 IU
   have e2:=(Ft v hv).2.1.length
   rw [e1] at e2
   simp only [List.getElem?_toArray]
   exact List.getElem?_eq_none (by omega)
  ·have kp:∀ b o,b≠z->b≠TO->(∀ u∈subs,b≠u.i)->s.heap.get? b=some o->h1.get? b=some o:=fun b o b1 b2 b3 e=>k1 b o b1 b2 (fun u hu=>by obtain ⟨v,hv,rfl⟩:=List.mem_map.mp hu; exact b3 _ (Gc v hv)) e
   have trk:∀ b u,H b=some u->b≠z/\b≠TO/\∀ v∈subs,b≠v.i:=fun b u e=>⟨fun q=>(by subst q; rw [fz.1] at e; cases e),fun q=>(by subst q; rw [fT.1] at e; cases e),fun v hv q=>(by subst q; rw [(fi v hv).1] at e; cases e)⟩
   refine I.step (g':=s.gens) (t':=s.toks) (d':=s.drawn) (ch:=z::TO::subs.map (·.i)) (fun b hb=>?_) (fun b o _ _ hc e _=>kp b o ?_ ?_ ?_ e) (fun b o _ _ hc e _=>⟨o.slots,kp b o ?_ ?_ ?_ e⟩) (fun b o hc e n=>n) (fun b o hc e=>⟨o,kp b o ?_ ?_ ?_ e⟩) (fun b xs e=>e) (fun b o u e=>e) (fun b ps e=>⟨#[],by rw [e]; simp⟩) (fun m hm=>?_) (fun b u e=>?_) I.bare
   ·simp only [List.mem_cons,List.mem_map] at hb
    rcases hb with rfl | rfl | ⟨u,hu,rfl⟩
    ·exact ⟨fz.2.2.2.1,fz.2.1,fz.2.2.2.2.1,fz.2.2.2.2.2⟩
    ·exact ⟨fT.2.2.2.1,fT.2.1,fT.2.2.2.2.1,fT.2.2.2.2.2⟩
    ·have f:=fi u hu; exact ⟨f.2.2.2.1,f.2.1,f.2.2.2.2.1,f.2.2.2.2.2⟩
   all_goals first
    | (intro q; exact hc (by simp [q]; done))
    | (intro u hu q; exact hc (by rw [q]; exact List.mem_cons_of_mem _ (List.mem_cons_of_mem _ (List.mem_map.mpr ⟨u,hu,rfl⟩))))
    | skip
   ·obtain ⟨o,es,ep,ho,r⟩:=hm
    exact ⟨o,es,ep,kp _ o (Ne.symm fz.2.1) (Ne.symm fT.2.1) (fun u hu=>Ne.symm (fi u hu).2.1) ho,r⟩
   ·refine (I.hok b u e).stay (fun c v FB q=>?_) (fun c q=>q) fun c xs q=>q
    rcases FB with rfl | FB
    ·exact kp _ v (trk _ _ e).1 (trk _ _ e).2.1 (trk _ _ e).2.2 q
    ·exact kp _ v (trk _ _ FB).1 (trk _ _ FB).2.1 (trk _ _ FB).2.2 q
 self:=fun _ _ _ _ _ st h=>wpAny_pyIter_zip st.1 h
def AC (K:Frag) (ta:TA):TI:=fun σ H R=>ta σ H fun vs H1=>∃ us:List (Bool×Addr),vs=us.map (fun u=>V.ref u.2)/\(us.length=2\/us.length=3)/\(∀ u∈us,∃ xs,Sq K H1 u.1 u.2 xs)/\R (ItZ K us) H1
theorem neN {a b:Nat} (h:a≠b):(a:Addr)≠b:=h
theorem mX:∀ {us:List (Bool×Addr)} {vs:List Value},Vals (us.map fun u=>V.ref u.2) vs->vs=us.map fun u=>Value.ref u.2:=by
 intro us
 induction us with
 | nil=>intro vs h; cases h; rfl
 | cons u us ih=>
  intro vs h
  cases h with
  | cons r t=>
   have r':_=Value.ref _:=r
   rw [r',ih t]; rfl
theorem aD:∀ (us:List (Bool×Addr×Array Value)) (n:Nat),∀ v∈g5 n us,n<=v.1.i/\n+us.length>v.1.i:=by
 intro us
 induction us with
 | nil=>exact fun _ _ h=>absurd h List.not_mem_nil
 | cons u r ih=>
  intro n v h
  rcases List.mem_cons.mp h with rfl | h
  ·exact ⟨Nat.le_refl _,by show n+(r.length+1)>n; omega⟩
  ·have:=ih (n+1) v h
   rw [List.length_cons]; omega
theorem jI:∀ (us:List (Bool×Addr×Array Value)) (n:Nat),(g5 n us).Pairwise fun u v=>u.1.i≠v.1.i
 | [],_=>.nil
 | u::r,n=>by
  refine List.pairwise_cons.mpr ⟨fun v hv=>?_,jI r (n+1)⟩
  have:=aD r (n+1) v hv
  show (n:Nat)≠v.1.i
  omega
theorem gM:∀ (us:List (Bool×Addr×Array Value)) (n:Nat),(g5 n us).map (fun u=>(u.1.t,u.1.l))=us.map fun u=>(u.1,u.2.1)
 | [],_=>rfl
 | u::r,n=>by unfold g5; rw [List.map_cons,gM r,List.map_cons]
section
variable {X:Cx}
theorem zg {a:Expr} {es elts:List Expr} {ta:TA} {p pos tp:Pos} {k:Nat} (hg:Gl X "zip") (hm:X.mg "zip" = none) (ha:PA X (a::es) ta) (hs:starEach (a::es) X.env=(false,eval a X.env)::starEach es X.env:=by rfl)
  (Fn:(backTo pos (starEach es X.env)).any (·.1)=false:=by rfl):PI X (.Tuple elts k tp) (.Call (.Name "zip" p) (a::es) [] pos) (AC X.K ta):=by
 intro pins s σ H R I h
 refine Call_ (P6 I hg hm boot_zip (PyProof.Rows.callWith_type1 (thn (ha pos pins s σ H _ I h) fun vs s1 zz55=>?_) hs Fn))
 obtain ⟨xs,H1,I1,r1,us,e1,hl,hsq,q⟩:=zz55
 subst e1
 have e2:=mX r1
 subst e2
 obtain ⟨ws,ew,hws⟩:=W8 (R:=fun (u:Bool×Addr) (its:Array Value)=>SrcAt s1.heap (u.1,u.2,its)) (l:=us) (fun u hu=>by
  obtain ⟨ys,hy⟩:=hsq u hu
  obtain ⟨its,_,EZ⟩:=Sq.src I1 hy
  exact ⟨its.toArray,by unfold SrcAt; unfold Sub.Src at EZ; exact EZ⟩)
 have ev:us.map (fun u=>Value.ref u.2)=(ws.map fun w=>(w.1.1,w.1.2,w.2)).map fun u=>Value.ref u.2.1:=by rw [<- ew,List.map_map,List.map_map]; rfl
 have el:(ws.map fun w=>(w.1.1,w.1.2,w.2)).length=us.length:=by rw [<- ew,List.length_map,List.length_map]
 rw [ev]
 generalize hW:(ws.map fun w=>(w.1.1,w.1.2,w.2))=W at el ev
 have FL:∀ u∈W,SrcAt s1.heap u:=fun u hu=>by
  rw [<- hW] at hu
  obtain ⟨w,hw,rfl⟩:=List.mem_map.mp hu
  exact hws w hw
 refine sI W (by rw [el]; exact hl) FL fun h' hA FO FS hz hk=>wpAny_pyIter_zip hz ?_
 have I2:Inv X pins σ H1 { s1 with heap:=h' }:=I1.kept (t':=s1.toks) hk
 have eS:((g5 s1.heap.objs.size W).map (·.1)).map (fun u=>(u.t,u.l))=us:=by
  rw [List.map_map]
  show (g5 s1.heap.objs.size W).map (fun u=>(u.1.t,u.1.l))=us
  rw [gM,<- hW,List.map_map,<- ew]
  rfl
 have D:ZSt (s1.heap.objs.size+W.length+2) (s1.heap.objs.size+W.length) (s1.heap.objs.size+W.length+1) ((g5 s1.heap.objs.size W).map (·.1)):=by
  refine ⟨neN (by omega),neN (by omega),neN (by omega),?_,?_,?_,?_⟩
  ·rintro _ hu; obtain ⟨v,hv,rfl⟩:=List.mem_map.mp hu; have:=aD W _ v hv; exact neN (by omega)
  ·rintro _ hu; obtain ⟨v,hv,rfl⟩:=List.mem_map.mp hu; have:=aD W _ v hv; exact neN (by omega)
  ·rintro _ hu; obtain ⟨v,hv,rfl⟩:=List.mem_map.mp hu; have:=aD W _ v hv; exact neN (by omega)
  ·rw [List.pairwise_map]; exact jI W _
 have ls:((g5 s1.heap.objs.size W).map (·.1)).length=W.length:=by rw [List.length_map,N6]
 have TZ:=qe (P:=X.prog) (w:=X.w) (K:=X.K) (elts:=elts) (k:=k) (tp:=tp) D (by intro q; have:=congrArg List.length q; rw [ls,el] at this; have h0:us.length=0:=this; omega) (by rw [ls,el]; exact Nat.le_trans (show us.length<=3 by omega) (by decide))
 rw [eS] at TZ
 refine ⟨_,_,_,_,H1,rfl,I2,TZ,⟨hz,?_,?_,fun u hu=>?_⟩,fun b hb=>?_,q⟩
 ·rw [List.map_map]; exact FO
 ·obtain ⟨arr,h1,h2⟩:=FS
  exact ⟨arr,h1,by rw [ls]; exact h2⟩
 ·obtain ⟨v,hv,rfl⟩:=List.mem_map.mp hu
  exact hA v hv
 ·have Gr:s1.heap.objs.size<=b:=by
   simp only [List.mem_cons,List.mem_map] at hb
   rcases hb with rfl | rfl | rfl | ⟨_,⟨v,hv,rfl⟩,rfl⟩
   ·omega
   ·omega
   ·omega
   ·exact (aD W _ v hv).1
  have f:=I1.fpOk (H':=H1) Gr (I1.hok.fresh Gr)
  exact f
end
end L2
namespace L2
open PySem PySem.Spec PyProof.Rows
theorem F2 (cs:Scope) (env:Env) (x:Str):(relabel cs env).names.lookup x=(cs.names.lookup x).map fun k=>if (k == .free&&env.scope.kind == .function&&env.kindOf x == some .cell)=true then .cell else k:=by
 unfold relabel
 show List.lookup x (cs.names.map _)=_
 induction cs.names with
 | nil=>rfl
 | cons p r ih=>
  obtain ⟨n,k⟩:=p
  by_cases hx:x=n
  ·subst hx
   rw [List.map_cons]
   simp only [List.lookup_cons]
   split <;> simp_all
  ·have hb:(x == n)=false:=by simpa using hx
   have er:List.lookup x ((n,k)::r)=List.lookup x r:=by rw [List.lookup_cons,hb]
   rw [List.map_cons,er]
   refine Eq.trans ?_ ih
   dsimp only
   by_cases hc:(k == NameKind.free&&env.scope.kind == ScopeKind.function&&env.kindOf n == some NameKind.cell)=true
   ·rw [if_pos hc,List.lookup_cons,hb]
   ·rw [if_neg hc,List.lookup_cons,hb]
theorem dL {env : Env} : ∀ (names : List (Str × NameKind)) (He : List (Str × Addr)), (∀ x ∈ names, x.2 = .free -> ∃ c, env.cells.lookup x.1 = some c) -> (∀ x c, He.lookup x = some c -> env.cells.lookup x = some c) ->
    ∃ cl, (forIn (m := Sem) names He fun x __s => if (x.snd == NameKind.free) = true then do
              let __do_lift <- cellOf env x.fst
              pure (ForInStep.yield ((x.fst, __do_lift) :: __s))
            else pure (ForInStep.yield __s)) = pure cl /\ (∀ x c, cl.lookup x = some c -> env.cells.lookup x = some c) /\ (∀ x, (x, NameKind.free) ∈ names -> ∃ c, cl.lookup x = some c) /\ ∀ x c, He.lookup x = some c -> ∃ c', cl.lookup x = some c' := by
  intro names
  induction names with
  | nil =>
    intro He _ h0
    exact ⟨He, by simp only [List.forIn_nil], h0, fun _ h => absurd h List.not_mem_nil, fun _ c h => ⟨c, h⟩⟩
  | cons p r ih =>
    intro He hf h0
    obtain ⟨n, k⟩ := p
    by_cases hk : k = .free
    · subst hk
      obtain ⟨c, hc⟩ := hf (n, .free) List.mem_cons_self rfl
      obtain ⟨cl, e, h1, h2, h3⟩ := ih ((n, c) :: He) (fun x hx => hf x (List.mem_cons_of_mem _ hx)) (fun x c' hx => by
        rw [List.lookup_cons] at hx
        split at hx
        · rename_i hb
          have GF : x = n := by simpa using hb
          cases hx; rw [GF]; exact hc
        · exact h0 x c' hx)
      have hn : ∃ c', cl.lookup n = some c' := h3 n c (by simp)
      refine ⟨cl, ?_, h1, fun x hx => ?_, fun x c' hx => ?_⟩
      · rw [List.forIn_cons]
        simp only [beq_self_eq_true, if_true, cellOf, hc]
        exact e
      · rcases List.mem_cons.mp hx with q | hx
        · cases q; exact hn
        · exact h2 x hx
      · by_cases GF : x = n
        · subst GF; exact hn
        · exact h3 x c' (by
            have hb : (x == n) = false := by simpa using GF
            rw [List.lookup_cons, hb]; exact hx)
    · have hb : (k == NameKind.free) = false := by simpa using hk
      obtain ⟨cl, e, h1, h2, h3⟩ := ih He (fun x hx => hf x (List.mem_cons_of_mem _ hx)) h0
      refine ⟨cl, ?_, h1, fun x hx => ?_, h3⟩
      · rw [List.forIn_cons]
        simp only [hb, Bool.false_eq_true, if_false]
        exact e
      · rcases List.mem_cons.mp hx with q | hx
        · cases q; exact absurd rfl hk
        · exact h2 x hx
structure i8 (sc cs:Scope) (N N':List Str):Prop where
 kind:cs.kind=.function
 ncell:∀ x∈cs.names,x.2≠.cell
 loc:∀ x∈cs.names,x.2=.local->cs.names.lookup x.1=some .local
 free:∀ x∈cs.names,x.2=.free->sc.names.lookup x.1=some .cell\/sc.names.lookup x.1=some .free
 nd:N'.Nodup
 len:N.length<=N'.length
 same:∀ i∈List.range N.length,N'[i]?=N[i]?\/∀ x∈N'[i]?,cs.names.lookup x=none
 out:∀ x∈N'.take N.length,cs.names.lookup x≠some .local
abbrev j5 (X:Cx) (cs:Scope) (cl:List (Str×Addr)) (N':List Str) (ex:List Addr) (s:Shared) (H:Hp):Cx:=
 { X with N:=N',s₀:=s,H₀:=H,env:=compEnvC cs cl s.heap.objs.size X.env,outer:=X.stack,stack:=X.stack,ex:=ex,fn:=fun _=>false,pn:=[],xe:=fun _ _=>False }
def inner (N':List Str) (σ:St):St:=σ++List.replicate (N'.length-σ.length) none
theorem fP {N':List Str} {σ:St} {i:Nat} {v:V} (h:(inner N' σ)[i]?=some (some v)):σ[i]?=some (some v):=by
 unfold inner at h
 by_cases hi:i<σ.length
 ·rwa [List.getElem?_append_left hi] at h
 ·rw [List.getElem?_append_right (by omega),List.getElem?_replicate] at h
  split at h <;> cases h
theorem sE {X:Cx} {pins:List (Addr×Obj)} {σ:St} {H:Hp} {s3 s4:Shared} {cs:Scope} {cl:List (Str×Addr)} {N':List Str} {fp:List Addr} {m:Str->Option Value} (S:i8 X.env.scope cs X.N N') (I:Inv X pins σ H s3)
  (Fk:∀ x c,cl.lookup x=some c->X.env.cells.lookup x=some c) (GJ:∀ x,(x,NameKind.free)∈cs.names->∃ c,cl.lookup x=some c) (hf:∀ b∈fp,D9 X pins H b) (Fe:∀ b∈fp,b<s3.heap.objs.size)
  (kp:∀ b o,s3.heap.get? b=some o->s4.heap.get? b=some o) (hn:s4.heap.Ns s3.heap.objs.size m) (hos:s4.os=s3.os) (hg:s4.gens=s3.gens):Inv (j5 X cs cl N' fp s3 H) [] (inner N' σ) H s4:=by
 have GP:∀ {c:Addr} {v:Option Value},s3.heap.IsCell c v->s4.heap.IsCell c v:=fun {c v} z=>by obtain ⟨o,e,d⟩:=z; exact ⟨o,kp c o e,d⟩
 refine ⟨⟨I.ok.mod,S.kind,I.ok.glob,I.ok.blt,Nat.le_refl _,fun x y c h1 h2=>I.ok.inj x y c (Fk x c h1) (Fk y c h2),fun x hx=>?_,fun x c h _=>absurd (show false=true from h) (by decide),I.ok.hd,I.ok.frames,.inl rfl,fun b hb=>⟨?_,fun x c e=>(hf b hb).2.2.2.2.1 x c (Fk x c e)⟩,I.bs,Nat.le_trans I.ok.bsz I.sz,fun b o e hb=>?_,fun b hb JF=>?_,I.stack,I.stkFree⟩,
  hos,by rw [hg]; exact I.bare,Un.kept kp,⟨m,hn,fun i x v e1 e2 e3=>?_⟩,fun x c e=>?_,I.hok.fresh (Nat.le_refl _),fun x c e=>I.freeC x c (Fk x c e),fun p hp=>absurd (show p∈([]:List (Addr×Obj)) from hp) (by simp),I.hok.kept kp,?_⟩
 ·have HG:(relabel cs X.env).names.lookup x=some .cell\/(relabel cs X.env).names.lookup x=some .free:=hx
  rw [F2] at HG
  cases hl:cs.names.lookup x with
  | none=>rw [hl] at HG; rcases HG with h | h <;> cases h
  | some k=>
   have hm:=PySem.mem_of_lookup hl
   by_cases hk:k=.free
   ·subst hk; exact GJ x hm
   ·exfalso
    have hb:(k == NameKind.free)=false:=by simpa using hk
    rw [hl] at HG
    simp only [Option.map_some,hb,Bool.false_and,Bool.false_eq_true,if_false] at HG
    rcases HG with h | h
    ·cases h; exact S.ncell _ hm rfl
    ·cases h; exact hk rfl
 ·intro q
  have Gr:b=s3.heap.objs.size:=q
  exact absurd (Fe b hb) (by rw [Gr]; exact Nat.lt_irrefl _)
 ·obtain ⟨f0,f1,f2,f3,f4,f5⟩:=hf b hb
  rcases f3 with z | z
  ·exact I.ok.noex b o e z
  ·exact absurd (Nat.lt_of_lt_of_le (Heap.lt_size (I.ok.bs b o e).1) z) (Nat.lt_irrefl _)
 ·have Hy:b∈frs X.stack:=JF
  rcases List.mem_cons.mp (I.stkSub b Hy) with z | z
  ·exact (hf b hb).2.1 z
  ·exact (hf b hb).2.2.1 z
 ·have HS:=fP e2
  have hi:i<X.N.length:=by rw [<- I.len]; exact (List.getElem?_eq_some_iff.mp HS).1
  have JS:N'[i]?=some x:=e1
  have Hc:Vis (relabel cs X.env) x:=e3
  have hv:∃ k,cs.names.lookup x=some k:=by
   unfold Vis at Hc
   rw [F2] at Hc
   cases hl:cs.names.lookup x with
   | none=>rw [hl] at Hc; rcases Hc with h | h | h <;> cases h
   | some k=>exact ⟨k,rfl⟩
  obtain ⟨k,hk⟩:=hv
  have hN:X.N[i]?=some x:=by
   rcases S.same i (List.mem_range.mpr hi) with q | q
   ·rw [<- q]; exact JS
   ·have:=q x (by rw [JS]; rfl)
    rw [hk] at this; cases this
  have HL:k≠.local:=fun q=>by
   subst q
   exact S.out x (List.mem_of_getElem? (i:=i) (by rw [List.getElem?_take_of_lt hi]; exact JS)) hk
  have hm:=PySem.mem_of_lookup hk
  have FQ:k=.free:=by
   unfold Vis at Hc
   rw [F2,hk] at Hc
   by_cases hkf:k=.free
   ·exact hkf
   ·exfalso
    have hb:(k == NameKind.free)=false:=by simpa using hkf
    simp only [Option.map_some,hb,Bool.false_and,Bool.false_eq_true,if_false] at Hc
    rcases Hc with h | h | h
    ·exact HL (Option.some.inj h)
    ·exact S.ncell _ hm (Option.some.inj h)
    ·exact hkf (Option.some.inj h)
  subst FQ
  obtain ⟨m0,hn0,Go⟩:=I.loc
  have hvis:Vis X.env.scope x:=by
   rcases S.free _ hm rfl with h | h
   ·exact .inr (.inl h)
   ·exact .inr (.inr h)
  obtain ⟨u,r,l⟩:=Go i x v hN HS hvis
  refine ⟨u,r,.inr ⟨?_,?_⟩⟩
  ·show (relabel cs X.env).names.lookup x=some .cell\/(relabel cs X.env).names.lookup x=some .free
   rw [F2,hk]
   show some (if _ then _ else _)=_\/some (if _ then _ else _)=_
   split
   ·exact .inl rfl
   ·exact .inr rfl
  ·obtain ⟨c,hc⟩:=GJ x hm
   have FY:=Fk x c hc
   rcases l with ⟨q,_⟩ | ⟨_,c',e,z⟩
   ·exfalso
    have q':X.env.scope.names.lookup x=some .local:=q
    rcases S.free _ hm rfl with h | h <;> (rw [q'] at h; cases h)
   ·rw [FY] at e; cases e
    exact ⟨c,hc,GP z⟩
 ·obtain ⟨v,z⟩:=I.cell x c (Fk x c e)
  exact ⟨v,GP z⟩
 ·unfold inner
  rw [List.length_append,List.length_replicate,I.len]
  have:=S.len
  show _=N'.length
  omega
def W3 (n:Nat) (g:TG):Prop:=∀ (v:V) (σ:St) (H:Hp) (Q:St->Hp->Prop),g v σ H Q->g v σ H fun σ2 H2=>Q σ2 H2/\σ2.length=σ.length/\∀ j,j<n->σ2[j]?=σ[j]?
def dS (n:Nat) (g:TGs):Prop:=∀ (vs:List V) (σ:St) (H:Hp) (Q:St->Hp->Prop),g vs σ H Q->g vs σ H fun σ2 H2=>Q σ2 H2/\σ2.length=σ.length/\∀ j,j<n->σ2[j]?=σ[j]?
theorem K0 {n i:Nat} (h:n<=i):W3 n (L0 i):=fun v σ H Q q=>⟨q,by simp,fun j hj=>List.getElem?_set_ne (by omega)⟩
theorem Y0 {n:Nat}:dS n gNil:=fun vs σ H Q zz56=>by obtain ⟨e,q⟩:=zz56; exact ⟨e,q,rfl,fun _ _=>rfl⟩
theorem v6 {n i:Nat} {u:TGs} (h:n<=i) (hu:dS n u):dS n (lZ (L0 i) u):=fun vs σ H Q zz57=>by
 obtain ⟨v,r,e,q⟩:=zz57
 refine ⟨v,r,e,?_⟩
 have q':=hu r (σ.set i (some v)) H Q q
 show u r (σ.set i (some v)) H _
 have e1:∀ σ2:St,(σ2.length=(σ.set i (some v)).length/\∀ j,j<n->σ2[j]?=(σ.set i (some v))[j]?)=(σ2.length=σ.length/\∀ j,j<n->σ2[j]?=σ[j]?):=fun σ2=>by
  have:∀ j,j<n->(σ.set i (some v))[j]?=σ[j]?:=fun j hj=>List.getElem?_set_ne (by omega)
  rw [List.length_set]
  exact propext ⟨fun zz58=>by obtain ⟨a,b⟩:=zz58; exact ⟨a,fun j hj=>(b j hj).trans (this j hj)⟩,fun zz59=>by obtain ⟨a,b⟩:=zz59; exact ⟨a,fun j hj=>(b j hj).trans (this j hj).symm⟩⟩
 have e2:(fun (σ2:St) (H2:Hp)=>Q σ2 H2/\σ2.length=σ.length/\∀ j,j<n->σ2[j]?=σ[j]?)=fun σ2 H2=>Q σ2 H2/\σ2.length=(σ.set i (some v)).length/\∀ j,j<n->σ2[j]?=(σ.set i (some v))[j]?:=by
  funext σ2 H2; rw [e1]
 rw [e2]; exact q'
theorem X9 {K:Frag} {n k:Nat} {u:TGs} (hu:dS n u):W3 n (lY K k u):=fun v σ H Q zz60=>by obtain ⟨a,xs,e,h1,h2,q⟩:=zz60; exact ⟨a,xs,e,h1,h2,hu xs σ H Q q⟩
def PIf (X:Cx) (ifs:List Expr) (t:TT):Prop:=
 ∀ (pins:List (Addr×Obj)) (s:Shared) (σ:St) (H:Hp) (Q:Bool->Hp->Prop),Inv X pins σ H s->t σ H Q ->
  wpAny (model X.prog X.w) X.A (forIn ifs true fun c r=>if r=true then do let ok <- isTrue c X.env (eval c X.env); pure (ForInStep.yield ok) else pure (ForInStep.yield r)) (TP X pins σ Q) X.xe s
def tYes:TT:=fun _ H Q=>Q true H
theorem vf {X:Cx}:PIf X [] tYes:=fun _ _ _ H _ I h=>wpAny_tests_nil ⟨H,I,h⟩
theorem ve {X:Cx} {c:Expr} {t:TT} (h:PT X c t):PIf X [c] t:=fun pins s σ H Q I q=>wpAny_tests_one (h pins s σ H Q I q)
def tZ (J:It) (D:Addr) (g:TG) (tc:TT) (te:TE) (σ':St) (H1:Hp) (Q:Hp->Prop):Prop:=
 ∃ W:Nat->Nat->Hp->Prop,(∃ m,W 0 m (upd H1 D (.lst [])))/\∀ i m H2,W i m H2 ->
  (J.stop i H2/\Q H2)\/(J.go i H2/\∀ x H3,J.yld i H2 x H3->g x σ' H3 fun σ4 H4=>tc σ4 H4 fun b H5=>
   if b=true then te σ4 H5 fun y H6=>∃ ys,H6 D=some (.lst ys)/\ys.length<sizeLine/\∃ m',m'<m/\W (i+1) m' (upd H6 D (.lst (ys ++ [y])))
   else ∃ m',m'<m/\W (i+1) m' H5)
def kT (N':List Str) (wi:TI) (g:TG) (tc:TT) (te:TE):TE:=fun σ H Q=>wi σ H fun J H1=>∀ D,H1 D=none->tZ J D g tc te (inner N' σ) H1 (Q (.ref D))
section
variable {X:Cx} {cs:Scope} {N':List Str} {tg iter elt:Expr} {ifs:List Expr} {wi:TI} {g:TG} {tc:TT} {te:TE} {pos:Pos}
theorem Di {cl:List (Str×Addr)} {pins:List (Addr×Obj)} {fp:List Addr} {H3 H':Hp} {s3:Shared} (Fk:∀ x c,cl.lookup x=some c->X.env.cells.lookup x=some c) (stk:∀ b∈frs X.stack,b∈X.env.locals::X.fs)
  (GY:∀ b∈fp,D9 X pins H3 b) (Fe:∀ b∈fp,b<s3.heap.objs.size) (hn:∀ b∈fp,H' b=none):∀ b∈fp,D9 (j5 X cs cl N' fp s3 H3) [] H' b:=fun b hb=>by
 obtain ⟨f0,f1,f2,f3,f4,f5⟩:=GY b hb
 refine ⟨hn b hb,Nat.ne_of_lt (Fe b hb),fun JF=>?_,.inl hb,fun x c e=>f4 x c (Fk x c e),fun p hp=>absurd (show p∈([]:List (Addr×Obj)) from hp) (by simp)⟩
 have Hy:b∈frs X.stack:=JF
 rcases List.mem_cons.mp (stk b Hy) with z | z
 ·exact f1 z
 ·exact f2 z
theorem pA {cl:List (Str×Addr)} {pins:List (Addr×Obj)} {σ:St} {R:Result->Shared->Prop} {Q:Hp->Prop} {s3 s4:Shared} {H3:Hp} {it D:Addr} {fp:List Addr} {tn:Nat->Heap->Prop} {J:It} {W:Nat->Nat->Hp->Prop} {m0:Nat}
  (hc:X.calm=true) (hg:PG (j5 X cs cl N' fp s3 H3) tg g) (hk:W3 X.N.length g) (ht:PIf (j5 X cs cl N' fp s3 H3) ifs tc) (he:PE (j5 X cs cl N' fp s3 H3) elt te)
  (Fk:∀ x c,cl.lookup x=some c->X.env.cells.lookup x=some c)
  (I3:Inv X pins σ H3 s3) (I4:Inv (j5 X cs cl N' fp s3 H3) [] (inner N' σ) H3 s4) (T:Turn X.prog X.w X.K tg J fp it tn) (st:tn 0 s4.heap) (GY:∀ b∈fp,D9 X pins H3 b) (Fe:∀ b∈fp,b<s3.heap.objs.size)
  (w0:W 0 m0 H3)
  (turn:∀ i m H2,W i m H2->(J.stop i H2/\Q H2)\/(J.go i H2/\∀ x H3,J.yld i H2 x H3->g x (inner N' σ) H3 fun σ4 H4=>tc σ4 H4 fun b H5=>
   if b=true then te σ4 H5 fun y H6=>∃ ys,H6 D=some (.lst ys)/\ys.length<sizeLine/\∃ m',m'<m/\W (i+1) m' (upd H6 D (.lst (ys ++ [y])))
   else ∃ m',m'<m/\W (i+1) m' H5))
  (hR:∀ (H':Hp) (s':Shared),Inv X pins σ H' s'->Q H'->(∃ m,s'.heap.Ns s3.heap.objs.size m)->D9 X pins H' s3.heap.objs.size->R (.ok .next) s') :
  codeAny (model X.prog X.w) X.A (.compLoop (.ListComp elt [⟨tg,iter,ifs,0⟩] cs pos) 0 (.ref it) (.ref D) (j5 X cs cl N' fp s3 H3).env) R s4:=by
 have JO:∀ {H':Hp},(∀ b∈fp,H' b=none)->∀ b∈fp,D9 (j5 X cs cl N' fp s3 H3) [] H' b:=fun hn=>Di Fk I3.stkSub GY Fe hn
 have lσ:(inner N' σ).length=N'.length:=I4.len
 refine codeAny_loop rfl (fun n s'=>∃ i H',Inv (j5 X cs cl N' fp s3 H3) [] (inner N' σ) H' s'/\tn i s'.heap/\(∀ b∈fp,H' b=none)/\W i n H') (fun n s5 hI=>?_) m0 ⟨0,H3,I4,st,fun b hb=>(GY b hb).1,w0⟩
 obtain ⟨i,H5,I5,HC,Jc,w5⟩:=hI
 show wpAny _ _ ((compTurn (.ListComp elt [⟨tg,iter,ifs,0⟩] cs pos) 0 (.ref it) (.ref D) (j5 X cs cl N' fp s3 H3).env).onRaise _) _ _ s5
 refine wpAny_noted ?_
 rw [compTurn_list]
 refine wpAny_bind (wpAny_standAt (wpAny_bind ?_))
 have Je:∀ {α:Type} {t:Sem α} {P:α->Shared->Prop} {E':Value->Shared->Prop} {s:Shared},wpAny (model X.prog X.w) X.A t P (fun _ _=>False) s->wpAny (model X.prog X.w) X.A t P E' s:=fun h=>wpAny_mono h (fun _ _ q=>q) fun _ _ q=>q.elim
 rcases turn i n H5 w5 with ⟨stop,q⟩ | ⟨go,step⟩
 ·refine thn (T.done (j5 X cs cl N' fp s3 H3) rfl rfl rfl hc i [] s5 _ H5 _ I5 (JO Jc) HC stop) fun r s6 ⟨hr,I6⟩=>?_
  subst hr
  refine wpAny_pure ?_
  have J6:Inv X pins σ H5 s6:=I3.call' (H':=H5) (ch:=fp) I6.os I6.base I6.hok I6.bare fun b hb=>by
   obtain ⟨f0,f1,f2,f3,f4,f5⟩:=GY b hb
   exact ⟨f3,f1,f4,f5⟩
  obtain ⟨m,hn,_⟩:=I6.loc
  exact hR H5 s6 J6 q ⟨m,hn⟩ (I3.fpOk (Nat.le_refl _) I6.free)
 ·refine thn (T.item (j5 X cs cl N' fp s3 H3) rfl rfl rfl hc i [] s5 _ H5 _ I5 (JO Jc) HC go) fun r s6 ⟨u,hr,h6⟩=>?_
  subst hr
  refine wpAny_bind (thn h6 fun _ s7 zz63=>?_)
  obtain ⟨x,H7,I7,r7,y7,Jf,fr7⟩:=zz63
  have I7':=I7.pinned (JO fr7) (T.obj _ _ Jf)
  refine wpAny_bind (Je (thn (hg _ s7 _ H7 x u _ I7' r7 (hk x _ H7 _ (step x H7 y7))) fun _ s8 zz64=>?_))
  obtain ⟨σ8,H8,I8,q8,l8,k8⟩:=zz64
  refine wpAny_bind (Je (thn (ht _ s8 σ8 H8 _ I8 q8) fun b s9 zz65=>?_))
  obtain ⟨H9,I9,q9⟩:=zz65
  have again:∀ {s':Shared} {H':Hp},Inv (j5 X cs cl N' fp s3 H3) ([]++aT fp s7.heap) σ8 H' s'->(∃ m',m'<n/\W (i+1) m' H') ->
    ∃ m',m'<n/\∃ i H',Inv (j5 X cs cl N' fp s3 H3) [] (inner N' σ) H' s'/\tn i s'.heap/\(∀ b∈fp,H' b=none)/\W i m' H':=fun {s' H'} I' zz66=>by
   obtain ⟨m',hm,w'⟩:=zz66
   refine ⟨m',hm,i+1,H',(I'.unpinned).weak (by rw [l8]) (fun j v e=>?_),T.keep _ _ _ Jf fun b hb o e=>(I'.pin (b,o) (List.mem_append_right _ (List.mem_append_right _ (Q8 hb e)))).1,fun b hb=>?_,w'⟩
   ·have hj:j<X.N.length:=by rw [<- I3.len]; exact (List.getElem?_eq_some_iff.mp (fP e)).1
    rw [k8 j hj]; exact e
   ·obtain ⟨o,e,d⟩:=T.obj _ _ Jf b hb
    exact (I'.pin (b,o) (List.mem_append_right _ (List.mem_append_right _ (Q8 hb e)))).2.1
  cases b with
  | false=>
   have Jk:∃ m',m'<n/\W (i+1) m' H9:=q9
   exact wpAny_pure ⟨rfl,again I9 Jk⟩
  | true=>
   have Jk:te σ8 H9 _:=q9
   refine wpAny_bind (wpAny_bind (Je (thn (he _ s9 σ8 H9 _ I9 Jk) fun v s10 zz67=>?_)))
   obtain ⟨y,H10,I10,r10,ys,hD,hy,q10⟩:=zz67
   refine wpAny_bind (Je (thn (fG _ s10 σ8 H10 (.ref D) [y] (.ref D) [v] (fun _ H'=>∃ m',m'<n/\W (i+1) m' H') I10 rfl (.cons r10 .nil) ⟨D,ys,y,rfl,rfl,hD,hy,q10⟩) fun _ s11 zz68=>?_))
   obtain ⟨_,H11,I11,_,q11⟩:=zz68
   exact wpAny_pure (wpAny_pure ⟨rfl,again I11 q11⟩)
theorem fS {cl:List (Str×Addr)} {pins:List (Addr×Obj)} {σ:St} {R:Value->Addr->Result->Shared->Prop} {Q:V->Hp->Prop} {s2:Shared} {Hk:Value} (S:i8 X.env.scope cs X.N N') (hc:X.calm=true)
  (hg:∀ cl ex s H,PG (j5 X cs cl N' ex s H) tg g) (hk:W3 X.N.length g) (ht:∀ cl ex s H,PIf (j5 X cs cl N' ex s H) ifs tc) (he:∀ cl ex s H,PE (j5 X cs cl N' ex s H) elt te)
  (Fk:∀ x c,cl.lookup x=some c->X.env.cells.lookup x=some c) (GJ:∀ x,(x,NameKind.free)∈cs.names->∃ c,cl.lookup x=some c)
  (h:PIE X pins σ tg (fun J H1=>∀ D,H1 D=none->tZ J D g tc te (inner N' σ) H1 (Q (.ref D))) Hk s2)
  (hR:∀ (D C:Addr) (H':Hp) (s':Shared),Inv X pins σ H' s'->Q (.ref D) H'->(∃ m,s'.heap.Ns C m)->D9 X pins H' C->R (.ref D) C (.ok .next) s') :
  wpAny (model X.prog X.w) X.A (newList []) (fun acc s₃=>wpAny (model X.prog X.w) X.A (newFunctionEnv cs X.env.globals cl [] X.env.qual none .none (some X.env)) (fun IC s₄=>
   codeAny (model X.prog X.w) X.A (.compStart (.ListComp elt [⟨tg,iter,ifs,0⟩] cs pos) 0 Hk acc { IC with scope:=relabel cs X.env }) (R acc IC.locals) s₄) X.xe s₃) X.xe s2:=by
 obtain ⟨it,fp,tn,J,H2,e,I2,T,Gu,f2,hw⟩:=h
 subst e
 refine wpAny_newObj_type (wpAny_newFunctionEnv S.ncell (by intro y hy; simp at hy) (fun h1 Ik Ih=>?_) S.kind)
 dsimp only at Ik Ih ⊢
 have hD:=I2.hok.fresh (Nat.le_refl _)
 obtain ⟨W,⟨m0,w0⟩,turn⟩:=hw s2.heap.objs.size hD
 have I3:Inv X pins σ (upd H2 s2.heap.objs.size (.lst [])) { s2 with heap:=s2.heap.push { cls:=.type "list",dict:=none,data:=.seq ([]:List Value).toArray } }:=I2.lnew (t':=s2.toks) .nil (Nat.zero_le _)
 have Il:∀ b∈fp,b<s2.heap.objs.size:=fun b hb=>by
  obtain ⟨o,e,_⟩:=T.obj 0 _ Gu b hb
  exact Heap.lt_size e
 have GY:∀ b∈fp,D9 X pins (upd H2 s2.heap.objs.size (.lst [])) b:=fun b hb=>by
  obtain ⟨f0,r⟩:=f2 b hb
  exact ⟨by rw [b8 (Nat.ne_of_lt (Il b hb))]; exact f0,r⟩
 have Fe:∀ b∈fp,b<(s2.heap.push { cls:=.type "list",dict:=none,data:=.seq ([]:List Value).toArray }).objs.size:=fun b hb=>by rw [Heap.size_push]; exact Nat.lt_succ_of_lt (Il b hb)
 have kp:∀ b o,(s2.heap.push { cls:=.type "list",dict:=none,data:=.seq ([]:List Value).toArray }).get? b=some o->h1.get? b=some o:=fun b o e=>Ih.extBut b o (Nat.ne_of_lt (Heap.lt_size e)) (Heap.get?_push_of_some _ e)
 have I4:=sE (cs:=cs) (cl:=cl) (N':=N') (fp:=fp) (s4:={ s2 with heap:=h1,toks:=s2.toks+([]:List (Str×Value)).length }) S I3 Fk GJ GY Fe kp Ik rfl rfl
 have st4:tn 0 h1:=T.keep 0 _ _ Gu fun b hb o e=>kp b o (Heap.get?_push_of_some _ e)
 have loop:=pA (R:=R (.ref s2.heap.objs.size) (s2.heap.push { cls:=.type "list",dict:=none,data:=.seq ([]:List Value).toArray }).objs.size) (D:=s2.heap.objs.size) (iter:=iter) (pos:=pos) (it:=it) (Q:=Q (.ref s2.heap.objs.size)) hc (hg cl fp _ _) hk (ht cl fp _ _) (he cl fp _ _) Fk I3 I4 T st4 GY Fe w0 turn fun H' s' I' q n f=>hR _ _ H' s' I' q n f
 exact codeAny_compStart_list loop (T.self _ 0 _ _ _ st4 loop)
theorem vh (S:i8 X.env.scope cs X.N N') (hc:X.calm=true) (hi:PI X tg iter wi)
  (hg:∀ cl ex s H,PG (j5 X cs cl N' ex s H) tg g) (hk:W3 X.N.length g) (ht:∀ cl ex s H,PIf (j5 X cs cl N' ex s H) ifs tc) (he:∀ cl ex s H,PE (j5 X cs cl N' ex s H) elt te)
  (hs:∀ x,foldedSetIterable iter X.env x=pure x:=by intro _; rfl):PE X (.ListComp elt [⟨tg,iter,ifs,0⟩] cs pos) (kT N' wi g tc te):=by
 intro pins s σ H Q I h
 obtain ⟨cl,e,h1,h2,_⟩:=dL (env:=X.env) cs.names [] (fun x hx hk=>I.ok.has x.1 (S.free x hx hk)) (fun _ _ z=>nomatch z)
 have Gp:closureFor cs X.env=pure cl:=by
  simp only [closureFor]
  rw [e]; rfl
 rw [eval_ListComp]
 refine wpAny_comprehension_free (use:=none) rfl hs Gp S.kind S.loc (thn (hi pins s σ H _ I h) fun v s1 q1=>thn q1 fun Hk s2 q2=>?_)
 refine fS (R:=fun acc C=>compPost (model X.prog X.w) X.A X.xe none (EP X pins σ Q) acc C) (Q:=Q) S hc hg hk ht he h1 h2 q2 fun D C H' s' I' q n f=>?_
 obtain ⟨m,hn⟩:=n
 obtain ⟨f0,f1,f2,f3,f4,f5⟩:=f
 exact ⟨m,hn,fun h' sb=>⟨.ref D,H',I'.turned (t':=s'.toks) (fun b o hb e=>sb.extBut b o hb e) f0 f1 f3 f4 f5,rfl,q⟩⟩
theorem vc {i:Nat} {y:Str} {py HU:Pos} (S:i8 X.env.scope cs X.N N') (hc:X.calm=true) (hi:PI X tg iter wi)
  (hg:∀ cl ex s H,PG (j5 X cs cl N' ex s H) tg g) (hk:W3 X.N.length g) (ht:∀ cl ex s H,PIf (j5 X cs cl N' ex s H) ifs tc) (he:∀ cl ex s H,PE (j5 X cs cl N' ex s H) elt te)
  (hN:X.N.Nodup) (hy:X.N[i]?=some y) (hl:Loc X.env.scope y)
  (FL:swapsWith (.ListComp elt [⟨tg,iter,ifs,0⟩] cs pos) (some (.Name y py)) HU.line X.env=pure true:=by rfl) (hf:X.fn y=true\/X.env.scope.names.lookup y=some .local:=by first | exact .inl rfl | exact .inr rfl | assumption)
  (hs:∀ x,foldedSetIterable iter X.env x=pure x:=by intro _; rfl):PS X (.Assign [.Name y py] (.ListComp elt [⟨tg,iter,ifs,0⟩] cs pos) HU) (Z4 (kT N' wi g tc te) (L0 i)):=by
 intro pins s σ H Q I h
 obtain ⟨cl,e,h1,h2,_⟩:=dL (env:=X.env) cs.names [] (fun x hx hk=>I.ok.has x.1 (S.free x hx hk)) (fun _ _ z=>nomatch z)
 have Gp:closureFor cs X.env=pure cl:=by
  simp only [closureFor]
  rw [e]; rfl
 rw [exec_Assign_Name_used _ _ _ _ FL]
 refine wpAny_bind (wpAny_standAt (wpAny_bind ?_))
 show wpAny _ _ (comprehension (.ListComp elt [⟨tg,iter,ifs,0⟩] cs pos) cs X.env _ (newList []) false (eval iter X.env) (some (assign (.Name y py) X.env))>>=_) _ _ s
 refine wpAny_bind (thn (wpAny_comprehension_free (use:=some (assign (.Name y py) X.env)) (Q:=fun _ s'=>SP X pins Q .next s') rfl hs Gp S.kind S.loc (thn (hi pins s σ H _ I h) fun v s1 q1=>thn q1 fun Hk s2 q2=>?_)) fun _ s' q=>wpAny_pure (wpAny_pure q))
 refine fS (R:=fun acc C=>compPost (model X.prog X.w) X.A X.xe (some (assign (.Name y py) X.env)) (fun _ s'=>SP X pins Q .next s') acc C) (Q:=fun x H1=>L0 i x σ H1 Q.nx) S hc hg hk ht he h1 h2 q2 fun D C H' s' I' q n f=>?_
 obtain ⟨m,hn⟩:=n
 obtain ⟨f0,f1,f2,f3,f4,f5⟩:=f
 show wpAny _ _ (assign (.Name y py) X.env (.ref D)) _ _ _
 refine wpAny_assign_Name (fv (v:=.ref D) (u:=.ref D) I' hN hy hl rfl (fun Gb I'' zz69=>?_) hf)
 obtain ⟨a,sb,ha⟩:=zz69
 have hCa:C≠a:=by
  rcases ha with rfl | ha
  ·exact f1
  ·exact fun q=>f4 _ _ ha q.symm
 refine ⟨m,hn.sameBut sb hCa,fun h' sb'=>?_⟩
 exact ⟨_,H',I''.turned (t':=Gb.toks) (fun b o hb e=>sb'.extBut b o hb e) f0 f1 f3 f4 f5,q⟩
end
end L2
namespace L2
open PySem PySem.Spec PyProof.Rows
theorem Sq.same {K:Frag} {H H':Hp} {t:Bool} {a:Addr} {xs:List V} (e:Same H H') (h:Sq K H t a xs):Sq K H' t a xs:=by
 unfold Sq at h ⊢
 split
 ·rename_i ht; rw [if_pos ht] at h
  rcases h with (h | ⟨o,h⟩) | h
  ·exact .inl (.inl (e _ _ h))
  ·exact .inl (.inr ⟨o,e _ _ h⟩)
  ·exact .inr h
 ·rename_i ht; rw [if_neg ht] at h
  exact e.seq h
def seqAt (K:Frag) (H:Hp) (p:Addr) (R:List V->Prop):Prop:=match H p with
 | some (.tup xs)=>R xs
 | some (.lst xs)=>R xs
 | _=>∃ t xs,Sq K H t p xs/\R xs
section
variable {X:Cx}
def ItQ (K:Frag) (t:Bool) (a:Addr):It:=if t=true then Itt K a else Itl K a
def iSq (K:Frag) (tl:TE):TI:=fun σ H R=>tl σ H fun x H1=>∃ a,x=.ref a/\∃ t xs,Sq K H1 t a xs/\R (ItQ K t a) H1
theorem CJ {tg l:Expr} {tl:TE} (hl:PE X l tl):PI X tg l (iSq X.K tl):=by
 intro pins s σ H R I h
 refine thn (hl pins s σ H _ I h) fun v s1 zz70=>?_
 obtain ⟨x,H1,I1,r1,q1⟩:=zz70
 obtain ⟨a,e,t,xs,hq,q⟩:=q1
 subst e
 cases r1
 cases t with
 | true=>
  have GA:SqT X.K H1 a xs:=by unfold Sq at hq; rw [if_pos rfl] at hq; exact hq
  obtain ⟨its,rv,p,hz⟩:=I1.tuple GA
  refine wpAny_pyIter_tuple (show s1.heap.IsTuple a its.toArray from p) ?_
  refine ⟨s1.heap.objs.size,[s1.heap.objs.size],_,Itt X.K a,H1,rfl,I1.kept (t':=s1.toks) fun b o e=>Heap.get?_push_of_some _ e,kM a _,⟨_,Heap.get?_push_size _ rfl,rfl,rfl⟩,fun b hb=>?_,q⟩
  have e:b=s1.heap.objs.size:=by simpa using hb
  subst e
  exact I1.fpOk (Nat.le_refl _) (I1.hok.fresh (Nat.le_refl _))
 | false=>
  have GA:SqL X.K H1 a xs:=by unfold Sq at hq; rw [if_neg Bool.false_ne_true] at hq; exact hq
  obtain ⟨its,rv,p,hz⟩:=I1.list GA
  refine wpAny_pyIter_list p.isList ?_
  refine ⟨s1.heap.objs.size,[s1.heap.objs.size],_,Itl X.K a,H1,rfl,I1.kept (t':=s1.toks) fun b o e=>Heap.get?_push_of_some _ e,np a _,⟨_,Heap.get?_push_size _ rfl,rfl,rfl⟩,fun b hb=>?_,q⟩
  have e:b=s1.heap.objs.size:=by simpa using hb
  subst e
  exact I1.fpOk (Nat.le_refl _) (I1.hok.fresh (Nat.le_refl _))
theorem wT:bootBuiltins "bool" = some (.type "bool"):=by decide +kernel
theorem BY:bootBuiltins "int" = some (.type "int"):=by decide +kernel
theorem Y8:bootBuiltins "list" = some (.type "list"):=by decide +kernel
theorem w8:bootBuiltins "tuple" = some (.type "tuple"):=by decide +kernel
theorem pJ:bootBuiltins "max" = some (.builtin "max"):=by decide +kernel
def tyO:Option HO->Option String
 | some (.lst _)=>some "list"
 | some (.tup _)=>some "tuple"
 | some (.dK _)=>some "dict"
 | _=>none
def tyB (H:Hp):V->Option String
 | .non=>some "NoneType"
 | .bl _=>some "bool"
 | .int _=>some "int"
 | .str _=>some "str"
 | .ref a=>tyO (H a)
 | _=>none
def t6 (A T:String):Option Bool:=
 if A=T then some true else if A = "bool" /\ T = "int" then some true
 else if (A = "NoneType" \/ A = "bool" \/ A = "int" \/ A = "str" \/ A = "list" \/ A = "tuple" \/ A = "dict")/\(T = "bool" \/ T = "int" \/ T = "list" \/ T = "tuple") then some false else none
theorem xv {K:Frag} {H:Hp} {x:V} {A:String} (h:tyB H x=some A):N4 K H x (.type A):=by
 cases x with
 | non=>cases h; exact .non
 | bl _=>cases h; exact .bl _
 | int _=>cases h; exact .int _
 | str _=>cases h; exact .str _
 | ref a=>
  have h:tyO (H a)=some A:=h
  cases e:H a with
  | none=>rw [e] at h; cases h
  | some o=>
   rw [e] at h
   cases o <;> first | (cases h; exact .lst e) | (cases h; exact .tup e) | (cases h; exact .dK e) | cases h
 | _=>cases h
theorem vW {K:Frag} {A T:String} {b:Bool} (h:t6 A T=some b):PySem.W.kitOne K (.type A) (.type T)=some b:=by
 unfold t6 at h
 split at h
 ·rename_i e; subst e; cases h
  unfold PySem.W.kitOne
  rw [if_pos (by simp)]
 ·split at h
  ·rename_i e; obtain ⟨rfl,rfl⟩:=e; cases h; with_unfolding_all rfl
  ·split at h
   ·rename_i h1 h2 e
    obtain ⟨e1,e2⟩:=e
    cases h
    rcases e1 with rfl | rfl | rfl | rfl | rfl | rfl | rfl <;> rcases e2 with rfl | rfl | rfl | rfl <;>
     first | exact absurd rfl h1 | exact absurd ⟨rfl,rfl⟩ h2 | with_unfolding_all rfl
   ·cases h
def rIsi:List V->Hp->VK->Prop:=fun xs H Q=>∃ x T,xs = [x,.ty T]/\∃ A,tyB H x=some A/\∃ b,t6 A T=some b/\Q (.bl b) H
theorem V0:E2 X (.builtin "isinstance") rIsi:=by
 intro pins s σ H xs us Q I r h
 obtain ⟨x,T,rfl,A,ty,b,e,q⟩:=h
 obtain ⟨u,w',rfl,r1,r2⟩:=vals2 r
 have e2:w'=Value.type T:=r2
 subst e2
 exact oO I r1 (xv ty) (vW e) fun tk=>⟨.bl b,H,I.tok tk,rfl,q⟩
end
theorem Ao:t6 "bool" "bool" = some true:=by decide
theorem An:t6 "bool" "int" = some true:=by decide
theorem Am:t6 "int" "bool" = some false:=by decide
theorem Al:t6 "int" "int" = some true:=by decide
theorem zX:t6 "tuple" "tuple" = some true:=by decide
theorem Ai:t6 "list" "list" = some true:=by decide
theorem Af:t6 "NoneType" "int" = some false:=by decide
theorem Ag:t6 "NoneType" "bool" = some false:=by decide
theorem Ab:t6 "str" "int" = some false:=by decide
theorem Ac:t6 "str" "bool" = some false:=by decide
theorem Aj:t6 "list" "int" = some false:=by decide
theorem Ak:t6 "list" "bool" = some false:=by decide
theorem zZ:t6 "tuple" "int" = some false:=by decide
theorem Aa:t6 "tuple" "bool" = some false:=by decide
theorem X8 {n:Nat} {i:Int} (h0:0<=i) (h1:i<n):ixN n i=some i.toNat:=by unfold ixN; rw [if_pos h0,if_pos h1]
theorem mem_getD {ms:List Int} {P:Int->Prop} (h:∀ x∈ms,P x) {i:Nat} (hi:i<ms.length):P (ms.getD i 0):=by
 have:ms.getD i 0=ms[i]:=by simp [hi]
 rw [this]; exact h _ (List.getElem_mem hi)
structure Runs (J:It) (n:Nat) (H1:Hp) (Y:Nat->V->Hp->Hp->Prop):Prop where
 go:∀ i H,i<n->Same H1 H->J.go i H
 stop:∀ H,Same H1 H->J.stop n H
 yld:∀ i H x H',i<n->Same H1 H->J.yld i H x H'->Y i x H H'
theorem nP {K:Frag} {t u:Bool} {a b:Addr} {xs ys:List V} {H1:Hp} (h:Sq K H1 t a xs) (h':Sq K H1 u b ys) :
  Runs (ItZ K [(t,a),(u,b)]) (min xs.length ys.length) H1 fun i x H H'=>∃ p y z,x=.ref p/\H p=none/\H'=upd H p (.tup [y,z])/\xs[i]?=some y/\ys[i]?=some z:=by
 refine ⟨fun i H hi s v hv=>?_,fun H s=>⟨fun v hv=>?_,?_⟩,fun i H x H' hi s hy=>?_⟩
 ·simp only [List.mem_cons,List.not_mem_nil,or_false] at hv
  rcases hv with rfl | rfl
  ·exact ⟨xs,xs[i]'(Nat.lt_of_lt_of_le hi (Nat.min_le_left _ _)),Sq.same s h,by simp⟩
  ·exact ⟨ys,ys[i]'(Nat.lt_of_lt_of_le hi (Nat.min_le_right _ _)),Sq.same s h',by simp⟩
 ·simp only [List.mem_cons,List.not_mem_nil,or_false] at hv
  rcases hv with rfl | rfl
  ·exact ⟨xs,Sq.same s h⟩
  ·exact ⟨ys,Sq.same s h'⟩
 ·rcases Nat.le_total xs.length ys.length with q | q
  ·exact ⟨(t,a),by simp,xs,Sq.same s h,by omega⟩
  ·exact ⟨(u,b),by simp,ys,Sq.same s h',by omega⟩
 ·obtain ⟨p,zs,e1,e2,e3,pr⟩:=hy
  cases pr with
  | cons r1 pr=>
   cases pr with
   | cons r2 pr=>
    cases pr
    exact ⟨p,_,_,e1,e2,e3,r1 xs (Sq.same s h),r2 ys (Sq.same s h')⟩
theorem nO {K:Frag} {t u w:Bool} {a b c:Addr} {xs ys zs:List V} {H1:Hp} (h:Sq K H1 t a xs) (h':Sq K H1 u b ys) (Jb:Sq K H1 w c zs) :
  Runs (ItZ K [(t,a),(u,b),(w,c)]) (min xs.length (min ys.length zs.length)) H1 fun i x H H'=>∃ p y z v,x=.ref p/\H p=none/\H'=upd H p (.tup [y,z,v])/\xs[i]?=some y/\ys[i]?=some z/\zs[i]?=some v:=by
 refine ⟨fun i H hi s v hv=>?_,fun H s=>⟨fun v hv=>?_,?_⟩,fun i H x H' hi s hy=>?_⟩
 ·simp only [List.mem_cons,List.not_mem_nil,or_false] at hv
  rcases hv with rfl | rfl | rfl
  ·exact ⟨xs,xs[i]'(Nat.lt_of_lt_of_le hi (Nat.min_le_left _ _)),Sq.same s h,by simp⟩
  ·exact ⟨ys,ys[i]'(Nat.lt_of_lt_of_le hi (Nat.le_trans (Nat.min_le_right _ _) (Nat.min_le_left _ _))),Sq.same s h',by simp⟩
  ·exact ⟨zs,zs[i]'(Nat.lt_of_lt_of_le hi (Nat.le_trans (Nat.min_le_right _ _) (Nat.min_le_right _ _))),Sq.same s Jb,by simp⟩
 ·simp only [List.mem_cons,List.not_mem_nil,or_false] at hv
  rcases hv with rfl | rfl | rfl
  ·exact ⟨xs,Sq.same s h⟩
  ·exact ⟨ys,Sq.same s h'⟩
  ·exact ⟨zs,Sq.same s Jb⟩
 ·have:min xs.length (min ys.length zs.length)=xs.length\/min xs.length (min ys.length zs.length)=ys.length\/min xs.length (min ys.length zs.length)=zs.length:=by omega
  rcases this with q | q | q
  ·exact ⟨(t,a),by simp,xs,Sq.same s h,by omega⟩
  ·exact ⟨(u,b),by simp,ys,Sq.same s h',by omega⟩
  ·exact ⟨(w,c),by simp,zs,Sq.same s Jb,by omega⟩
 ·obtain ⟨p,vs,e1,e2,e3,pr⟩:=hy
  cases pr with
  | cons r1 pr=>
   cases pr with
   | cons r2 pr=>
    cases pr with
    | cons r3 pr=>
     cases pr
     exact ⟨p,_,_,_,e1,e2,e3,r1 xs (Sq.same s h),r2 ys (Sq.same s h'),r3 zs (Sq.same s Jb)⟩
structure Def (K:Frag) (mg:Str->Option Value) (x:Str) (st:Stmt) (ps:List Str) (f:Addr) (fd:FuncData):Prop where
 F:Fun K x x st f fd
 m:mg x=some (.ref f)
 b:Binds K fd ps []
section
variable {X:Cx}
theorem D4 (K:Frag) {es:List Expr} {pos:Pos} {k:Nat} {t:TGs} (n:Nat) (hc:X.calm=true) (h:PGs X es t) (hK:X.K=K:=by rfl)
  (hn:(assignEach es X.env).length=n:=by rfl) (FF:(assignEach es X.env).findIdx? (·.1)=none:=by rfl):PG X (.Tuple es k pos) (lY K n t):=by subst hK; exact zj hc h hn FF
def qq (to:TE) (te:TE):TE:=fun σ H Q=>to σ H fun x H1=>∃ p,x=.ref p/\(∃ xs,H1 p=some (.lst xs))/\te σ H1 fun y H2=>match H2 p with
 | some (.lst xs)=>xs.length<sizeLine/\Q .non (upd H2 p (.lst (xs ++ [y])))
 | _=>False
theorem fD {o e:Expr} {to te:TE} {apos EL:Pos} (ho:PE X o to) (ha:PE X e te)
  (ET:attributeBase o "append" X.env (eval o X.env)=eval o X.env:=by rfl)
  (FA:((backTo EL (starEach [e] X.env)).all (fun x=>!x.1)&&(backToKw EL (keywordEach [] X.env)).all (fun x=>x.1.isSome)
   && decide (([e]:List Expr).length+([]:List Keyword).length+(if ([]:List Keyword).isEmpty then 0 else 1)<30))=true:=by rfl)
  (ER:(apos.endLine == EL.line)=true:=by rfl) (hs:starEach [e] X.env=(false,eval e X.env)::starEach [] X.env:=by rfl):PE X (.Call (.Attribute o "append" apos) [e] [] EL) (qq to te):=by
 intro pins s σ H Q I h
 refine wpAny_Call_method_late ET FA ER rfl (thn (ho pins s σ H _ I h) fun v s1 zz71=>?_)
 obtain ⟨x,H1,I1,r1,p,ex,⟨xs,e1⟩,q1⟩:=zz71
 subst ex
 obtain ⟨h1,h2⟩:=gG (T := "list") I1 r1 (.inl ⟨rfl,xs,SqL.of e1⟩)
 refine ⟨"list", "list.append",PySem.F.plainAttrs_list,PySem.F.slot_list_append,PySem.F.type_list_append,h1,h2,?_⟩
 have hA:=X4 ha pa_nil hs EL pins s1 σ H1 (fun vs H2=>∃ y,vs = [y]/\match H2 p with
  | some (.lst xs)=>xs.length<sizeLine/\Q .non (upd H2 p (.lst (xs ++ [y])))
  | _=>False) I1 (by
   have e:(fun (y:V) (H2:Hp)=>match H2 p with
     | some (.lst xs)=>xs.length<sizeLine/\Q .non (upd H2 p (.lst (xs ++ [y])))
     | _=>False)=fun (y:V) (H2:Hp)=>∃ y',[y] = [y']/\match H2 p with
     | some (.lst xs)=>xs.length<sizeLine/\Q .non (upd H2 p (.lst (xs ++ [y'])))
     | _=>False:=by
    funext y H2
    exact propext ⟨fun q=>⟨y,rfl,q⟩,fun zz72=>by obtain ⟨y',e,q⟩:=zz72; cases e; exact q⟩
   rw [e] at q1
   exact q1)
 rw [hs] at hA ⊢
 refine Calls.callWith_builtin rfl (Calls.evalArgs_plain ?_)
 refine thn hA fun us s2 zz73=>?_
 obtain ⟨vs,H2,I2,r2,y,ev,q2⟩:=zz73
 subst ev
 refine fG pins s2 σ H2 (.ref p) [y] v us Q I2 r1 r2 ?_
 split at q2
 ·rename_i ys e2; exact ⟨p,ys,y,rfl,rfl,e2,q2.1,q2.2⟩
 ·exact q2.elim
end
section
variable {X:Cx}
end
def uc (i j:Int):Prop:=0<=j/\(Builtin.Int.intBits i:Int)*j<=2^27
theorem wd {ns:List Int} {i:Nat} {z:Int} (h:ns[i]?=some z):ns.getD i 0=z:=by rw [List.getD_eq_getElem?_getD,h]; rfl
theorem J7 {ns:List Int} {i:Nat} (h:i<ns.length):ns[i]?=some (ns.getD i 0):=by rw [List.getD_eq_getElem?_getD]; simp [h]
end L2
namespace TP
open PySem L2
inductive W where
 | non | bl (b:Bool) | int (i:Int) | str (x:Str) | ty (n:String) | tup (ws:List W) | lst (ws:List W) | scr (ws:List W)
 | exc (c:Str) (i:Option Int) | cls (c:Str)
def XD (F:Hp) (od:Option Addr):Option Int->Prop
 | none=>od=none
 | some i=>∃ d,od=some d/\F d=some (.xd [("at",.int i)])
mutual
inductive Rep (K:Frag) (F:Hp):V->W->Prop where
 | non:Rep K F .non .non
 | bl {b:Bool}:Rep K F (.bl b) (.bl b)
 | int {i:Int}:Rep K F (.int i) (.int i)
 | str {x:Str}:Rep K F (.str x) (.str x)
 | ty {n:String}:Rep K F (.ty n) (.ty n)
 | tup {a:Addr} {vs:List V} {ws:List W}:F a=some (.tup vs)->Reps K F vs ws->Rep K F (.ref a) (.tup ws)
 | lst {a:Addr} {vs:List V} {ws:List W}:F a=some (.lst vs)->Reps K F vs ws->Rep K F (.ref a) (.lst ws)
 | scr {a:Addr} {vs:List V} {ws:List W}:SqL K F a vs->Reps K F vs ws->Rep K F (.ref a) (.scr ws)
 | exc {a C:Addr} {o:Obj} {vs:Array Value} {c:Str} {i:Option Int}:F a=some (.ext fun h=>h.get? a=some o)->o.cls=.ref C->o.data=.fields vs->PySem.W.nsIn K mainGlobals c=some (some (.ref C))->XD F o.dict i->Rep K F (.ref a) (.exc c i)
 | cls {C:Addr} {c:Str}:PySem.W.nsIn K mainGlobals c=some (some (.ref C))->Rep K F (.ref C) (.cls c)
inductive Reps (K:Frag) (F:Hp):List V->List W->Prop where
 | nil:Reps K F [] []
 | cons {v:V} {w:W} {vs:List V} {ws:List W}:Rep K F v w->Reps K F vs ws->Reps K F (v::vs) (w::ws)
end
section
variable {K:Frag} {F F':Hp}
theorem qu {a:Addr} {xs:List V} (e:Same F F') (h:SqT K F a xs):SqT K F' a xs:=by
 rcases h with (h | ⟨o,h⟩) | h
 ·exact .inl (.inl (e _ _ h))
 ·exact .inl (.inr ⟨o,e _ _ h⟩)
 ·exact .inr h
theorem XD.same (e:Same F F') {od:Option Addr}:∀ {i:Option Int},XD F od i->XD F' od i:=by
 intro i h
 cases i with
 | none=>exact h
 | some _=>obtain ⟨d,h1,h2⟩:=h; exact ⟨d,h1,e _ _ h2⟩
theorem Rep.same (e:Same F F') {v:V} {w:W} (r:Rep K F v w):Rep K F' v w:=
 @Rep.rec K F (fun v w _=>Rep K F' v w) (fun vs ws _=>Reps K F' vs ws) .non .bl .int .str .ty (fun h _ r=>.tup (e _ _ h) r) (fun h _ r=>.lst (e _ _ h) r) (fun h _ r=>.scr (Same.seq e h) r) (fun h1 h2 h3 h4 h5=>.exc (e _ _ h1) h2 h3 h4 (XD.same e h5)) (fun h=>.cls h) .nil (fun _ _ a b=>.cons a b) v w r
theorem Reps.same (e:Same F F') {vs:List V} {ws:List W} (r:Reps K F vs ws):Reps K F' vs ws:=
 @Reps.rec K F (fun _ _ _=>True) (fun vs ws _=>Reps K F' vs ws) trivial trivial trivial trivial trivial (fun _ _ _=>trivial) (fun _ _ _=>trivial) (fun _ _ _=>trivial) (fun _ _ _ _ _=>trivial) (fun _=>trivial) .nil (fun h _ _ b=>.cons (Rep.same e h) b) vs ws r
theorem Reps.ind {P:List V->List W->Prop} (h0:P [] []) (h1:∀ {v:V} {w:W} {vs:List V} {ws:List W},Rep K F v w->Reps K F vs ws->P vs ws->P (v::vs) (w::ws)) {vs:List V} {ws:List W} (r:Reps K F vs ws):P vs ws:=
 @Reps.rec K F (fun _ _ _=>True) (fun vs ws _=>P vs ws) trivial trivial trivial trivial trivial (fun _ _ _=>trivial) (fun _ _ _=>trivial) (fun _ _ _=>trivial) (fun _ _ _ _ _=>trivial) (fun _=>trivial) h0 (fun h r _ b=>h1 h r b) vs ws r
def Ci (K:Frag) (F:Hp) (v:V):W->Prop
 | .non=>v=.non
 | .bl b=>v=.bl b
 | .int i=>v=.int i
 | .str x=>v=.str x
 | .ty n=>v=.ty n
 | .tup ws=>∃ a vs,v=.ref a/\F a=some (.tup vs)/\Reps K F vs ws
 | .lst ws=>∃ a vs,v=.ref a/\F a=some (.lst vs)/\Reps K F vs ws
 | .scr ws=>∃ a vs,v=.ref a/\SqL K F a vs/\Reps K F vs ws
 | .exc _ _=>True
 | .cls _=>True
theorem Rep.inv {v:V} {w:W} (r:Rep K F v w):Ci K F v w:=
 @Rep.rec K F (fun v w _=>Ci K F v w) (fun _ _ _=>True) rfl rfl rfl rfl rfl (fun h r _=>⟨_,_,rfl,h,r⟩) (fun h r _=>⟨_,_,rfl,h,r⟩) (fun h r _=>⟨_,_,rfl,h,r⟩) (fun _ _ _ _ _=>trivial) (fun _=>trivial) trivial (fun _ _ _ _=>trivial) v w r
def tV (K:Frag) (F:Hp) (vs:List V):List W->Prop
 | []=>vs = []
 | w::ws=>∃ v us,vs=v::us/\Rep K F v w/\Reps K F us ws
theorem Reps.inv {vs:List V} {ws:List W} (r:Reps K F vs ws):tV K F vs ws:=
 Reps.ind (P:=fun vs ws=>tV K F vs ws) rfl (fun h t _=>⟨_,_,rfl,h,t⟩) r
theorem Reps.length {vs:List V} {ws:List W} (r:Reps K F vs ws):vs.length=ws.length:=
 Reps.ind (P:=fun vs ws=>vs.length=ws.length) rfl (fun _ _ h=>congrArg (·+1) h) r
theorem Reps.get {vs:List V} {ws:List W} {i:Nat} {w:W} (r:Reps K F vs ws):ws[i]?=some w->∃ v,vs[i]?=some v/\Rep K F v w:=
 Reps.ind (P:=fun vs ws=>∀ (i:Nat) (w:W),ws[i]?=some w->∃ v,vs[i]?=some v/\Rep K F v w) (fun i w e=>by cases e) (fun h _ b i w e=>by
  cases i with
  | zero=>cases e; exact ⟨_,rfl,h⟩
  | succ i=>exact b i w e) r i w
theorem Reps.get' {vs:List V} {ws:List W} {i:Nat} {v:V} (r:Reps K F vs ws):vs[i]?=some v->∃ w,ws[i]?=some w/\Rep K F v w:=
 Reps.ind (P:=fun vs ws=>∀ (i:Nat) (v:V),vs[i]?=some v->∃ w,ws[i]?=some w/\Rep K F v w) (fun i w e=>by cases e) (fun h _ b i w e=>by
  cases i with
  | zero=>cases e; exact ⟨_,rfl,h⟩
  | succ i=>exact b i w e) r i v
theorem Reps.append {vs us:List V} {ws xs:List W} (r:Reps K F vs ws) (s:Reps K F us xs):Reps K F (vs++us) (ws++xs):=
 Reps.ind (P:=fun vs ws=>Reps K F (vs++us) (ws++xs)) s (fun h _ b=>.cons h b) r
theorem Reps.take {vs:List V} {ws:List W} (n:Nat) (r:Reps K F vs ws):Reps K F (vs.take n) (ws.take n):=
 Reps.ind (P:=fun vs ws=>∀ n,Reps K F (vs.take n) (ws.take n)) (fun n=>by simpa using .nil) (fun h _ b n=>by
  cases n with
  | zero=>exact .nil
  | succ n=>exact .cons h (b n)) r n
theorem Reps.drop {vs:List V} {ws:List W} (n:Nat) (r:Reps K F vs ws):Reps K F (vs.drop n) (ws.drop n):=
 Reps.ind (P:=fun vs ws=>∀ n,Reps K F (vs.drop n) (ws.drop n)) (fun n=>by simpa using .nil) (fun h r b n=>by
  cases n with
  | zero=>exact .cons h r
  | succ n=>exact b n) r n
theorem Reps.reverse {vs:List V} {ws:List W} (r:Reps K F vs ws):Reps K F vs.reverse ws.reverse:=by
 induction r using Reps.rec (motive_1:=fun _ _ _=>True) with
 | nil=>exact .nil
 | cons h _ _ ih=>rw [List.reverse_cons,List.reverse_cons]; exact Reps.append ih (.cons h .nil)
 | _=>trivial
theorem Reps.set {v:V} {w:W} (h:Rep K F v w) {vs:List V} {ws:List W} (i:Nat) (r:Reps K F vs ws):Reps K F (vs.set i v) (ws.set i w):=
 Reps.ind (P:=fun vs ws=>∀ i,Reps K F (vs.set i v) (ws.set i w)) (fun _=>.nil) (fun q t b i=>by
  cases i with
  | zero=>exact .cons h t
  | succ i=>exact .cons q (b i)) r i
theorem Reps.snoc {vs:List V} {ws:List W} {v:V} {w:W} (r:Reps K F vs ws) (h:Rep K F v w):Reps K F (vs ++ [v]) (ws ++ [w]):=r.append (.cons h .nil)
end
mutual
def noL:W->Bool
 | .lst _=>false
 | .scr _=>false
 | .tup ws=>k9 ws
 | _=>true
def k9:List W->Bool
 | []=>true
 | w::ws=>noL w&&k9 ws
end
def isL:HO->Bool
 | .lst _=>true
 | .dT _=>true
 | .dK _=>true
 | .frz _ (.lst _)=>true
 | _=>false
def join (H0 G:Hp):Hp:=fun a=>match H0 a with
 | some o=>if isL o then some o else G a
 | none=>G a
inductive Sl where
 | un | val (w:W) | par (w:W) | own (ws:List W) | dic (ks:List (List Int)) | dik (ks:List Int) | iop (p:Addr) (ws:List W) | hz (w:W)
abbrev Rho:=List Sl
def eR (G:Hp):Hp:=fun a=>match G a with
 | some o=>if isL o then none else some o
 | none=>none
theorem V8 {G G':Hp} (h:Same G G'):Same (eR G) (eR G'):=fun a o e=>by
 unfold eR at e ⊢
 cases q:G a with
 | none=>rw [q] at e; cases e
 | some u=>rw [q] at e; rw [h a u q]; exact e
theorem rA {G:Hp}:Same (eR G) G:=fun a o e=>by
 unfold eR at e
 cases q:G a with
 | none=>rw [q] at e; cases e
 | some u=>
  rw [q] at e
  dsimp only at e
  cases hl:isL u
  ·rw [hl] at e; exact e
  ·rw [hl] at e; cases e
def SlR (K:Frag) (H0 G H:Hp):Sl->Option V->Prop
 | .un,_=>True
 | .val w,o=>∃ v,o=some v/\Rep K G v w
 | .par w,o=>∃ v,o=some v/\Rep K (join H0 G) v w
 | .own ws,o=>∃ a vs,o=some (.ref a)/\H a=some (.lst vs)/\G a=none/\H0 a=none/\Reps K G vs ws
 | .dic ks,o=>∃ (a:Addr) (EQ:List (List Key×V)),o=some (.ref a)/\H a=some (.dT EQ)/\G a=none/\H0 a=none/\EQ.map (·.1)=ks.map fun k=>k.map Sum.inl
 | .dik ks,o=>∃ (a:Addr) (EQ:List (Key×V)),o=some (.ref a)/\H a=some (.dK EQ)/\G a=none/\H0 a=none/\EQ.map (·.1)=ks.map Sum.inl
 | .iop p ws,o=>o=some (.ref p)/\∃ vs,H0 p=some (.lst vs)/\Reps K G vs ws
 | .hz w,o=>∃ v,o=some v/\Rep K (join H0 (eR G)) v w
structure PIv (K:Frag) (H0 G:Hp) (ρ:Rho) (σ:St) (H:Hp):Prop where
 g0:∀ a o,H0 a=some o->isL o=false->G a=some o
 gl:∀ a o,H0 a=some o->isL o=true->G a=none
 gh:Same G H
 hh:Same H0 H
 len:ρ.length=σ.length
 sl:∀ (i:Nat) (x:Sl) (o:Option V),ρ[i]?=some x->σ[i]?=some o->SlR K H0 G H x o
 ne:∀ (i j:Nat) (ws us:List W) (a:Addr),i≠j->ρ[i]?=some (.own ws)->ρ[j]?=some (.own us)->σ[i]?=some (some (.ref a))->σ[j]?≠some (some (.ref a))
structure Ext (G H G' H':Hp):Prop where
 gg:Same G G'
 hh:Same H H'
 gh:Same G' H'
 keep:∀ a o,H a=some o->isL o=true->G a=none->G' a=none
theorem Ext.refl {G H:Hp} (h:Same G H):Ext G H G H:=⟨Same.refl G,Same.refl H,h,fun _ _ _ _ e=>e⟩
theorem Ext.trans {G H G1 H1 G2 H2:Hp} (a:Ext G H G1 H1) (b:Ext G1 H1 G2 H2):Ext G H G2 H2:=
 ⟨a.gg.trans b.gg,a.hh.trans b.hh,b.gh,fun x o h l e=>b.keep x o (a.hh x o h) l (a.keep x o h l e)⟩
section
variable {K:Frag} {H0 G H G' H':Hp} {ρ:Rho} {σ:St}
theorem n9 (h:Same G G'):Same (join H0 G) (join H0 G'):=fun a o e=>by
 unfold join at e ⊢
 cases q:H0 a with
 | none=>rw [q] at e; exact h a o e
 | some u=>
  rw [q] at e
  dsimp only at e ⊢
  by_cases hl:isL u=true
  ·rw [if_pos hl] at e ⊢; exact e
  ·rw [if_neg hl] at e ⊢; exact h a o e
theorem PIv.G_join (I:PIv K H0 G ρ σ H):Same G (join H0 G):=fun a o e=>by
 unfold join
 cases q:H0 a with
 | none=>exact e
 | some u=>
  dsimp only
  by_cases hl:isL u=true
  ·rw [I.gl a u q hl] at e; cases e
  ·rw [if_neg hl]; exact e
theorem PIv.join_H (I:PIv K H0 G ρ σ H):Same (join H0 G) H:=fun a o e=>by
 unfold join at e
 cases q:H0 a with
 | none=>rw [q] at e; exact I.gh a o e
 | some u=>
  rw [q] at e
  dsimp only at e
  by_cases hl:isL u=true
  ·rw [if_pos hl] at e; cases e; exact I.hh a _ q
  ·rw [if_neg hl] at e; exact I.gh a o e
theorem PIv.ext (I:PIv K H0 G ρ σ H) (x:Ext G H G' H'):PIv K H0 G' ρ σ H' where
 g0 a o e l:=x.gg a o (I.g0 a o e l)
 gl a o e l:=x.keep a o (I.hh a o e) l (I.gl a o e l)
 gh:=x.gh
 hh:=I.hh.trans x.hh
 len:=I.len
 sl i s o h1 h2:=by
  have:=I.sl i s o h1 h2
  cases s with
  | un=>trivial
  | val w=>obtain ⟨v,e,r⟩:=this; exact ⟨v,e,r.same x.gg⟩
  | par w=>obtain ⟨v,e,r⟩:=this; exact ⟨v,e,r.same (n9 x.gg)⟩
  | own ws=>
   obtain ⟨a,vs,e,h,g,h0,r⟩:=this
   exact ⟨a,vs,e,x.hh a _ h,x.keep a _ h rfl g,h0,r.same x.gg⟩
  | dic ks=>
   obtain ⟨a,EQ,e,h,g,h0,r⟩:=this
   exact ⟨a,EQ,e,x.hh a _ h,x.keep a _ h rfl g,h0,r⟩
  | dik ks=>
   obtain ⟨a,EQ,e,h,g,h0,r⟩:=this
   exact ⟨a,EQ,e,x.hh a _ h,x.keep a _ h rfl g,h0,r⟩
  | iop p ws=>
   obtain ⟨e,vs,h,r⟩:=this
   exact ⟨e,vs,h,r.same x.gg⟩
  | hz w=>obtain ⟨v,e,r⟩:=this; exact ⟨v,e,r.same (n9 (V8 x.gg))⟩
 ne:=I.ne
theorem cQ {a:Addr} {o:HO} (h:join H0 G a=some o) (l:isL o=false):G a=some o:=by
 unfold join at h
 cases q:H0 a with
 | none=>rw [q] at h; exact h
 | some u=>
  rw [q] at h
  dsimp only at h
  by_cases hl:isL u=true
  ·rw [if_pos hl] at h; cases h; rw [hl] at l; cases l
  ·rw [if_neg hl] at h; exact h
theorem XD.clean {od:Option Addr}:∀ {i:Option Int},XD (join H0 G) od i->XD G od i
 | none,h=>h
 | some _,⟨d,h1,h2⟩=>⟨d,h1,cQ h2 rfl⟩
theorem Rep.clean (I:PIv K H0 G ρ σ H) {v:V} {w:W} (r:Rep K (join H0 G) v w):noL w=true->Rep K G v w:=
 @Rep.rec K (join H0 G) (fun v w _=>noL w=true->Rep K G v w) (fun vs ws _=>k9 ws=true->Reps K G vs ws) (fun _=>.non) (fun _=>.bl) (fun _=>.int) (fun _=>.str) (fun _=>.ty)
  (fun h _ r n=>.tup (cQ h rfl) (r n)) (fun _ _ _ n=>by cases n) (fun _ _ _ n=>by cases n) (fun h1 h2 h3 h4 h5 _=>.exc (cQ h1 rfl) h2 h3 h4 (XD.clean h5)) (fun h _=>.cls h) (fun _=>.nil)
  (fun _ _ a b n=>by rw [k9,Bool.and_eq_true] at n; exact .cons (a n.1) (b n.2)) v w r
theorem Reps.clean (I:PIv K H0 G ρ σ H) {vs:List V} {ws:List W} (r:Reps K (join H0 G) vs ws):k9 ws=true->Reps K G vs ws:=
 @Reps.rec K (join H0 G) (fun _ _ _=>True) (fun vs ws _=>k9 ws=true->Reps K G vs ws) trivial trivial trivial trivial trivial (fun _ _ _=>trivial) (fun _ _ _=>trivial) (fun _ _ _=>trivial) (fun _ _ _ _ _=>trivial) (fun _=>trivial) (fun _=>.nil)
  (fun h _ _ b n=>by rw [k9,Bool.and_eq_true] at n; exact .cons (Rep.clean I h n.1) (b n.2)) vs ws r
end
structure XW where
 cls:Str
 at_:Option Int
inductive R (α:Type) where
 | ok (a:α) | ex (e:XW) | stuck
def R.bind {α β:Type} (x:R α) (f:α->R β):R β:=match x with
 | .ok a=>f a
 | .ex e=>.ex e
 | .stuck=>.stuck
instance:Monad R where
 pure:=R.ok
 bind:=R.bind
@[simp] theorem R.ok_bind {α β:Type} (a:α) (f:α->R β):((R.ok a:R α)>>=f)=f a:=rfl
@[simp] theorem R.stuck_bind {α β:Type} (f:α->R β):((R.stuck:R α)>>=f)=.stuck:=rfl
@[simp] theorem R.ex_bind {α β:Type} (e:XW) (f:α->R β):((R.ex e:R α)>>=f)=.ex e:=rfl
@[simp] theorem R.pure_eq {α:Type} (a:α):(pure a:R α)=.ok a:=rfl
inductive Mode where
 | F | V | U | C | B
def Md (K:Frag) (H0 H G' H':Hp) (v:V) (w:W):Mode->Prop
 | .V=>Rep K G' v w
 | .U=>Rep K (join H0 G') v w
 | .F=>match w with
  | .lst ws=>∃ a vs,v=.ref a/\H' a=some (.lst vs)/\G' a=none/\H a=none/\Reps K G' vs ws
  | w=>Rep K G' v w
 | .C=>Rep K G' v w\/∃ a vs ws,v=.ref a/\w=.lst ws/\H' a=some (.lst vs)/\Reps K G' vs ws
 | .B=>Rep K (join H0 G') v w\/∃ a vs ws,v=.ref a/\w=.lst ws/\H' a=some (.lst vs)/\Reps K G' vs ws
abbrev EXT:=XW->Hp->Prop
def Out {α β:Type} (EX:EXT) (G H:Hp) (md:α->β->Hp->Hp->Prop) (r:R α) (Q:β->Hp->Prop):Prop:=match r with
 | .ok w=>∀ v G' H',Ext G H G' H'->md w v G' H'->Q v H'
 | .ex e=>∀ H',Same H H'->EX e H'
 | .stuck=>False
abbrev mdW (K:Frag) (d:Mode) (H0 H:Hp):W->V->Hp->Hp->Prop:=fun w v G' H'=>Md K H0 H G' H' v w d
abbrev mdB:Bool->Bool->Hp->Hp->Prop:=fun b c _ _=>c=b
inductive MdA (K:Frag) (d:Mode) (H0 H G' H':Hp):List W->List V->Prop where
 | nil:MdA K d H0 H G' H' [] []
 | cons {w:W} {v:V} {ws:List W} {vs:List V}:Md K H0 H G' H' v w d->MdA K d H0 H G' H' ws vs->MdA K d H0 H G' H' (w::ws) (v::vs)
def MdAI (K:Frag) (d:Mode) (H0 H G' H':Hp) (vs:List V):List W->Prop
 | []=>vs = []
 | w::ws=>∃ v us,vs=v::us/\Md K H0 H G' H' v w d/\MdA K d H0 H G' H' ws us
abbrev mdA (K:Frag) (d:Mode) (H0 H:Hp):List W->List V->Hp->Hp->Prop:=fun ws vs G' H'=>MdA K d H0 H G' H' ws vs
def tM (K:Frag) (EX:EXT) (d:Mode) (m:Rho->R W):TE:=fun σ H Q=>∃ H0 G ρ,PIv K H0 G ρ σ H/\Out EX G H (mdW K d H0 H) (m ρ) Q
def tT (K:Frag) (EX:EXT) (m:Rho->R Bool):TT:=fun σ H Q=>∃ H0 G ρ,PIv K H0 G ρ σ H/\Out EX G H mdB (m ρ) Q
def tA (K:Frag) (EX:EXT) (d:Mode) (m:Rho->R (List W)):TA:=fun σ H Q=>∃ H0 G ρ,PIv K H0 G ρ σ H/\Out EX G H (mdA K d H0 H) (m ρ) Q
section
variable {K:Frag} {EX:EXT} {H0 G H G1 H1 G2 H2:Hp} {ρ:Rho} {σ:St}
theorem Out.bind {α β γ δ:Type} {md:α->β->Hp->Hp->Prop} {md':γ->δ->Hp->Hp->Prop} {m:R α} {k:α->R γ} {Q:δ->Hp->Prop} {Q1:β->Hp->Prop} (o:Out EX G H md' (m>>=k) Q)
  (h:∀ x G1 H1 w,Ext G H G1 H1->md w x G1 H1->Out EX G1 H1 md' (k w) Q->Q1 x H1):Out EX G H md m Q1:=by
 cases m with
 | ok w=>
  intro v G' H' e d
  refine h v G' H' w e d ?_
  rw [R.ok_bind] at o
  revert o
  cases k w with
  | ok u=>exact fun o v2 G2 H2 e2 d2=>o v2 G2 H2 (e.trans e2) d2
  | ex x=>exact fun o H2 s2=>o H2 (e.hh.trans s2)
  | stuck=>exact fun o=>o
 | ex x=>exact o
 | stuck=>exact o
theorem Md.start {v:V} {w:W} {d:Mode} (s:Same H H1) (h:Md K H0 H1 G2 H2 v w d):Md K H0 H G2 H2 v w d:=by
 cases d with
 | F=>
  cases w with
  | lst ws=>obtain ⟨a,vs,e,h1,h2,h3,r⟩:=h; exact ⟨a,vs,e,h1,h2,s.free h3,r⟩
  | _=>exact h
 | _=>exact h
theorem Md.move {v:V} {w:W} {d:Mode} (x:Ext G1 H1 G2 H2) (h:Md K H0 H G1 H1 v w d):Md K H0 H G2 H2 v w d:=by
 cases d with
 | V=>exact Rep.same x.gg h
 | U=>exact Rep.same (n9 x.gg) h
 | F=>
  cases w with
  | lst ws=>obtain ⟨a,vs,e,h1,h2,h3,r⟩:=h; exact ⟨a,vs,e,x.hh _ _ h1,x.keep _ _ h1 rfl h2,h3,r.same x.gg⟩
  | non=>exact Rep.same x.gg h
  | bl _=>exact Rep.same x.gg h
  | int _=>exact Rep.same x.gg h
  | str _=>exact Rep.same x.gg h
  | ty _=>exact Rep.same x.gg h
  | tup _=>exact Rep.same x.gg h
  | scr _=>exact Rep.same x.gg h
  | exc _ _=>exact Rep.same x.gg h
  | cls _=>exact Rep.same x.gg h
 | C=>
  rcases h with h | ⟨a,vs,ws,e,e2,h1,r⟩
  ·exact .inl (h.same x.gg)
  ·exact .inr ⟨a,vs,ws,e,e2,x.hh _ _ h1,r.same x.gg⟩
 | B=>
  rcases h with h | ⟨a,vs,ws,e,e2,h1,r⟩
  ·exact .inl (h.same (n9 x.gg))
  ·exact .inr ⟨a,vs,ws,e,e2,x.hh _ _ h1,r.same x.gg⟩
theorem Md.CB {v:V} {w:W} (I:PIv K H0 G1 ρ σ H1) (h:Md K H0 H G1 H1 v w .C):Md K H0 H G1 H1 v w .B:=by
 rcases h with h | h
 ·exact .inl (h.same I.G_join)
 ·exact .inr h
def sca:W->Bool
 | .tup _=>false
 | .scr _=>false
 | .lst _=>false
 | _=>true
theorem Md.sca {v:V} {w:W} (hs:sca w=true) (r:∀ F,Rep K F v w) (d:Mode):Md K H0 H G1 H1 v w d:=by
 cases d with
 | V=>exact r _
 | U=>exact r _
 | C=>exact .inl (r _)
 | B=>exact .inl (r _)
 | F=>cases w <;> first | exact r _ | cases hs
theorem Md.repB {v:V} {w:W} (h:Md K H0 H G1 H1 v w .B) (n:∀ us,w≠.lst us):Rep K (join H0 G1) v w:=Or.elim h id fun zz74=>by obtain ⟨_,_,us,_,e,_⟩:=zz74; exact absurd e (n us)
theorem Md.repC {v:V} {w:W} (h:Md K H0 H G1 H1 v w .C) (n:∀ us,w≠.lst us):Rep K G1 v w:=Or.elim h id fun zz75=>by obtain ⟨_,_,us,_,e,_⟩:=zz75; exact absurd e (n us)
theorem Md.lstB {v:V} {ws:List W} (I:PIv K H0 G1 ρ σ H1) (h:Md K H0 H G1 H1 v (.lst ws) .B):∃ a vs,v=.ref a/\H1 a=some (.lst vs)/\Reps K (join H0 G1) vs ws:=by
 rcases h with h | ⟨a,vs,us,e,e2,h1,r⟩
 ·obtain ⟨a,vs,e,s,r⟩:=h.inv; exact ⟨a,vs,e,I.join_H _ _ s,r⟩
 ·rw [W.lst.inj e2]; exact ⟨a,vs,e,h1,r.same I.G_join⟩
theorem Md.scrB {v:V} {ws:List W} (I:PIv K H0 G1 ρ σ H1) (h:Md K H0 H G1 H1 v (.scr ws) .B):∃ a vs,v=.ref a/\SqL K H1 a vs/\Reps K (join H0 G1) vs ws:=by
 obtain ⟨a,vs,e,s,r⟩:=(h.repB fun _=>W.noConfusion).inv; exact ⟨a,vs,e,Same.seq I.join_H s,r⟩
theorem Md.lstC {v:V} {ws:List W} (I:PIv K H0 G1 ρ σ H1) (h:Md K H0 H G1 H1 v (.lst ws) .C):∃ a vs,v=.ref a/\H1 a=some (.lst vs)/\Reps K G1 vs ws:=by
 rcases h with h | ⟨a,vs,us,e,e2,h1,r⟩
 ·obtain ⟨a,vs,e,s,r⟩:=h.inv; exact ⟨a,vs,e,I.gh _ _ s,r⟩
 ·rw [W.lst.inj e2]; exact ⟨a,vs,e,h1,r⟩
theorem Md.tupB {v:V} {ws:List W} (I:PIv K H0 G1 ρ σ H1) (h:Md K H0 H G1 H1 v (.tup ws) .B):∃ a vs,v=.ref a/\H1 a=some (.tup vs)/\Reps K (join H0 G1) vs ws:=by
 obtain ⟨a,vs,e,s,r⟩:=(h.repB fun _=>W.noConfusion).inv; exact ⟨a,vs,e,I.join_H _ _ s,r⟩
theorem Md.tupC {v:V} {ws:List W} (I:PIv K H0 G1 ρ σ H1) (h:Md K H0 H G1 H1 v (.tup ws) .C):∃ a vs,v=.ref a/\H1 a=some (.tup vs)/\Reps K G1 vs ws:=by
 obtain ⟨a,vs,e,s,r⟩:=(h.repC fun _=>W.noConfusion).inv; exact ⟨a,vs,e,I.gh _ _ s,r⟩
theorem Md.intB {v:V} {i:Int} (h:Md K H0 H G1 H1 v (.int i) .B):v=.int i:=(h.repB fun _=>W.noConfusion).inv
theorem Md.blB {v:V} {i:Bool} (h:Md K H0 H G1 H1 v (.bl i) .B):v=.bl i:=(h.repB fun _=>W.noConfusion).inv
theorem Md.strB {v:V} {i:Str} (h:Md K H0 H G1 H1 v (.str i) .B):v=.str i:=(h.repB fun _=>W.noConfusion).inv
theorem Md.nonB {v:V} (h:Md K H0 H G1 H1 v .non .B):v=.non:=(h.repB fun _=>W.noConfusion).inv
theorem Md.tyB {v:V} {n:String} (h:Md K H0 H G1 H1 v (.ty n) .B):v=.ty n:=(h.repB fun _=>W.noConfusion).inv
theorem vB {m:Rho->R W} {Q:VK} (h:tM K EX .V m σ H Q):tM K EX .F m σ H Q:=by
 obtain ⟨H0,G,ρ,I,o⟩:=h
 refine ⟨H0,G,ρ,I,?_⟩
 revert o
 cases m ρ with
 | ex e=>exact id
 | stuck=>exact id
 | ok w=>
  intro o v G' H' e d
  cases w with
  | lst ws=>
   obtain ⟨a,vs,rfl,h1,h2,h3,r⟩:=d
   have s1:Same G' (upd G' a (.lst vs)):=fun b o q=>by rw [b8 (c7 q h2)]; exact q
   refine o _ (upd G' a (.lst vs)) H' ⟨e.gg.trans s1,e.hh,fun b o q=>?_,fun b o q l g=>?_⟩ (.lst j6 (r.same s1))
   ·by_cases hb:b=a
    ·subst hb; rw [j6] at q; cases q; exact h1
    ·rw [b8 hb] at q; exact e.gh b o q
   ·rw [b8 (c7 q h3)]; exact e.keep b o q l g
  | _=>exact o v G' H' e d
theorem vz {m:Rho->R W} {Q:VK} (h:tM K EX .U m σ H Q):tM K EX .V m σ H Q:=by
 obtain ⟨H0,G,ρ,I,o⟩:=h
 refine ⟨H0,G,ρ,I,?_⟩
 revert o
 cases m ρ with
 | ex e=>exact id
 | stuck=>exact id
 | ok w=>exact fun o v G' H' e d=>o v G' H' e (Rep.same (I.ext e).G_join d)
theorem vA {m:Rho->R W} {Q:VK} (h:tM K EX .B m σ H Q):tM K EX .U m σ H Q:=by
 obtain ⟨H0,G,ρ,I,o⟩:=h
 refine ⟨H0,G,ρ,I,?_⟩
 revert o
 cases m ρ with
 | ex e=>exact id
 | stuck=>exact id
 | ok w=>exact fun o v G' H' e d=>o v G' H' e (.inl d)
theorem vD {m:Rho->R W} {Q:VK} (h:tM K EX .B m σ H Q):tM K EX .C m σ H Q:=by
 obtain ⟨H0,G,ρ,I,o⟩:=h
 refine ⟨H0,G,ρ,I,?_⟩
 revert o
 cases m ρ with
 | ex e=>exact id
 | stuck=>exact id
 | ok w=>exact fun o v G' H' e d=>o v G' H' e (Md.CB (H:=H) (I.ext e) d)
theorem vC {m:Rho->R W} {Q:VK} (h:tM K EX .C m σ H Q):tM K EX .F m σ H Q:=by
 obtain ⟨H0,G,ρ,I,o⟩:=h
 refine ⟨H0,G,ρ,I,?_⟩
 revert o
 cases m ρ with
 | ex e=>exact id
 | stuck=>exact id
 | ok w=>
  intro o v G' H' e d
  cases w with
  | lst ws=>obtain ⟨a,vs,rfl,h1,h2,h3,r⟩:=d; exact o _ G' H' e (.inr ⟨a,vs,ws,rfl,rfl,h1,r⟩)
  | _=>exact o v G' H' e (.inl d)
def chk (w:W):R W:=if noL w then .ok w else .stuck
theorem lJ {v:V} {w:W} (n:noL w=true) (r:Rep K G1 v w):Md K H0 H G1 H1 v w .F:=by
 cases w with
 | lst ws=>cases n
 | _=>exact r
theorem iE {m:Rho->R W} {Q:VK} {d:Mode} (hd:d=.F\/d=.V) (h:tM K EX d (fun ρ=>m ρ>>=chk) σ H Q):tM K EX .U m σ H Q:=by
 obtain ⟨H0,G,ρ,I,o⟩:=h
 refine ⟨H0,G,ρ,I,Out.bind o fun x G1 H1 w e m1 o1=>?_⟩
 unfold chk at o1
 by_cases n:noL w=true
 ·rw [if_pos n] at o1
  have r:=Rep.clean (I.ext e) m1 n
  refine o1 x G1 H1 (Ext.refl e.gh) ?_
  rcases hd with rfl | rfl
  ·exact lJ n r
  ·exact r
 ·rw [if_neg n] at o1; exact o1.elim
end
end TP
namespace TP
open PySem L2
section
variable {K:Frag} {EX:EXT} {H0 G H G1 H1 G2 H2:Hp} {ρ:Rho} {σ:St} {d:Mode} {Q:VK}
theorem Y7 {v:V} {w:W} (hs:sca w=true) (r:∀ F,Rep K F v w) (h:tM K EX d (fun _=>.ok w) σ H Q):tC v σ H Q:=by
 obtain ⟨H0,G,ρ,I,o⟩:=h
 exact o v G H (Ext.refl I.gh) (Md.sca hs r d)
def a9 (d:Mode) (i:Nat):Rho->R W:=fun ρ=>match ρ[i]? with
 | some (.val w)=>(match d with | .F=>chk w | _=>.ok w)
 | some (.par w)=>(match d with | .F=>chk w | .V=>chk w | .C=>chk w | _=>.ok w)
 | some (.own ws)=>(match d with | .C=>.ok (.lst ws) | .B=>.ok (.lst ws) | _=>.stuck)
 | some (.iop _ ws)=>(match d with | .B=>.ok (.lst ws) | .U=>.ok (.lst ws) | _=>.stuck)
 | some (.hz w)=>(match d with | .B=>.ok w | .U=>.ok w | _=>.stuck)
 | _=>.stuck
theorem Out.chk {α:Type} {v:V} {w:W} {md:W->α->Hp->Hp->Prop} {Q:α->Hp->Prop} (o:Out EX G H md (chk w) Q):noL w=true/\Out EX G H md (.ok w) Q:=by
 unfold TP.chk at o
 by_cases n:noL w=true
 ·rw [if_pos n] at o; exact ⟨n,o⟩
 ·rw [if_neg n] at o; exact o.elim
theorem mE {i:Nat} (h:tM K EX d (a9 d i) σ H Q):S3 i σ H Q:=by
 obtain ⟨H0,G,ρ,I,o⟩:=h
 unfold a9 at o
 cases e:ρ[i]? with
 | none=>rw [e] at o; exact o.elim
 | some s=>
  rw [e] at o
  have hi:i<σ.length:=by rw [<- I.len]; exact (List.getElem?_eq_some_iff.mp e).1
  have es:σ[i]?=some σ[i]:=by simp
  have r:=I.sl i s _ e es
  cases s with
  | un=>exact o.elim
  | val w=>
   obtain ⟨v,ev,r⟩:=r
   refine ⟨v,by rw [es,ev],?_⟩
   cases d with
   | F=>obtain ⟨n,o⟩:=Out.chk (v:=v) o; exact o v G H (Ext.refl I.gh) (lJ n r)
   | V=>exact o v G H (Ext.refl I.gh) r
   | U=>exact o v G H (Ext.refl I.gh) (r.same I.G_join)
   | C=>exact o v G H (Ext.refl I.gh) (.inl r)
   | B=>exact o v G H (Ext.refl I.gh) (.inl (r.same I.G_join))
  | par w=>
   obtain ⟨v,ev,r⟩:=r
   refine ⟨v,by rw [es,ev],?_⟩
   cases d with
   | F=>obtain ⟨n,o⟩:=Out.chk (v:=v) o; exact o v G H (Ext.refl I.gh) (lJ n (Rep.clean I r n))
   | V=>obtain ⟨n,o⟩:=Out.chk (v:=v) o; exact o v G H (Ext.refl I.gh) (Rep.clean I r n)
   | U=>exact o v G H (Ext.refl I.gh) r
   | C=>obtain ⟨n,o⟩:=Out.chk (v:=v) o; exact o v G H (Ext.refl I.gh) (.inl (Rep.clean I r n))
   | B=>exact o v G H (Ext.refl I.gh) (.inl r)
  | own ws=>
   obtain ⟨a,vs,ev,ha,hg,h0,r⟩:=r
   refine ⟨.ref a,by rw [es,ev],?_⟩
   cases d with
   | F=>exact o.elim
   | V=>exact o.elim
   | U=>exact o.elim
   | C=>exact o _ G H (Ext.refl I.gh) (.inr ⟨a,vs,ws,rfl,rfl,ha,r⟩)
   | B=>exact o _ G H (Ext.refl I.gh) (.inr ⟨a,vs,ws,rfl,rfl,ha,r⟩)
  | dic ks=>exact o.elim
  | dik ks=>exact o.elim
  | hz w=>
   obtain ⟨v,ev,r⟩:=r
   refine ⟨v,by rw [es,ev],?_⟩
   have rj:=r.same (n9 (H0:=H0) (rA (G:=G)))
   cases d with
   | F=>exact o.elim
   | V=>exact o.elim
   | C=>exact o.elim
   | U=>exact o v G H (Ext.refl I.gh) rj
   | B=>exact o v G H (Ext.refl I.gh) (.inl rj)
  | iop p ws=>
   obtain ⟨ev,vs,h0,r⟩:=r
   refine ⟨.ref p,by rw [es,ev],?_⟩
   have rj:Rep K (join H0 G) (.ref p) (.lst ws):=by
    refine .lst (vs:=vs) ?_ (r.same I.G_join)
    unfold join
    rw [h0]; rfl
   cases d with
   | F=>exact o.elim
   | V=>exact o.elim
   | U=>exact o _ G H (Ext.refl I.gh) rj
   | C=>exact o.elim
   | B=>exact o _ G H (Ext.refl I.gh) (.inl rj)
def Op2 (K:Frag) (b d:Mode) (r:R2) (f:W->W->R W):Prop:=∀ (EX:EXT) (H0 Hs G H:Hp) (ρ:Rho) (σ:St) (Ha Hb:Hp) (x y:V) (u v:W) (Q:VK),PIv K H0 G ρ σ H->Same Hs H->Md K H0 Ha G H x u b->Md K H0 Hb G H y v b ->
 Out EX G H (mdW K d H0 Hs) (f u v) Q->r x y H Q
theorem jd {b:Mode} {r:R2} {f:W->W->R W} {ma mb:Rho->R W} (hr:Op2 K b d r f) (h:tM K EX d (fun ρ=>ma ρ>>=fun x=>mb ρ>>=fun y=>f x y) σ H Q):tOp r (tM K EX b ma) (tM K EX b mb) σ H Q:=by
 obtain ⟨H0,G,ρ,I,o⟩:=h
 refine ⟨H0,G,ρ,I,Out.bind o fun x G1 H1 u e1 m1 o1=>⟨H0,G1,ρ,I.ext e1,Out.bind o1 fun y G2 H2 v e2 m2 o2=>?_⟩⟩
 exact hr EX H0 H G2 H2 ρ σ H H1 x y u v Q ((I.ext e1).ext e2) (e1.hh.trans e2.hh) (m1.move e2) m2 o2
def Op1 (K:Frag) (b d:Mode) (r:V->Hp->VK->Prop) (f:W->R W):Prop:=∀ (EX:EXT) (H0 Hs G H:Hp) (ρ:Rho) (σ:St) (Ha:Hp) (x:V) (u:W) (Q:VK),PIv K H0 G ρ σ H->Same Hs H->Md K H0 Ha G H x u b ->
 Out EX G H (mdW K d H0 Hs) (f u) Q->r x H Q
theorem c_un {b:Mode} {r:V->Hp->VK->Prop} {f:W->R W} {ma:Rho->R W} (hr:Op1 K b d r f) (h:tM K EX d (fun ρ=>ma ρ>>=fun x=>f x) σ H Q):tUn r (tM K EX b ma) σ H Q:=by
 obtain ⟨H0,G,ρ,I,o⟩:=h
 exact ⟨H0,G,ρ,I,Out.bind o fun x G1 H1 u e1 m1 o1=>hr EX H0 H G1 H1 ρ σ H x u Q (I.ext e1) e1.hh m1 o1⟩
def fI (C:Int->Int->Prop) [∀ i j,Decidable (C i j)] (g:Int->Int->W):W->W->R W
 | .int i,.int j=>if C i j then .ok (g i j) else .stuck
 | _,_=>.stuck
def fI0 (g:Int->Int->W):W->W->R W
 | .int i,.int j=>.ok (g i j)
 | _,_=>.stuck
theorem x8 {C:Int->Int->Prop} [∀ i j,Decidable (C i j)] {g:Int->Int->W} {gv:Int->Int->V} (hs:∀ i j,sca (g i j)=true) (hg:∀ i j F,Rep K F (gv i j) (g i j)):Op2 K .B d (rI C gv) (fI C g):=by
 intro EX H0 Hs G H ρ σ Ha Hb x y u v Q I s mx my o
 cases u <;> first | exact o.elim | skip
 all_goals (cases v <;> first | exact o.elim | skip)
 rename_i i j
 have o':Out EX G H (mdW K d H0 Hs) (if C i j then R.ok (g i j) else .stuck) Q:=o
 by_cases c:C i j
 ·rw [if_pos c] at o'
  exact ⟨i,j,mx.intB,my.intB,c,o' _ G H (Ext.refl I.gh) (Md.sca (hs i j) (hg i j) d)⟩
 ·rw [if_neg c] at o'; exact o'.elim
theorem bH {g:Int->Int->W} {gv:Int->Int->V} (hs:∀ i j,sca (g i j)=true) (hg:∀ i j F,Rep K F (gv i j) (g i j)):Op2 K .B d (rI0 gv) (fI0 g):=by
 intro EX H0 Hs G H ρ σ Ha Hb x y u v Q I s mx my o
 cases u <;> first | exact o.elim | skip
 all_goals (cases v <;> first | exact o.elim | skip)
 rename_i i j
 exact ⟨i,j,mx.intB,my.intB,o _ G H (Ext.refl I.gh) (Md.sca (hs i j) (hg i j) d)⟩
def fU (g:Int->W):W->R W
 | .int i=>.ok (g i)
 | _=>.stuck
theorem lG {g:Int->W} {gv:Int->V} (hs:∀ i,sca (g i)=true) (hg:∀ i F,Rep K F (gv i) (g i)):Op1 K .B d (rU gv) (fU g):=by
 intro EX H0 Hs G H ρ σ Ha x u Q I s mx o
 cases u <;> first | exact o.elim | skip
 rename_i i
 exact ⟨i,mx.intB,o _ G H (Ext.refl I.gh) (Md.sca (hs i) (hg i) d)⟩
def isN:W->Bool
 | .non=>true
 | _=>false
def M6 (neg:Bool):W->W->R W
 | u,.non=>.ok (.bl (if neg then !isN u else isN u))
 | _,_=>.stuck
theorem oP {b:Mode} (hb:b=.B\/b=.U\/b=.V\/b=.C) {v:V} {w:W} {Hs:Hp} (h:Md K H0 Hs G1 H1 v w b):decide (v=.non)=isN w:=by
 have key:∀ F,Rep K F v w->decide (v=.non)=isN w:=fun F r=>by
  cases r <;> first | rfl | (apply decide_eq_false; intro z; cases z)
 rcases hb with rfl | rfl | rfl | rfl
 ·rcases h with h | ⟨a,vs,ws,rfl,rfl,_⟩
  ·exact key _ h
  ·apply decide_eq_false; intro z; cases z
 ·exact key _ h
 ·exact key _ h
 ·rcases h with h | ⟨a,vs,ws,rfl,rfl,_⟩
  ·exact key _ h
  ·apply decide_eq_false; intro z; cases z
theorem T6:Op2 K .B d (fun x y H Q=>y=.non/\Q (.bl (decide (x=.non))) H) (M6 false):=by
 intro EX H0 Hs G H ρ σ Ha Hb x y u v Q I s mx my o
 cases v <;> first | exact o.elim | skip
 refine ⟨my.nonB,?_⟩
 rw [oP (.inl rfl) mx]
 exact o _ G H (Ext.refl I.gh) (Md.sca rfl (fun _=>.bl) d)
theorem eQ:Op2 K .B d (fun x y H Q=>y=.non/\Q (.bl (!decide (x=.non))) H) (M6 true):=by
 intro EX H0 Hs G H ρ σ Ha Hb x y u v Q I s mx my o
 cases v <;> first | exact o.elim | skip
 refine ⟨my.nonB,?_⟩
 rw [oP (.inl rfl) mx]
 exact o _ G H (Ext.refl I.gh) (Md.sca rfl (fun _=>.bl) d)
def toB:W->R Bool
 | .bl b=>.ok b
 | _=>.stuck
theorem jc {ma:Rho->R W} {Q:Bool->Hp->Prop} (h:tT K EX (fun ρ=>ma ρ>>=toB) σ H Q):kQ (tM K EX .B ma) σ H Q:=by
 obtain ⟨H0,G,ρ,I,o⟩:=h
 refine ⟨H0,G,ρ,I,Out.bind o fun x G1 H1 u e1 m1 o1=>?_⟩
 cases u <;> first | exact o1.elim | skip
 rename_i b
 exact ⟨b,m1.blB,o1 b G1 H1 (Ext.refl e1.gh) rfl⟩
theorem c_tB {ma:Rho->R W} {Q:Bool->Hp->Prop} (h:tT K EX (fun ρ=>ma ρ>>=toB) σ H Q):tB (tM K EX .B ma) σ H Q:=jc h
def rAnd (a b:R Bool):R Bool:=a>>=fun c=>if c then b else .ok false
def rOr (a b:R Bool):R Bool:=a>>=fun c=>if c then .ok true else b
def lq (a:R Bool):R Bool:=a>>=fun c=>.ok (!c)
theorem DN {ma mb:Rho->R Bool} {Q:Bool->Hp->Prop} (h:tT K EX (fun ρ=>rAnd (ma ρ) (mb ρ)) σ H Q):xH (tT K EX ma) (tT K EX mb) σ H Q:=by
 obtain ⟨H0,G,ρ,I,o⟩:=h
 refine ⟨H0,G,ρ,I,Out.bind o fun x G1 H1 u e1 m1 o1=>?_⟩
 cases m1
 cases x with
 | true=>exact ⟨H0,G1,ρ,I.ext e1,o1⟩
 | false=>exact o1 false G1 H1 (Ext.refl e1.gh) rfl
theorem c_or {ma mb:Rho->R Bool} {Q:Bool->Hp->Prop} (h:tT K EX (fun ρ=>rOr (ma ρ) (mb ρ)) σ H Q):tOr (tT K EX ma) (tT K EX mb) σ H Q:=by
 obtain ⟨H0,G,ρ,I,o⟩:=h
 refine ⟨H0,G,ρ,I,Out.bind o fun x G1 H1 u e1 m1 o1=>?_⟩
 cases m1
 cases x with
 | true=>exact o1 true G1 H1 (Ext.refl e1.gh) rfl
 | false=>exact ⟨H0,G1,ρ,I.ext e1,o1⟩
theorem DB {ma:Rho->R Bool} {Q:Bool->Hp->Prop} (h:tT K EX (fun ρ=>lq (ma ρ)) σ H Q):xB (tT K EX ma) σ H Q:=by
 obtain ⟨H0,G,ρ,I,o⟩:=h
 refine ⟨H0,G,ρ,I,Out.bind o fun x G1 H1 u e1 m1 o1=>?_⟩
 cases m1
 exact o1 _ G1 H1 (Ext.refl e1.gh) rfl
def db (a b:R W):R W:=a>>=fun x=>toB x>>=fun c=>if c then b else .ok (.bl false)
def eJ (a b:R W):R W:=a>>=fun x=>toB x>>=fun c=>if c then .ok (.bl true) else b
def ln (a:R W):R W:=a>>=fun x=>toB x>>=fun c=>.ok (.bl (!c))
theorem Dz {ma mb:Rho->R W} (h:tM K EX d (fun ρ=>eJ (ma ρ) (mb ρ)) σ H Q):xA (tM K EX .B ma) (tM K EX d mb) σ H Q:=by
 obtain ⟨H0,G,ρ,I,o⟩:=h
 refine ⟨H0,G,ρ,I,Out.bind o fun x G1 H1 u e1 m1 o1=>?_⟩
 cases u <;> first | exact o1.elim | skip
 rename_i b
 refine ⟨b,m1.blB,?_⟩
 cases b with
 | false=>
  rw [if_neg Bool.false_ne_true]
  refine ⟨H0,G1,ρ,I.ext e1,?_⟩
  have o2:Out EX G1 H1 (mdW K d H0 H) (mb ρ) Q:=o1
  revert o2
  cases mb ρ with
  | ok w=>exact fun o2 v G2 H2 e2 m2=>o2 v G2 H2 e2 (m2.start e1.hh)
  | ex _=>exact id
  | stuck=>exact id
 | true=>
  rw [if_pos rfl]
  exact o1 _ G1 H1 (Ext.refl e1.gh) (Md.sca rfl (fun _=>.bl) d)
theorem Out.restart {r:R W} (s:Same H H1) (o:Out EX G1 H1 (mdW K d H0 H) r Q):Out EX G1 H1 (mdW K d H0 H1) r Q:=by
 revert o
 cases r with
 | ok w=>exact fun o v G2 H2 e2 m2=>o v G2 H2 e2 (m2.start s)
 | ex _=>exact id
 | stuck=>exact id
theorem c_if {mc:Rho->R Bool} {ma mb:Rho->R W} (h:tM K EX d (fun ρ=>mc ρ>>=fun c=>if c then ma ρ else mb ρ) σ H Q):tIf (tT K EX mc) (tM K EX d ma) (tM K EX d mb) σ H Q:=by
 obtain ⟨H0,G,ρ,I,o⟩:=h
 refine ⟨H0,G,ρ,I,Out.bind o fun x G1 H1 u e1 m1 o1=>?_⟩
 cases m1
 cases x with
 | true=>exact ⟨H0,G1,ρ,I.ext e1,Out.restart e1.hh o1⟩
 | false=>exact ⟨H0,G1,ρ,I.ext e1,Out.restart e1.hh o1⟩
theorem wO {b:Mode} {r r':R2} {f f':W->W->R W} {ma mb mc:Rho->R W} (hr:Op2 K b .B r f) (Jv:Op2 K b d r' f')
  (h:tM K EX d (fun ρ=>ma ρ>>=fun x=>mb ρ>>=fun y=>f x y>>=fun z=>toB z>>=fun c=>if c then mc ρ>>=fun u=>f' y u else .ok (.bl false)) σ H Q) :
  (fun σ H Q=>tM K EX b ma σ H fun x H1=>tM K EX b mb σ H1 fun y H2=>r x y H2 fun z H3=>∃ k,z=.bl k/\if k=true then tM K EX b mc σ H3 fun u H4=>r' y u H4 Q else Q (.bl false) H3) σ H Q:=by
 obtain ⟨H0,G,ρ,I,o⟩:=h
 refine ⟨H0,G,ρ,I,Out.bind o fun x G1 H1 u e1 m1 o1=>⟨H0,G1,ρ,I.ext e1,Out.bind o1 fun y G2 H2 v e2 m2 o2=>?_⟩⟩
 have I2:=(I.ext e1).ext e2
 refine hr EX H0 H G2 H2 ρ σ H H1 x y u v _ I2 (e1.hh.trans e2.hh) (m1.move e2) m2 (Out.bind o2 fun z G3 H3 wz e3 m3 o3=>?_)
 cases wz <;> first | exact o3.elim | skip
 rename_i k
 refine ⟨k,m3.blB,?_⟩
 cases k with
 | true=>
  rw [if_pos rfl]
  refine ⟨H0,G3,ρ,I2.ext e3,Out.bind (k:=fun u=>f' v u) o3 fun t G4 H4 wt e4 m4 o4=>?_⟩
  exact Jv EX H0 H G4 H4 ρ σ H1 H3 y t v wt Q ((I2.ext e3).ext e4) (((e1.hh.trans e2.hh).trans e3.hh).trans e4.hh) ((m2.move e3).move e4) m4 o4
 | false=>
  rw [if_neg Bool.false_ne_true]
  exact o3 _ G3 H3 (Ext.refl e3.gh) (Md.sca rfl (fun _=>.bl) d)
theorem DC {QA:List V->Hp->Prop} (h:tA K EX d (fun _=>.ok []) σ H QA):tNil σ H QA:=by
 obtain ⟨H0,G,ρ,I,o⟩:=h
 exact o [] G H (Ext.refl I.gh) .nil
theorem BT {ma:Rho->R W} {mr:Rho->R (List W)} {QA:List V->Hp->Prop} (h:tA K EX d (fun ρ=>ma ρ>>=fun x=>mr ρ>>=fun xs=>.ok (x::xs)) σ H QA):V3 (tM K EX d ma) (tA K EX d mr) σ H QA:=by
 obtain ⟨H0,G,ρ,I,o⟩:=h
 refine ⟨H0,G,ρ,I,Out.bind o fun x G1 H1 u e1 m1 o1=>⟨H0,G1,ρ,I.ext e1,Out.bind o1 fun xs G2 H2 us e2 m2 o2=>?_⟩⟩
 refine o2 (x::xs) G2 H2 (Ext.refl e2.gh) (.cons (m1.move e2) ?_)
 have go:∀ {ws:List W} {vs:List V},MdA K d H0 H1 G2 H2 ws vs->MdA K d H0 H G2 H2 ws vs:=fun {ws vs} q=>by
  induction q with
  | nil=>exact .nil
  | cons a _ ih=>exact .cons (a.start e1.hh) ih
 exact go m2
theorem MdA.reps {ws:List W} {vs:List V} (h:MdA K .V H0 H G1 H1 ws vs):Reps K G1 vs ws:=
 @MdA.rec K .V H0 H G1 H1 (fun ws vs _=>Reps K G1 vs ws) .nil (fun h _ b=>.cons h b) ws vs h
theorem MdA.repsU {ws:List W} {vs:List V} (h:MdA K .U H0 H G1 H1 ws vs):Reps K (join H0 G1) vs ws:=
 @MdA.rec K .U H0 H G1 H1 (fun ws vs _=>Reps K (join H0 G1) vs ws) .nil (fun h _ b=>.cons h b) ws vs h
theorem vy {p:Addr} {o:HO} (hG:Same G H) (hp:H p=none):Ext G H G (upd H p o):=
 ⟨Same.refl G,fun b u q=>by rw [b8 (c7 q hp)]; exact q,fun b u q=>by rw [b8 (c7 (hG b u q) hp)]; exact hG b u q,fun _ _ _ _ e=>e⟩
theorem cM {p:Addr} {o:HO} (hG:Same G H) (hp:H p=none):Ext G H (upd G p o) (upd H p o):=by
 have gp:G p=none:=hG.free hp
 refine ⟨fun b u q=>by rw [b8 (c7 q gp)]; exact q,fun b u q=>by rw [b8 (c7 q hp)]; exact q,fun b u q=>?_,fun b u q l g=>?_⟩
 ·by_cases hb:b=p
  ·subst hb; rw [j6] at q ⊢; exact q
  ·rw [b8 hb] at q ⊢; exact hG b u q
 ·rw [b8 (c7 q hp)]; exact g
theorem Out.newL {p:Addr} {vs:List V} {ws:List W} {Hs:Hp} (I:PIv K H0 G ρ σ H) (s:Same Hs H) (r:Reps K G vs ws) (hp:H p=none) (o:Out EX G H (mdW K .F H0 Hs) (.ok (.lst ws)) Q):Q (.ref p) (upd H p (.lst vs)):=
 o _ G _ (vy I.gh hp) ⟨p,vs,rfl,j6,I.gh.free hp,s.free hp,r⟩
theorem Out.newTF {p:Addr} {vs:List V} {ws:List W} {Hs:Hp} (I:PIv K H0 G ρ σ H) (r:Reps K G vs ws) (hp:H p=none) (o:Out EX G H (mdW K .F H0 Hs) (.ok (.tup ws)) Q):Q (.ref p) (upd H p (.tup vs)):=
 o _ (upd G p (.tup vs)) _ (cM I.gh hp) (.tup j6 (r.same fun b u q=>by rw [b8 (c7 q (I.gh.free hp))]; exact q))
def lim (n:Nat) (w:W):R W:=if n<=1000 then .ok w else .stuck
theorem Out.lim {α:Type} {n:Nat} {w:W} {md:W->α->Hp->Hp->Prop} {Q:α->Hp->Prop} (o:Out EX G H md (lim n w) Q):n<=1000/\Out EX G H md (.ok w) Q:=by
 unfold TP.lim at o
 by_cases n:n<=1000
 ·rw [if_pos n] at o; exact ⟨n,o⟩
 ·rw [if_neg n] at o; exact o.elim
theorem X7 {n:Nat} (h:n<=1000):n<=sizeLine:=Nat.le_trans h (by decide)
theorem Du {ma:Rho->R (List W)} (h:tM K EX .F (fun ρ=>ma ρ>>=fun ws=>lim ws.length (.tup ws)) σ H Q):qm (tA K EX .V ma) σ H Q:=by
 obtain ⟨H0,G,ρ,I,o⟩:=h
 refine ⟨H0,G,ρ,I,Out.bind o fun xs G1 H1 ws e1 m1 o1=>?_⟩
 obtain ⟨hl,o2⟩:=Out.lim o1
 have r:=MdA.reps m1
 exact ⟨by rw [r.length]; exact X7 hl,fun p hp=>Out.newTF (I.ext e1) r hp o2⟩
theorem DD {ma:Rho->R (List W)} (h:tM K EX .F (fun ρ=>ma ρ>>=fun ws=>lim ws.length (.lst ws)) σ H Q):xC (tA K EX .V ma) σ H Q:=by
 obtain ⟨H0,G,ρ,I,o⟩:=h
 refine ⟨H0,G,ρ,I,Out.bind o fun xs G1 H1 ws e1 m1 o1=>?_⟩
 obtain ⟨hl,o2⟩:=Out.lim o1
 have r:=MdA.reps m1
 exact ⟨by rw [r.length]; exact X7 hl,fun p hp=>Out.newL (I.ext e1) e1.hh r hp o2⟩
theorem iV {p:Addr} {o:HO} (h:H0 p=none):join H0 (upd G p o)=upd (join H0 G) p o:=by
 funext b
 by_cases hb:b=p
 ·subst hb; unfold join; rw [h]; dsimp only; rw [j6,j6]
 ·rw [b8 hb]; unfold join; cases H0 b with
  | none=>dsimp only; rw [b8 hb]
  | some u=>dsimp only; rw [b8 hb]
theorem BK {ma:Rho->R (List W)} (h:tM K EX .U (fun ρ=>ma ρ>>=fun ws=>lim ws.length (.tup ws)) σ H Q):qm (tA K EX .U ma) σ H Q:=by
 obtain ⟨H0,G,ρ,I,o⟩:=h
 refine ⟨H0,G,ρ,I,Out.bind o fun xs G1 H1 ws e1 m1 o1=>?_⟩
 obtain ⟨hl,o2⟩:=Out.lim o1
 have r:=MdA.repsU m1
 have I1:=I.ext e1
 refine ⟨by rw [r.length]; exact X7 hl,fun p hp=>o2 _ (upd G1 p (.tup xs)) _ (cM I1.gh hp) ?_⟩
 show Rep K (join H0 (upd G1 p (.tup xs))) _ _
 rw [iV (I1.hh.free hp)]
 exact .tup j6 (r.same fun b u q=>by rw [b8 (c7 (I1.join_H b u q) hp)]; exact q)
end
end TP
namespace TP
open PySem L2
inductive Fl where
 | nx (ρ:Rho) | rt (w:W) | bk (ρ:Rho) | ct (ρ:Rho)
def OutS (K:Frag) (EX:EXT) (d:Mode) (H0 G:Hp) (r:R Fl) (D:Ends):Prop:=match r with
 | .ok (.nx ρ)=>∀ G' σ' H',Same G G'->PIv K H0 G' ρ σ' H'->D.nx σ' H'
 | .ok (.bk ρ)=>∀ G' σ' H',Same G G'->PIv K H0 G' ρ σ' H'->D.bk σ' H'
 | .ok (.ct ρ)=>∀ G' σ' H',Same G G'->PIv K H0 G' ρ σ' H'->D.ct σ' H'
 | .ok (.rt w)=>∀ v G' H',Same G G'->Same G' H'->Same H0 H'->(∀ a o,H0 a=some o->isL o=true->G' a=none)->Md K H0 H0 G' H' v w d->D.rt v H'
 | .ex e=>∀ H',Same H0 H'->EX e H'
 | .stuck=>False
def tSt (K:Frag) (EX:EXT) (d:Mode) (m:Rho->R Fl):TS:=fun D σ H=>∃ H0 G ρ,PIv K H0 G ρ σ H/\OutS K EX d H0 G (m ρ) D
section
variable {K:Frag} {EX:EXT} {H0 G H G1 H1 G2 H2:Hp} {ρ:Rho} {σ:St} {d:Mode} {D:Ends}
theorem OutS.move {r:R Fl} (s:Same G G1) (o:OutS K EX d H0 G r D):OutS K EX d H0 G1 r D:=by
 cases r with
 | stuck=>exact o
 | ex e=>exact o
 | ok f=>
  cases f with
  | nx ρ'=>exact fun G' σ' H' s' I'=>o G' σ' H' (s.trans s') I'
  | bk ρ'=>exact fun G' σ' H' s' I'=>o G' σ' H' (s.trans s') I'
  | ct ρ'=>exact fun G' σ' H' s' I'=>o G' σ' H' (s.trans s') I'
  | rt w=>exact fun v G' H' s0 s1 s2 c md=>o v G' H' (s.trans s0) s1 s2 c md
theorem OutS.bind {α β:Type} {md:α->β->Hp->Hp->Prop} {m:R α} {k:α->R Fl} {Q1:β->Hp->Prop} (I:PIv K H0 G ρ σ H) (o:OutS K EX d H0 G (m>>=k) D)
  (h:∀ x G1 H1 w,Ext G H G1 H1->md w x G1 H1->OutS K EX d H0 G1 (k w) D->Q1 x H1):Out EX G H md m Q1:=by
 cases m with
 | ok w=>exact fun v G' H' e q=>h v G' H' w e q (OutS.move e.gg o)
 | ex e=>exact fun H' s=>o H' (I.hh.trans s)
 | stuck=>exact o
def c8 (m n:Rho->R Fl):Rho->R Fl:=fun ρ=>m ρ>>=fun f=>match f with
 | .nx ρ'=>n ρ'
 | .rt w=>.ok (.rt w)
 | .bk ρ'=>.ok (.bk ρ')
 | .ct ρ'=>.ok (.ct ρ')
theorem BR (h:tSt K EX d (fun ρ=>.ok (.nx ρ)) D σ H):tNext D σ H:=by
 obtain ⟨H0,G,ρ,I,o⟩:=h
 exact o G σ H (Same.refl G) I
theorem Dw {m n:Rho->R Fl} (h:tSt K EX d (c8 m n) D σ H):qo (tSt K EX d m) (tSt K EX d n) D σ H:=by
 obtain ⟨H0,G,ρ,I,o⟩:=h
 refine ⟨H0,G,ρ,I,?_⟩
 unfold c8 at o
 revert o
 cases m ρ with
 | stuck=>exact id
 | ex e=>exact id
 | ok f=>
  cases f with
  | nx ρ'=>exact fun o G' σ' H' s' I'=>⟨H0,G',ρ',I',OutS.move s' o⟩
  | _=>exact id
theorem wN (h:tSt K EX d (fun _=>.stuck) D σ H):tNever D σ H:=by
 obtain ⟨H0,G,ρ,I,o⟩:=h
 exact o
theorem tU {m:Rho->R W} (h:tSt K EX d (fun ρ=>m ρ>>=fun w=>.ok (.rt w)) D σ H):kR (tM K EX d m) D σ H:=by
 obtain ⟨H0,G,ρ,I,o⟩:=h
 refine ⟨H0,G,ρ,I,OutS.bind I o fun x G1 H1 w e1 m1 o1=>?_⟩
 have I1:=I.ext e1
 exact o1 x G1 H1 (Same.refl _) e1.gh I1.hh I1.gl (m1.start I.hh)
def t8 (d:Mode) (i:Nat):Rho->R Fl:=fun ρ=>match ρ[i]? with
 | some (.own ws)=>.ok (.rt (.lst ws))
 | _=>a9 d i ρ>>=fun w=>.ok (.rt w)
theorem sJ {i:Nat} (hd:d=.F\/d=.V) (h:tSt K EX d (t8 d i) D σ H):kR (S3 i) D σ H:=by
 obtain ⟨H0,G,ρ,I,o⟩:=h
 unfold t8 at o
 by_cases ho:∃ ws,ρ[i]?=some (.own ws)
 ·obtain ⟨ws,e⟩:=ho
  rw [e] at o
  have hi:i<σ.length:=by rw [<- I.len]; exact (List.getElem?_eq_some_iff.mp e).1
  have es:σ[i]?=some σ[i]:=by simp
  obtain ⟨a,vs,ev,ha,hg,h0,r⟩:=I.sl i _ _ e es
  refine ⟨.ref a,by rw [es,ev],?_⟩
  rcases hd with rfl | rfl
  ·exact o _ G H (Same.refl _) I.gh I.hh I.gl ⟨a,vs,rfl,ha,hg,h0,r⟩
  ·have s1:Same G (upd G a (.lst vs)):=fun b o q=>by rw [b8 (c7 q hg)]; exact q
   refine o _ (upd G a (.lst vs)) H s1 (fun b o q=>?_) I.hh (fun b u q l=>?_) (.lst j6 (r.same s1))
   ·by_cases hb:b=a
    ·subst hb; rw [j6] at q; cases q; exact ha
    ·rw [b8 hb] at q; exact I.gh b o q
   ·rw [b8 (c7 q h0)]; exact I.gl b u q l
 ·have o':OutS K EX d H0 G (a9 d i ρ>>=fun w=>.ok (.rt w)) D:=by
   revert o
   split
   ·rename_i ws e; exact absurd ⟨ws,e⟩ ho
   ·exact id
  have c:kR (tM K EX d (a9 d i)) D σ H:=tU (m:=a9 d i) ⟨H0,G,ρ,I,o'⟩
  exact mE c
theorem PIv.setV {i:Nat} {v:V} {w:W} (I:PIv K H0 G ρ σ H) (r:Rep K G v w):PIv K H0 G (ρ.set i (.val w)) (σ.set i (some v)) H where
 g0:=I.g0
 gl:=I.gl
 gh:=I.gh
 hh:=I.hh
 len:=by rw [List.length_set,List.length_set]; exact I.len
 sl j x o h1 h2:=by
  by_cases hj:i=j
  ·subst hj
   rw [List.getElem?_set] at h1 h2
   simp only [if_true] at h1 h2
   split at h1 <;> split at h2 <;> simp only [Option.some.injEq,reduceCtorEq] at h1 h2
   subst h1; subst h2
   exact ⟨v,rfl,r⟩
  ·rw [List.getElem?_set_ne hj] at h1 h2; exact I.sl j x o h1 h2
 ne a b ws us c EU h1 h2 h3 h4:=by
  have na:i≠a:=by
   rintro rfl
   rw [List.getElem?_set] at h1
   simp only [if_true] at h1
   split at h1 <;> simp at h1
  have nb:i≠b:=by
   rintro rfl
   rw [List.getElem?_set] at h2
   simp only [if_true] at h2
   split at h2 <;> simp at h2
  rw [List.getElem?_set_ne na] at h1 h3
  rw [List.getElem?_set_ne nb] at h2 h4
  exact I.ne a b ws us c EU h1 h2 h3 h4
theorem PIv.setU {i:Nat} {v:V} {w:W} (I:PIv K H0 G ρ σ H) (r:Rep K (join H0 G) v w):PIv K H0 G (ρ.set i (.par w)) (σ.set i (some v)) H where
 g0:=I.g0
 gl:=I.gl
 gh:=I.gh
 hh:=I.hh
 len:=by rw [List.length_set,List.length_set]; exact I.len
 sl j x o h1 h2:=by
  by_cases hj:i=j
  ·subst hj
   rw [List.getElem?_set] at h1 h2
   simp only [if_true] at h1 h2
   split at h1 <;> split at h2 <;> simp only [Option.some.injEq,reduceCtorEq] at h1 h2
   subst h1; subst h2
   exact ⟨v,rfl,r⟩
  ·rw [List.getElem?_set_ne hj] at h1 h2; exact I.sl j x o h1 h2
 ne a b ws us c EU h1 h2 h3 h4:=by
  have na:i≠a:=by
   rintro rfl
   rw [List.getElem?_set] at h1
   simp only [if_true] at h1
   split at h1 <;> simp at h1
  have nb:i≠b:=by
   rintro rfl
   rw [List.getElem?_set] at h2
   simp only [if_true] at h2
   split at h2 <;> simp at h2
  rw [List.getElem?_set_ne na] at h1 h3
  rw [List.getElem?_set_ne nb] at h2 h4
  exact I.ne a b ws us c EU h1 h2 h3 h4
theorem PIv.setO {i:Nat} {a:Addr} {vs:List V} {ws:List W} (I:PIv K H0 G ρ σ H) (ha:H a=some (.lst vs)) (hg:G a=none) (h0:H0 a=none) (r:Reps K G vs ws)
  (nw:∀ (j:Nat) (us:List W),ρ[j]?=some (Sl.own us)->σ[j]?≠some (some (V.ref a))):PIv K H0 G (ρ.set i (.own ws)) (σ.set i (some (.ref a))) H where
 g0:=I.g0
 gl:=I.gl
 gh:=I.gh
 hh:=I.hh
 len:=by rw [List.length_set,List.length_set]; exact I.len
 sl j x o h1 h2:=by
  by_cases hj:i=j
  ·subst hj
   rw [List.getElem?_set] at h1 h2
   simp only [if_true] at h1 h2
   split at h1 <;> split at h2 <;> simp only [Option.some.injEq,reduceCtorEq] at h1 h2
   subst h1; subst h2
   exact ⟨a,vs,rfl,ha,hg,h0,r⟩
  ·rw [List.getElem?_set_ne hj] at h1 h2; exact I.sl j x o h1 h2
 ne p q Hf us c EU h1 h2 h3 h4:=by
  by_cases hp:i=p
  ·subst hp
   rw [List.getElem?_set_ne EU] at h2 h4
   rw [List.getElem?_set] at h3
   simp only [if_true] at h3
   split at h3 <;> simp only [Option.some.injEq,reduceCtorEq,V.ref.injEq] at h3
   subst h3
   exact nw q us h2 h4
  ·rw [List.getElem?_set_ne hp] at h1 h3
   by_cases hq:i=q
   ·subst hq
    rw [List.getElem?_set] at h4
    simp only [if_true] at h4
    split at h4 <;> simp only [Option.some.injEq,reduceCtorEq,V.ref.injEq] at h4
    subst h4
    exact nw p Hf h1 h3
   ·rw [List.getElem?_set_ne hq] at h2 h4
    exact I.ne p q Hf us c EU h1 h2 h3 h4
def N7:W->Sl
 | .lst ws=>.own ws
 | w=>.val w
theorem BL {i:Nat} {m:Rho->R W} (h:tSt K EX d (fun ρ=>m ρ>>=fun w=>.ok (.nx (ρ.set i (.val w)))) D σ H):Z4 (tM K EX .V m) (L0 i) D σ H:=by
 obtain ⟨H0,G,ρ,I,o⟩:=h
 exact ⟨H0,G,ρ,I,OutS.bind I o fun x G1 H1 w e1 m1 o1=>o1 G1 _ H1 (Same.refl _) ((I.ext e1).setV m1)⟩
theorem BM {i:Nat} {m:Rho->R W} (h:tSt K EX d (fun ρ=>m ρ>>=fun w=>.ok (.nx (ρ.set i (.par w)))) D σ H):Z4 (tM K EX .U m) (L0 i) D σ H:=by
 obtain ⟨H0,G,ρ,I,o⟩:=h
 exact ⟨H0,G,ρ,I,OutS.bind I o fun x G1 H1 w e1 m1 o1=>o1 G1 _ H1 (Same.refl _) ((I.ext e1).setU m1)⟩
theorem pH {i:Nat} {m:Rho->R W} (h:tSt K EX d (fun ρ=>m ρ>>=fun w=>.ok (.nx (ρ.set i (N7 w)))) D σ H):Z4 (tM K EX .F m) (L0 i) D σ H:=by
 obtain ⟨H0,G,ρ,I,o⟩:=h
 refine ⟨H0,G,ρ,I,OutS.bind I o fun x G1 H1 w e1 m1 o1=>?_⟩
 have I1:=I.ext e1
 cases w with
 | lst ws=>
  obtain ⟨a,vs,rfl,h1,h2,h3,r⟩:=m1
  refine o1 G1 _ H1 (Same.refl _) (I1.setO h1 h2 (I.hh.free h3) r fun j us q z=>?_)
  obtain ⟨b,Fd,eb,hb,_⟩:=I.sl j _ _ q z
  cases eb
  rw [h3] at hb; cases hb
 | non=>exact o1 G1 _ H1 (Same.refl _) (I1.setV m1)
 | bl _=>exact o1 G1 _ H1 (Same.refl _) (I1.setV m1)
 | int _=>exact o1 G1 _ H1 (Same.refl _) (I1.setV m1)
 | str _=>exact o1 G1 _ H1 (Same.refl _) (I1.setV m1)
 | ty _=>exact o1 G1 _ H1 (Same.refl _) (I1.setV m1)
 | tup _=>exact o1 G1 _ H1 (Same.refl _) (I1.setV m1)
 | scr _=>exact o1 G1 _ H1 (Same.refl _) (I1.setV m1)
 | exc _ _=>exact o1 G1 _ H1 (Same.refl _) (I1.setV m1)
 | cls _=>exact o1 G1 _ H1 (Same.refl _) (I1.setV m1)
instance:DecidableEq Mode:=fun a b=>by cases a <;> cases b <;> first | exact isTrue rfl | exact isFalse (by intro h; cases h)
def Gt (K:Frag) (e:Mode) (g:TG) (mg:W->Rho->Option Rho):Prop:=∀ (H0 Hs G:Hp) (ρ:Rho) (σ:St) (H:Hp) (v:V) (w:W) (ρ':Rho) (Q:St->Hp->Prop),PIv K H0 G ρ σ H->Md K H0 Hs G H v w e->mg w ρ=some ρ' ->
 (∀ σ',PIv K H0 G ρ' σ' H->Q σ' H)->g v σ H Q
def Gts (K:Frag) (e:Mode) (g:TGs) (mg:List W->Rho->Option Rho):Prop:=∀ (H0 G:Hp) (ρ:Rho) (σ:St) (H:Hp) (vs:List V) (ws:List W) (ρ':Rho) (Q:St->Hp->Prop),PIv K H0 G ρ σ H->Reps K (if e=.V then G else join H0 G) vs ws->mg ws ρ=some ρ' ->
 (∀ σ',PIv K H0 G ρ' σ' H->Q σ' H)->g vs σ H Q
def gN (e:Mode) (i:Nat):W->Rho->Option Rho:=fun w ρ=>some (ρ.set i (if e=.V then .val w else .par w))
theorem j3 {i:Nat}:Gt K .U (L0 i) (gN .U i):=fun H0 Hs G ρ σ H v w ρ' Q I m e h=>by
 cases e; exact h _ (I.setU m)
def gsNil:List W->Rho->Option Rho
 | [],ρ=>some ρ
 | _,_=>none
def l9 (f:W->Rho->Option Rho) (g:List W->Rho->Option Rho):List W->Rho->Option Rho
 | w::ws,ρ=>(f w ρ).bind (g ws)
 | [],_=>none
theorem D5 {e:Mode}:Gts K e gNil gsNil:=fun H0 G ρ σ H vs ws ρ' Q I r e h=>by
 cases r with
 | nil=>cases e; exact ⟨rfl,h _ I⟩
 | cons _ _=>cases e
theorem k4 {e:Mode} {t:TG} {u:TGs} {f:W->Rho->Option Rho} {g:List W->Rho->Option Rho} (he:e=.V\/e=.U) (h1:Gt K e t f) (h2:Gts K e u g):Gts K e (lZ t u) (l9 f g):=fun H0 G ρ σ H vs ws ρ' Q I r q h=>by
 cases r with
 | nil=>cases q
 | cons a b=>
  unfold l9 at q
  obtain ⟨ρ1,q1,q2⟩:=Option.bind_eq_some_iff.mp q
  refine ⟨_,_,rfl,h1 H0 H G ρ σ H _ _ ρ1 _ I ?_ q1 fun σ1 I1=>h2 H0 G ρ1 σ1 H _ _ ρ' Q I1 b q2 h⟩
  rcases he with rfl | rfl
  ·exact a
  ·exact a
def gT (n:Nat) (g:List W->Rho->Option Rho):W->Rho->Option Rho
 | .tup ws,ρ=>if ws.length=n then g ws ρ else none
 | _,_=>none
theorem F8 {e:Mode} {n:Nat} {u:TGs} {g:List W->Rho->Option Rho} (he:e=.V\/e=.U) (h:Gts K e u g):Gt K e (lY K n u) (gT n g):=fun H0 Hs G ρ σ H v w ρ' Q I m q k=>by
 cases w <;> first | cases q | skip
 rename_i ws
 have q':(if ws.length=n then g ws ρ else none)=some ρ':=q
 by_cases hn:ws.length=n
 ·rw [if_pos hn] at q'
  rcases he with rfl | rfl
  ·obtain ⟨a,vs,e,s,r⟩:=Rep.inv m
   exact ⟨a,vs,e,SqT.of (I.gh _ _ s),by rw [r.length]; exact hn,h H0 G ρ σ H _ ws ρ' Q I (by rw [if_pos rfl]; exact r) q' k⟩
  ·obtain ⟨a,vs,e,s,r⟩:=Rep.inv m
   exact ⟨a,vs,e,SqT.of (I.join_H _ _ s),by rw [r.length]; exact hn,h H0 G ρ σ H _ ws ρ' Q I (by rw [if_neg (by intro z; cases z)]; exact r) q' k⟩
 ·rw [if_neg hn] at q'; cases q'
def toR {α:Type}:Option α->R α
 | some a=>.ok a
 | none=>.stuck
theorem DL {e:Mode} {g:TG} {mg:W->Rho->Option Rho} {m:Rho->R W} (hg:Gt K e g mg) (h:tSt K EX d (fun ρ=>m ρ>>=fun w=>toR (mg w ρ)>>=fun ρ'=>.ok (.nx ρ')) D σ H):Z4 (tM K EX e m) g D σ H:=by
 obtain ⟨H0,G,ρ,I,o⟩:=h
 refine ⟨H0,G,ρ,I,OutS.bind I o fun x G1 H1 w e1 m1 o1=>?_⟩
 cases q:mg w ρ with
 | none=>rw [q] at o1; exact o1.elim
 | some ρ'=>
  rw [q] at o1
  exact hg H0 H G1 ρ σ H1 x w ρ' _ (I.ext e1) m1 q fun σ' I'=>o1 G1 σ' H1 (Same.refl _) I'
theorem PIv.own_upd {i:Nat} {a:Addr} {Gs:List V} {ws Hf:List W} (I:PIv K H0 G ρ σ H) (e:ρ[i]?=some (.own ws)) (es:σ[i]?=some (some (.ref a))) (r:Reps K G Gs Hf):PIv K H0 G (ρ.set i (.own Hf)) σ (upd H a (.lst Gs)):=by
 obtain ⟨a',vs,ev,ha,hg,h0,_⟩:=I.sl i _ _ e es
 cases ev
 refine ⟨I.g0,I.gl,fun b o q=>by rw [b8 (c7 q hg)]; exact I.gh b o q,fun b o q=>by rw [b8 (c7 q h0)]; exact I.hh b o q,by rw [List.length_set]; exact I.len,fun j x o h1 h2=>?_,fun p q ws1 us c EU h1 h2 h3 h4=>?_⟩
 ·by_cases hj:i=j
  ·subst hj
   rw [List.getElem?_set] at h1
   simp only [if_true] at h1
   split at h1 <;> simp only [Option.some.injEq,reduceCtorEq] at h1
   subst h1
   rw [es] at h2; cases h2
   exact ⟨a,Gs,rfl,j6,hg,h0,r⟩
  ·rw [List.getElem?_set_ne hj] at h1
   have:=I.sl j x o h1 h2
   cases x with
   | own us=>
    obtain ⟨b,Fd,eb,hb,Fr,Fj,rb⟩:=this
    subst eb
    have ES:b≠a:=by
     rintro rfl
     exact I.ne i j ws us b hj e h1 es h2
    exact ⟨b,Fd,rfl,by rw [b8 ES]; exact hb,Fr,Fj,rb⟩
   | dic ks=>
    obtain ⟨b,Fd,eb,hb,Fr,Fj,rb⟩:=this
    have ES:b≠a:=by
     rintro rfl
     rw [ha] at hb; cases hb
    exact ⟨b,Fd,eb,by rw [b8 ES]; exact hb,Fr,Fj,rb⟩
   | dik ks=>
    obtain ⟨b,Fd,eb,hb,Fr,Fj,rb⟩:=this
    have ES:b≠a:=by
     rintro rfl
     rw [ha] at hb; cases hb
    exact ⟨b,Fd,eb,by rw [b8 ES]; exact hb,Fr,Fj,rb⟩
   | un=>exact this
   | val _=>exact this
   | par _=>exact this
   | iop _ _=>exact this
   | hz _=>exact this
 ·have key:∀ {k:Nat} {us:List W},(ρ.set i (.own Hf))[k]?=some (.own us)->∃ Fd,ρ[k]?=some (.own Fd):=fun {k us} hk=>by
   by_cases hik:i=k
   ·subst hik; exact ⟨ws,e⟩
   ·rw [List.getElem?_set_ne hik] at hk; exact ⟨us,hk⟩
  obtain ⟨w1,k1⟩:=key h1
  obtain ⟨w2,k2⟩:=key h2
  exact I.ne p q w1 w2 c EU k1 k2 h3 h4
theorem PIv.own_at {i:Nat} {ws:List W} (I:PIv K H0 G ρ σ H) (e:ρ[i]?=some (.own ws)):∃ a vs,σ[i]?=some (some (.ref a))/\H a=some (.lst vs)/\G a=none/\H0 a=none/\Reps K G vs ws:=by
 have hi:i<σ.length:=by rw [<- I.len]; exact (List.getElem?_eq_some_iff.mp e).1
 have es:σ[i]?=some σ[i]:=by simp
 obtain ⟨a,vs,ev,r⟩:=I.sl i _ _ e es
 exact ⟨a,vs,by rw [es,ev],r⟩
def M4 (i:Nat) (m:Rho->R W):Rho->R Fl:=fun ρ=>match ρ[i]? with
 | some (.own ws)=>m ρ>>=fun w=>if ws.length<1000 then .ok (.nx (ρ.set i (.own (ws ++ [w])))) else .stuck
 | _=>.stuck
theorem DM {i:Nat} {m:Rho->R W} (h:tSt K EX d (M4 i m) D σ H):bx (qq (S3 i) (tM K EX .V m)) D σ H:=by
 obtain ⟨H0,G,ρ,I,o⟩:=h
 unfold M4 at o
 split at o
 ·rename_i ws e
  obtain ⟨a,vs,es,ha,hg,h0,r⟩:=I.own_at e
  refine ⟨.ref a,es,a,rfl,⟨vs,ha⟩,H0,G,ρ,I,OutS.bind I o fun x G1 H1 w e1 m1 o1=>?_⟩
  by_cases hl:ws.length<1000
  ·rw [if_pos hl] at o1
   have h1:=e1.hh a _ ha
   dsimp only
   rw [h1]
   dsimp only
   have hlen:vs.length=ws.length:=r.length
   exact ⟨Nat.lt_of_lt_of_le (by omega:vs.length<1000) (by decide),o1 G1 σ _ (Same.refl _) ((I.ext e1).own_upd e es ((r.same e1.gg).snoc m1))⟩
  ·rw [if_neg hl] at o1; exact o1.elim
 ·exact o.elim
def ad (i:Nat) (mk me:Rho->R W):Rho->R Fl:=fun ρ=>match ρ[i]? with
 | some (.own ws)=>me ρ>>=fun w=>mk ρ>>=fun k=>(match k with
  | .int k=>(match ixN ws.length k with
   | some j=>.ok (.nx (ρ.set i (.own (ws.set j w))))
   | none=>.stuck)
  | _=>.stuck)
 | _=>.stuck
theorem Dv {i:Nat} {mk me:Rho->R W} (h:tSt K EX d (ad i mk me) D σ H):Z4 (tM K EX .V me) (gSub (S3 i) (tM K EX .B mk) rSetL) D σ H:=by
 obtain ⟨H0,G,ρ,I,o⟩:=h
 unfold ad at o
 split at o
 ·rename_i ws e
  obtain ⟨a,vs,es,ha,hg,h0,r⟩:=I.own_at e
  refine ⟨H0,G,ρ,I,OutS.bind I o fun x G1 H1 w e1 m1 o1=>⟨.ref a,es,H0,G1,ρ,I.ext e1,OutS.bind (I.ext e1) o1 fun y G2 H2 k e2 m2 o2=>?_⟩⟩
  cases k <;> first | exact o2.elim | skip
  rename_i k
  dsimp only at o2
  cases q:ixN ws.length k with
  | none=>rw [q] at o2; exact o2.elim
  | some j=>
   rw [q] at o2
   refine ⟨a,vs,k,j,rfl,m2.intB,e2.hh _ _ (e1.hh _ _ ha),by rw [r.length]; exact q,?_⟩
   exact o2 G2 σ _ (Same.refl _) (((I.ext e1).ext e2).own_upd e es (Reps.set (Rep.same e2.gg m1) j ((r.same e1.gg).same e2.gg)))
 ·exact o.elim
def iO (i:Nat) (f:Int->Int->Int) (m:Rho->R W):Rho->R Fl:=fun ρ=>a9 .B i ρ>>=fun x=>m ρ>>=fun y=>match x,y with
 | .int a,.int b=>.ok (.nx (ρ.set i (.val (.int (f a b)))))
 | _,_=>.stuck
theorem DK {i:Nat} {f:Int->Int->Int} {m:Rho->R W} (h:tSt K EX d (iO i f m) D σ H):xG i (tM K EX .B m) (ipI f) D σ H:=by
 obtain ⟨H0,G,ρ,I,o⟩:=h
 unfold iO at o
 have c:tM K EX .B (a9 .B i) σ H (fun x H1=>∃ G1 w,Ext G H G1 H1/\Md K H0 H G1 H1 x w .B/\OutS K EX d H0 G1 (m ρ>>=fun y=>match w,y with
   | .int a,.int b=>.ok (.nx (ρ.set i (.val (.int (f a b)))))
   | _,_=>.stuck) D):=⟨H0,G,ρ,I,OutS.bind I o fun x G1 H1 w e1 m1 o1=>⟨G1,w,e1,m1,o1⟩⟩
 obtain ⟨v,es,G1,w,e1,m1,o1⟩:=mE c
 have I1:=I.ext e1
 refine ⟨v,es,H0,G1,ρ,I1,OutS.bind I1 o1 fun y G2 H2 u e2 m2 o2=>?_⟩
 cases w <;> first | exact o2.elim | skip
 cases u <;> first | exact o2.elim | skip
 rename_i a b
 exact ⟨a,b,m1.intB,m2.intB,o2 G2 _ H2 (Same.refl _) ((I1.ext e2).setV .int)⟩
def mIf (c:Rho->R Bool) (m n:Rho->R Fl):Rho->R Fl:=fun ρ=>c ρ>>=fun b=>if b then m ρ else n ρ
theorem DE {c:Rho->R Bool} {m n:Rho->R Fl} (h:tSt K EX d (mIf c m n) D σ H):qp (tT K EX c) (tSt K EX d m) (tSt K EX d n) D σ H:=by
 obtain ⟨H0,G,ρ,I,o⟩:=h
 refine ⟨H0,G,ρ,I,OutS.bind I o fun x G1 H1 w e1 m1 o1=>?_⟩
 cases m1
 cases x with
 | true=>exact ⟨H0,G1,ρ,I.ext e1,o1⟩
 | false=>exact ⟨H0,G1,ρ,I.ext e1,o1⟩
def frz (i:Nat) (ρ:Rho):Rho:=match ρ[i]? with
 | some (.own ws)=>ρ.set i (.val (.lst ws))
 | _=>ρ
theorem PIv.frz {i:Nat} (I:PIv K H0 G ρ σ H):∃ G',Same G G'/\PIv K H0 G' (frz i ρ) σ H:=by
 unfold TP.frz
 split
 ·rename_i ws e
  obtain ⟨a,vs,es,ha,hg,h0,r⟩:=I.own_at e
  have s1:Same G (upd G a (.lst vs)):=fun b o q=>by rw [b8 (c7 q hg)]; exact q
  refine ⟨upd G a (.lst vs),s1,?_⟩
  have I1:PIv K H0 G (ρ.set i .un) σ H:=by
   refine ⟨I.g0,I.gl,I.gh,I.hh,by rw [List.length_set]; exact I.len,fun j x o h1 h2=>?_,fun p q ws1 us c EU h1 h2 h3 h4=>?_⟩
   ·by_cases hj:i=j
    ·subst hj
     rw [List.getElem?_set] at h1
     simp only [if_true] at h1
     split at h1 <;> simp only [Option.some.injEq,reduceCtorEq] at h1
     subst h1; trivial
    ·rw [List.getElem?_set_ne hj] at h1; exact I.sl j x o h1 h2
   ·have na:i≠p:=by
     rintro rfl
     rw [List.getElem?_set] at h1
     simp only [if_true] at h1
     split at h1 <;> simp at h1
    have nb:i≠q:=by
     rintro rfl
     rw [List.getElem?_set] at h2
     simp only [if_true] at h2
     split at h2 <;> simp at h2
    rw [List.getElem?_set_ne na] at h1
    rw [List.getElem?_set_ne nb] at h2
    exact I.ne p q ws1 us c EU h1 h2 h3 h4
  have I2:PIv K H0 (upd G a (.lst vs)) (ρ.set i .un) σ H:=by
   refine ⟨fun b o q l=>s1 b o (I.g0 b o q l),fun b o q l=>by rw [b8 (c7 q h0)]; exact I.gl b o q l,fun b o q=>?_,I.hh,I1.len,fun j x o h1 h2=>?_,I1.ne⟩
   ·by_cases hb:b=a
    ·subst hb; rw [j6] at q; cases q; exact ha
    ·rw [b8 hb] at q; exact I.gh b o q
   ·have:=I1.sl j x o h1 h2
    cases x with
    | un=>trivial
    | val w=>obtain ⟨v,e1,r1⟩:=this; exact ⟨v,e1,r1.same s1⟩
    | par w=>obtain ⟨v,e1,r1⟩:=this; exact ⟨v,e1,r1.same (n9 s1)⟩
    | own us=>
     obtain ⟨b,Fd,eb,hb,Fr,Fj,rb⟩:=this
     subst eb
     have Fa:i≠j:=by
      rintro rfl
      rw [List.getElem?_set] at h1
      simp only [if_true] at h1
      split at h1 <;> simp at h1
     rw [List.getElem?_set_ne Fa] at h1
     have ES:b≠a:=by
      rintro rfl
      exact I.ne i j ws us b Fa e h1 es h2
     exact ⟨b,Fd,rfl,hb,by rw [b8 ES]; exact Fr,Fj,rb.same s1⟩
    | dic ks=>
     obtain ⟨b,Fd,eb,hb,Fr,Fj,rb⟩:=this
     have ES:b≠a:=by
      rintro rfl
      rw [ha] at hb; cases hb
     exact ⟨b,Fd,eb,hb,by rw [b8 ES]; exact Fr,Fj,rb⟩
    | dik ks=>
     obtain ⟨b,Fd,eb,hb,Fr,Fj,rb⟩:=this
     have ES:b≠a:=by
      rintro rfl
      rw [ha] at hb; cases hb
     exact ⟨b,Fd,eb,hb,by rw [b8 ES]; exact Fr,Fj,rb⟩
    | iop p us=>obtain ⟨e1,HB,IB,r1⟩:=this; exact ⟨e1,HB,IB,r1.same s1⟩
    | hz w=>obtain ⟨v,e,r⟩:=this; exact ⟨v,e,r.same (n9 (V8 s1))⟩
  have I3:=I2.setV (i:=i) (v:=.ref a) (w:=.lst ws) (.lst j6 (r.same s1))
  have e3:σ.set i (some (V.ref a))=σ:=by
   apply List.ext_getElem?
   intro j
   by_cases hj:i=j
   ·subst hj; rw [es,List.getElem?_set]; simp only [if_true]; rw [if_pos (List.getElem?_eq_some_iff.mp es).1]
   ·rw [List.getElem?_set_ne hj]
  rw [e3,List.set_set] at I3
  exact I3
 ·exact ⟨G,Same.refl G,I⟩
theorem DH {i:Nat} {m:Rho->R Fl} (h:tSt K EX d (fun ρ=>m (frz i ρ)) D σ H):tSt K EX d m D σ H:=by
 obtain ⟨H0,G,ρ,I,o⟩:=h
 obtain ⟨G',s,I'⟩:=I.frz (i:=i)
 exact ⟨H0,G',_,I',OutS.move s o⟩
end
end TP
namespace TP
open PySem L2
section
variable {K:Frag} {EX:EXT} {H0 G H G1 H1 G2 H2:Hp} {ρ:Rho} {σ:St} {d:Mode} {D:Ends}
structure ax (K:Frag) (e:Mode) (H0 Z G:Hp) (J:It) (ws:List W):Prop where
 go:∀ i H,i<ws.length->Same Z H->J.go i H
 stop:∀ H,Same Z H->J.stop ws.length H
 yld:∀ i H x H' w,ws[i]?=some w->Same Z H->J.yld i H x H'->∀ G2 ρ σ,PIv K H0 G2 ρ σ H->Same G G2->∃ G3,Ext G2 H G3 H'/\Md K H0 H G3 H' x w e
def jo (K:Frag) (EX:EXT) (lp:Bool) (e:Mode) (H0 G H:Hp) (r:R (List W)) (Rr:It->Hp->Prop):Prop:=match r with
 | .ok ws=>∀ J G' H',Ext G H G' H'->ax K e H0 (if lp then join H0 G' else H') G' J ws->Rr J H'
 | .ex x=>∀ H',Same H H'->EX x H'
 | .stuck=>False
def tIt (K:Frag) (EX:EXT) (lp:Bool) (e:Mode) (m:Rho->R (List W)):TI:=fun σ H Rr=>∃ H0 G ρ,PIv K H0 G ρ σ H/\jo K EX lp e H0 G H (m ρ) Rr
def E7 (mg:W->Rho->Option Rho) (mb:Rho->R Fl):List W->Rho->R Fl
 | [],ρ=>.ok (.nx ρ)
 | w::ws,ρ=>toR (mg w ρ)>>=fun ρ1=>mb ρ1>>=fun f=>match f with
  | .nx ρ2=>E7 mg mb ws ρ2
  | .ct ρ2=>E7 mg mb ws ρ2
  | .bk ρ2=>.ok (.nx ρ2)
  | .rt w=>.ok (.rt w)
theorem DI {e:Mode} {g:TG} {mg:W->Rho->Option Rho} {mi:Rho->R (List W)} {mb:Rho->R Fl} (hg:Gt K e g mg) (h:tSt K EX d (fun ρ=>mi ρ>>=fun ws=>E7 mg mb ws ρ) D σ H) :
  xD (tIt K EX true e mi) g (tSt K EX d mb) D σ H:=by
 obtain ⟨H0,G,ρ,I,o⟩:=h
 refine ⟨H0,G,ρ,I,?_⟩
 replace o:OutS K EX d H0 G (mi ρ>>=fun ws=>E7 mg mb ws ρ) D:=o
 revert o
 cases mi ρ with
 | stuck=>exact id
 | ex x=>exact fun o H' s=>o H' (I.hh.trans s)
 | ok ws=>
  intro o J G1 H1 e1 T
  have o1:OutS K EX d H0 G1 (E7 mg mb ws ρ) D:=OutS.move e1.gg o
  refine ⟨fun i m σ H=>m=ws.length-i/\i<=ws.length/\∃ G2 ρ2,Same G1 G2/\PIv K H0 G2 ρ2 σ H/\OutS K EX d H0 G2 (E7 mg mb (ws.drop i) ρ2) D,⟨_,rfl,Nat.zero_le _,G1,ρ,Same.refl _,I.ext e1,o1⟩,?_⟩
  rintro i m σ2 Hh ⟨rfl,hi,G2,ρ2,s2,I2,o2⟩
  have hz:Same (join H0 G1) Hh:=(n9 s2).trans I2.join_H
  by_cases Fe:i<ws.length
  ·refine .inr ⟨T.go i Hh Fe hz,fun σ' H'=>∃ G4 ρ4,Same G1 G4/\PIv K H0 G4 ρ4 σ' H'/\OutS K EX d H0 G4 (E7 mg mb (ws.drop (i+1)) ρ4) D,fun σ' H' zz76=>by obtain ⟨G4,ρ4,s4,I4,o4⟩:=zz76; exact ⟨ws.length-(i+1),by omega,rfl,Fe,G4,ρ4,s4,I4,o4⟩,fun x H' y=>?_⟩
   obtain ⟨G3,e3,m3⟩:=T.yld i Hh x H' ws[i] (by simp) hz y G2 ρ2 σ2 I2 s2
   rw [List.drop_eq_getElem_cons Fe] at o2
   unfold E7 at o2
   cases q:mg ws[i] ρ2 with
   | none=>rw [q] at o2; exact o2.elim
   | some ρ'=>
    rw [q] at o2
    refine hg H0 Hh G3 ρ2 σ2 H' x _ ρ' _ (I2.ext e3) m3 q fun σ' I'=>⟨H0,G3,ρ',I',?_⟩
    have o3:OutS K EX d H0 G3 (mb ρ'>>=fun f=>match f with
     | .nx ρ2=>E7 mg mb (ws.drop (i+1)) ρ2
     | .ct ρ2=>E7 mg mb (ws.drop (i+1)) ρ2
     | .bk ρ2=>.ok (.nx ρ2)
     | .rt w=>.ok (.rt w)) D:=OutS.move e3.gg o2
    revert o3
    have s3:Same G1 G3:=s2.trans e3.gg
    cases mb ρ' with
    | stuck=>exact id
    | ex x=>exact id
    | ok f=>
     cases f with
     | nx ρ4=>exact fun o4 G4 σ4 H4 s4 I4=>⟨G4,ρ4,s3.trans s4,I4,OutS.move s4 o4⟩
     | ct ρ4=>exact fun o4 G4 σ4 H4 s4 I4=>⟨G4,ρ4,s3.trans s4,I4,OutS.move s4 o4⟩
     | bk ρ4=>exact id
     | rt w=>exact id
  ·have e:i=ws.length:=by omega
   subst e
   refine .inl ⟨T.stop Hh hz,?_⟩
   rw [List.drop_length] at o2
   exact o2 G2 σ2 Hh (Same.refl _) I2
def E1 (c:Rho->R Bool) (b:Rho->R Fl):Nat->Rho->Option (R Fl)
 | 0,_=>none
 | n+1,ρ=>match c ρ with
  | .ok false=>some (.ok (.nx ρ))
  | .ok true=>(match b ρ with
   | .ok (.nx ρ')=>E1 c b n ρ'
   | .ok (.ct ρ')=>E1 c b n ρ'
   | .ok (.bk ρ')=>some (.ok (.nx ρ'))
   | .ok (.rt w)=>some (.ok (.rt w))
   | .ex e=>some (.ex e)
   | .stuck=>some .stuck)
  | .ex e=>some (.ex e)
  | .stuck=>some .stuck
theorem ah {c:Rho->R Bool} {b:Rho->R Fl}:∀ (n:Nat) (ρ:Rho) (r:R Fl),E1 c b n ρ=some r->∀ m,n<=m->E1 c b m ρ=some r:=by
 intro n
 induction n with
 | zero=>intro ρ r h; cases h
 | succ n ih=>
  intro ρ r h m hm
  obtain ⟨k,rfl⟩:∃ k,m=k+1:=⟨m-1,by omega⟩
  have hk:=Nat.le_of_succ_le_succ hm
  unfold E1 at h ⊢
  revert h
  cases c ρ with
  | ex e=>exact id
  | stuck=>exact id
  | ok t=>
   cases t with
   | false=>exact id
   | true=>
    cases b ρ with
    | ex e=>exact id
    | stuck=>exact id
    | ok f=>
     cases f with
     | nx ρ'=>exact fun h=>ih ρ' r h k hk
     | ct ρ'=>exact fun h=>ih ρ' r h k hk
     | bk ρ'=>exact id
     | rt w=>exact id
open Classical in
def K8 (c:Rho->R Bool) (b:Rho->R Fl):Rho->R Fl:=fun ρ=>if h:∃ r n,E1 c b n ρ=some r then h.choose else .stuck
theorem fL {c:Rho->R Bool} {b:Rho->R Fl} {n:Nat} {r:R Fl} (h:E1 c b n ρ=some r):K8 c b ρ=r:=by
 unfold K8
 have hx:∃ r n,E1 c b n ρ=some r:=⟨r,n,h⟩
 rw [dif_pos hx]
 obtain ⟨m,hm⟩:=hx.choose_spec
 have a:=ah n ρ r h (max n m) (Nat.le_max_left _ _)
 have b:=ah m ρ _ hm (max n m) (Nat.le_max_right _ _)
 rw [a] at b
 exact (Option.some.inj b).symm
theorem wM {c:Rho->R Bool} {b:Rho->R Fl} (h:tSt K EX d (K8 c b) D σ H):nu (tT K EX c) (tSt K EX d b) D σ H:=by
 obtain ⟨H0,G,ρ,I,o⟩:=h
 by_cases hx:∃ r n,E1 c b n ρ=some r
 ·obtain ⟨r,n,hn⟩:=hx
  rw [fL hn] at o
  refine ⟨fun m σ2 Hh=>∃ G2 ρ2,Same G G2/\PIv K H0 G2 ρ2 σ2 Hh/\E1 c b m ρ2=some r,⟨n,G,ρ,Same.refl _,I,hn⟩,?_⟩
  rintro m σ2 Hh ⟨G2,ρ2,s2,I2,h2⟩
  have o2:OutS K EX d H0 G2 r D:=OutS.move s2 o
  refine ⟨H0,G2,ρ2,I2,?_⟩
  cases m with
  | zero=>cases h2
  | succ m=>
   unfold E1 at h2
   revert h2
   cases c ρ2 with
   | stuck=>intro h2; cases h2; exact o2
   | ex x=>intro h2; cases h2; exact fun H' s=>o2 H' (I2.hh.trans s)
   | ok t=>
    cases t with
    | false=>
     intro h2; cases h2
     intro v G3 H3 e3 q
     cases q
     rw [if_neg Bool.false_ne_true]
     exact o2 G3 σ2 H3 e3.gg (I2.ext e3)
    | true=>
     intro h2 v G3 H3 e3 q
     cases q
     rw [if_pos rfl]
     refine ⟨fun σ' H'=>∃ G4 ρ4,Same G G4/\PIv K H0 G4 ρ4 σ' H'/\E1 c b m ρ4=some r,fun σ' H' zz77=>by obtain ⟨G4,ρ4,s4,I4,h4⟩:=zz77; exact ⟨m,Nat.lt_succ_self m,G4,ρ4,s4,I4,h4⟩,H0,G3,ρ2,I2.ext e3,?_⟩
     have o3:OutS K EX d H0 G3 r D:=OutS.move e3.gg o2
     have s3:Same G G3:=s2.trans e3.gg
     revert h2
     cases b ρ2 with
     | stuck=>intro h2; cases h2; exact o3
     | ex x=>intro h2; cases h2; exact o3
     | ok f=>
      cases f with
      | nx ρ4=>exact fun h2 G4 σ4 H4 s4 I4=>⟨G4,ρ4,s3.trans s4,I4,h2⟩
      | ct ρ4=>exact fun h2 G4 σ4 H4 s4 I4=>⟨G4,ρ4,s3.trans s4,I4,h2⟩
      | bk ρ4=>intro h2; cases h2; exact o3
      | rt w=>intro h2; cases h2; exact o3
 ·unfold K8 at o
  rw [dif_neg hx] at o
  exact o.elim
theorem Md.whole {v:V} {w:W} {Hs:Hp} (I:PIv K H0 G ρ σ H) (h:Md K H0 Hs G H v w .B):Rep K H v w:=by
 rcases h with h | ⟨a,vs,ws,rfl,rfl,h1,r⟩
 ·exact h.same I.join_H
 ·exact .lst h1 (r.same I.gh)
theorem MdA.whole {Hs:Hp} (I:PIv K H0 G ρ σ H) {ws:List W} {vs:List V} (h:MdA K .B H0 Hs G H ws vs):Reps K H vs ws:=
 @MdA.rec K .B H0 Hs G H (fun ws vs _=>Reps K H vs ws) .nil (fun h _ b=>.cons (h.whole I) b) ws vs h
def XE (_:XK):EXT:=fun _ _=>False
def spM (K:Frag) (n:Nat) (d:Mode) (f:List W->R W):Sp:=fun vs H Q E=>vs.length=n/\∃ ws,Reps K H vs ws/\match f ws with
 | .ok w=>∀ v G' H',Same H H'->Same G' H'->(∀ a o,H a=some o->isL o=true->G' a=none)->Md K H H G' H' v w d->Q v H'
 | .ex e=>∀ H',Same H H'->XE E e H'
 | .stuck=>False
def g8 (n N:Nat) (m:Rho->R Fl) (ws:List W):R W:=if ws.length=n then (m (ws.map Sl.par++List.replicate (N-n) Sl.un)>>=fun f=>match f with
 | .rt w=>.ok w
 | .nx _=>.ok .non
 | _=>.stuck) else .stuck
theorem qE {n N:Nat} {m:Rho->R Fl} (ws:List W) (h:g8 n N m ws≠.stuck):ws.length=n:=by
 unfold g8 at h
 by_cases e:ws.length=n
 ·exact e
 ·rw [if_neg e] at h; exact absurd rfl h
def both (G G':Hp):Hp:=fun b=>match G b with
 | some o=>some o
 | none=>G' b
theorem BU {n:Nat} {f:List W->R W} {E:XK} {ma:Rho->R (List W)} {Q:VK} (hd:d=.F\/d=.V) (hf:∀ ws,f ws≠.stuck->ws.length=n) (hE:∀ e H,EX e H->XE E e H) (h:tM K EX d (fun ρ=>ma ρ>>=fun ws=>f ws) σ H Q) :
  cW (spM K n d f) [] E (tA K EX .B ma) σ H Q:=by
 obtain ⟨H0,G,ρ,I,o⟩:=h
 refine ⟨H0,G,ρ,I,Out.bind o fun xs G1 H1 ws e1 m1 o1=>?_⟩
 have I1:=I.ext e1
 have r:=MdA.whole I1 m1
 rw [List.append_nil]
 refine ⟨?_,ws,r,?_⟩
 ·rw [r.length]
  refine hf ws fun z=>?_
  rw [z] at o1; exact o1
 ·revert o1
  cases f ws with
  | stuck=>exact id
  | ex e=>exact fun o1 H' s=>hE e H' (o1 H' s)
  | ok w=>
   intro o1 v G' H' sH gH cl md
   have sB:Same G1 (both G1 G'):=fun b o q=>by unfold both; rw [q]
   have FE:Same G' (both G1 G'):=fun b o q=>by
    unfold both
    cases q1:G1 b with
    | none=>exact q
    | some u=>
     have a1:=sH b u (I1.gh b u q1)
     rw [gH b o q] at a1
     exact a1.symm
   have HV:Same (both G1 G') H':=fun b o q=>by
    unfold both at q
    cases q1:G1 b with
    | none=>rw [q1] at q; exact gH b o q
    | some u=>rw [q1] at q; cases q; exact sH b _ (I1.gh b _ q1)
   have ex:Ext G1 H1 (both G1 G') H':=⟨sB,sH,HV,fun b o q l g=>by unfold both; rw [g]; exact cl b o q l⟩
   refine o1 v (both G1 G') H' ex ?_
   rcases hd with rfl | rfl
   ·cases w with
    | lst us=>
     obtain ⟨a,vs,rfl,h1,h2,h3,r3⟩:=md
     exact ⟨a,vs,rfl,h1,by unfold both; rw [I1.gh.free h3]; exact h2,e1.hh.free h3,r3.same FE⟩
    | non=>exact Rep.same FE md
    | bl _=>exact Rep.same FE md
    | int _=>exact Rep.same FE md
    | str _=>exact Rep.same FE md
    | ty _=>exact Rep.same FE md
    | tup _=>exact Rep.same FE md
    | scr _=>exact Rep.same FE md
    | exc _ _=>exact Rep.same FE md
    | cls _=>exact Rep.same FE md
   ·exact Rep.same FE md
def u6 (H:Hp):Hp:=fun a=>match H a with
 | some o=>if isL o then none else some o
 | none=>none
theorem bb:join H (u6 H)=H:=by
 funext a
 unfold join u6
 cases q:H a with
 | none=>rfl
 | some o=>
  dsimp only
  cases isL o <;> rfl
theorem Reps.slots {vs:List V} {ws:List W} {i:Nat} {x:Sl} {o:Option V} {k k':Nat} (r:Reps K H vs ws):(ws.map Sl.par++List.replicate k Sl.un)[i]?=some x->(vs.map some++List.replicate k' none)[i]?=some o->x=.un\/∃ v w,x=.par w/\o=some v/\Rep K H v w:=
 Reps.ind (P:=fun vs ws=>∀ i,(ws.map Sl.par++List.replicate k Sl.un)[i]?=some x->(vs.map some++List.replicate k' none)[i]?=some o->x=.un\/∃ v w,x=.par w/\o=some v/\Rep K H v w) (fun i h1 h2=>by
  have h1:(List.replicate k Sl.un)[i]?=some x:=h1
  rw [List.getElem?_replicate] at h1
  by_cases hk:i<k
  ·rw [if_pos hk] at h1; exact .inl (Option.some.inj h1).symm
  ·rw [if_neg hk] at h1; cases h1) (fun r _ b i h1 h2=>by
  cases i with
  | zero=>exact .inr ⟨_,_,(Option.some.inj h1).symm,(Option.some.inj h2).symm,r⟩
  | succ i=>exact b i h1 h2) r i
theorem PIv.begin {vs:List V} {ws:List W} {k k':Nat} (r:Reps K H vs ws) (hk:k=k'):PIv K H (u6 H) (ws.map Sl.par++List.replicate k Sl.un) (vs.map some++List.replicate k' none) H where
 g0 a o e l:=by unfold u6; rw [e]; dsimp only; rw [l]; rfl
 gl a o e l:=by unfold u6; rw [e]; dsimp only; rw [l]; rfl
 gh a o e:=by
  unfold u6 at e
  cases q:H a with
  | none=>rw [q] at e; cases e
  | some u=>
   rw [q] at e
   dsimp only at e
   cases hl:isL u
   ·rw [hl] at e; exact e
   ·rw [hl] at e; cases e
 hh:=Same.refl H
 len:=by subst hk; simp [r.length]
 sl i x o h1 h2:=by
  rcases Reps.slots r h1 h2 with rfl | ⟨v,w,rfl,rfl,q⟩
  ·trivial
  ·exact ⟨v,rfl,by rw [bb]; exact q⟩
 ne i j us xs a Fa h1 _ _ _:=by
  have:∀ (i:Nat) (us:List W),(ws.map Sl.par++List.replicate k Sl.un)[i]?≠some (Sl.own us):=fun i us q=>by
   rw [List.getElem?_append] at q
   split at q
   ·rw [List.getElem?_map] at q
    cases hh:ws[i]? <;> rw [hh] at q <;> cases q
   ·rw [List.getElem?_replicate] at q
    split at q <;> cases q
  exact absurd h1 (this i us)
theorem BV {n:Nat} {Nl:List Str} {m:Rho->R Fl} {vs:List V} {Q:VK} {E:XK} (hd:d=.F\/d=.V) (h:spM K n d (g8 n Nl.length m) vs H Q E):tSt K (fun _ _=>False) d m { nx:=fun _ H'=>Q .non H',rt:=Q } (L2.start Nl vs) H:=by
 obtain ⟨hl,ws,r,o⟩:=h
 have hw:ws.length=n:=by rw [<- r.length]; exact hl
 unfold g8 at o
 rw [if_pos hw] at o
 refine ⟨H,u6 H,_,PIv.begin (k:=Nl.length-n) r (by rw [hl]),?_⟩
 revert o
 cases m (ws.map Sl.par++List.replicate (Nl.length-n) Sl.un) with
 | stuck=>exact id
 | ex e=>exact fun o=>(o H (Same.refl H)).elim
 | ok f=>
  cases f with
  | nx ρ'=>exact fun o G' σ' H' s' I'=>o .non G' H' I'.hh I'.gh I'.gl (Md.sca rfl (fun _=>.non) d)
  | rt w=>exact fun o v G' H' _ s1 s2 c md=>o v G' H' s2 s1 c md
  | bk _=>exact fun o=>o.elim
  | ct _=>exact fun o=>o.elim
end
end TP
namespace TP
open PySem L2
section
variable {K:Frag} {EX:EXT} {H0 G H G1 H1 G2 H2:Hp} {ρ:Rho} {σ:St} {d:Mode} {D:Ends}
def elR (mg:W->Rho->Option Rho) (mc:Rho->R Bool) (me:Rho->R W) (ρ:Rho) (w:W):R (Option W):=match mg w ρ with
 | none=>.stuck
 | some ρ1=>(match mc ρ1 with
  | .ok true=>(match me ρ1 with
   | .ok y=>.ok (some y)
   | _=>.stuck)
  | .ok false=>.ok none
  | _=>.stuck)
def mapR (f:W->R (Option W)):List W->R (List W)
 | []=>.ok []
 | w::ws=>match f w,mapR f ws with
  | .ok (some y),.ok ys=>.ok (y::ys)
  | .ok none,.ok ys=>.ok ys
  | _,_=>.stuck
def m8 (N':Nat) (mg:W->Rho->Option Rho) (mc:Rho->R Bool) (me:Rho->R W) (ws:List W) (ρ:Rho):R W:=
 if ws.length<=1000 then (match mapR (elR mg mc me (ρ++List.replicate (N'-ρ.length) Sl.un)) ws with
  | .ok ys=>.ok (.lst ys)
  | _=>.stuck) else .stuck
theorem vJ {f:W->R (Option W)}:∀ {ws ys:List W},mapR f ws=.ok ys->(∀ w∈ws,∃ o,f w=.ok o)/\ys=ws.filterMap fun w=>match f w with
  | .ok o=>o
  | _=>none:=by
 intro ws
 induction ws with
 | nil=>intro ys h; cases h; exact ⟨by simp,rfl⟩
 | cons w ws ih=>
  intro ys h
  unfold mapR at h
  cases hf:f w with
  | stuck=>rw [hf] at h; cases h
  | ex e=>rw [hf] at h; cases h
  | ok o=>
   rw [hf] at h
   cases hm:mapR f ws with
   | stuck=>rw [hm] at h; cases o <;> cases h
   | ex e=>rw [hm] at h; cases o <;> cases h
   | ok zs=>
    rw [hm] at h
    obtain ⟨h1,h2⟩:=ih hm
    refine ⟨fun u hu=>?_,?_⟩
    ·rcases List.mem_cons.mp hu with rfl | hu
     ·exact ⟨o,hf⟩
     ·exact h1 u hu
    ·cases o with
     | none=>cases h; rw [List.filterMap_cons,hf]; exact h2
     | some y=>cases h; rw [List.filterMap_cons,hf,h2]
theorem PIv.inner {N':List Str} (I:PIv K H0 G ρ σ H):PIv K H0 G (ρ++List.replicate (N'.length-ρ.length) Sl.un) (inner N' σ) H:=by
 have hl:=I.len
 unfold L2.inner
 rw [hl]
 refine ⟨I.g0,I.gl,I.gh,I.hh,by simp [hl],fun i x o h1 h2=>?_,fun p q ws us c EU h1 h2 h3 h4=>?_⟩
 ·by_cases hi:i<ρ.length
  ·rw [List.getElem?_append_left hi] at h1
   rw [List.getElem?_append_left (by omega)] at h2
   exact I.sl i x o h1 h2
  ·rw [List.getElem?_append_right (by omega),List.getElem?_replicate] at h1
   split at h1 <;> simp only [Option.some.injEq,reduceCtorEq] at h1
   subst h1; trivial
 ·have key:∀ {k:Nat} {us:List W},(ρ++List.replicate (N'.length-σ.length) Sl.un)[k]?=some (Sl.own us)->k<ρ.length/\ρ[k]?=some (Sl.own us):=fun {k us} hk=>by
   by_cases hi:k<ρ.length
   ·rw [List.getElem?_append_left hi] at hk; exact ⟨hi,hk⟩
   ·rw [List.getElem?_append_right (by omega),List.getElem?_replicate] at hk
    split at hk <;> simp at hk
  obtain ⟨l1,k1⟩:=key h1
  obtain ⟨l2,k2⟩:=key h2
  rw [List.getElem?_append_left (by omega)] at h3 h4
  exact I.ne p q ws us c EU k1 k2 h3 h4
open Classical in
def rest (G H:Hp) (Dd:Addr) (H':Hp):Hp:=fun b=>if b=Dd\/∃ o,H b=some o/\isL o=true/\G b=none then none else H' b
theorem y9 {Dd b:Addr} {H':Hp} (h:b=Dd\/∃ o,H b=some o/\isL o=true/\G b=none):rest G H Dd H' b=none:=by unfold rest; rw [if_pos h]
theorem V7 {Dd b:Addr} {H':Hp} (h:¬ (b=Dd\/∃ o,H b=some o/\isL o=true/\G b=none)):rest G H Dd H' b=H' b:=by unfold rest; rw [if_neg h]
theorem jN {Dd b:Addr} {H':Hp} {o:HO} (h:rest G H Dd H' b=some o):H' b=some o/\¬ (b=Dd\/∃ o,H b=some o/\isL o=true/\G b=none):=by
 by_cases c:b=Dd\/∃ o,H b=some o/\isL o=true/\G b=none
 ·rw [y9 c] at h; cases h
 ·rw [V7 c] at h; exact ⟨h,c⟩
theorem PIv.rest {Dd:Addr} {H':Hp} (I:PIv K H0 G ρ σ H) (hD:H Dd=none) (s:Same H H'):Same G (rest G H Dd H')/\PIv K H0 (rest G H Dd H') ρ σ H':=by
 have sG:Same G (TP.rest G H Dd H'):=fun b o q=>by
  rw [V7]
  ·exact s b o (I.gh b o q)
  ·rintro (rfl | ⟨u,h1,h2,h3⟩)
   ·rw [I.gh _ _ q] at hD; cases hD
   ·rw [q] at h3; cases h3
 refine ⟨sG,fun a o e l=>sG a o (I.g0 a o e l),fun a o e l=>y9 (.inr ⟨o,I.hh a o e,l,I.gl a o e l⟩),fun b o q=>(jN q).1,I.hh.trans s,I.len,fun i x o h1 h2=>?_,I.ne⟩
 have:=I.sl i x o h1 h2
 cases x with
 | un=>trivial
 | val w=>obtain ⟨v,e,r⟩:=this; exact ⟨v,e,r.same sG⟩
 | par w=>obtain ⟨v,e,r⟩:=this; exact ⟨v,e,r.same (n9 sG)⟩
 | own ws=>
  obtain ⟨a,vs,e,h,g,h0,r⟩:=this
  exact ⟨a,vs,e,s a _ h,y9 (.inr ⟨_,h,rfl,g⟩),h0,r.same sG⟩
 | dic ks=>
  obtain ⟨a,vs,e,h,g,h0,r⟩:=this
  exact ⟨a,vs,e,s a _ h,y9 (.inr ⟨_,h,rfl,g⟩),h0,r⟩
 | dik ks=>
  obtain ⟨a,vs,e,h,g,h0,r⟩:=this
  exact ⟨a,vs,e,s a _ h,y9 (.inr ⟨_,h,rfl,g⟩),h0,r⟩
 | iop p ws=>obtain ⟨e1,HB,IB,r1⟩:=this; exact ⟨e1,HB,IB,r1.same sG⟩
 | hz w=>obtain ⟨v,e,r⟩:=this; exact ⟨v,e,r.same (n9 (V8 sG))⟩
theorem aK {Dd:Addr} {Ha Hb:Hp} (s:∀ b o,b≠Dd->Ha b=some o->Hb b=some o):Same (rest G H Dd Ha) (rest G H Dd Hb):=fun b o q=>by
 obtain ⟨h,c⟩:=jN q
 rw [V7 c]
 exact s b o (fun z=>c (.inl z)) h
theorem qL {Dd:Addr} {Ha Hb G':Hp} (hl:∃ ys,Ha Dd=some (.lst ys)) (s:Same H Ha) (e:Ext (rest G H Dd Ha) Ha G' Hb):Same G' (rest G H Dd Hb):=fun b o q=>by
 rw [V7]
 ·exact e.gh b o q
 ·rintro (rfl | ⟨u,h1,h2,h3⟩)
  ·obtain ⟨ys,hl⟩:=hl
   rw [e.keep _ _ hl rfl (y9 (.inl rfl))] at q; cases q
  ·rw [e.keep _ _ (s _ _ h1) h2 (y9 (.inr ⟨u,h1,h2,h3⟩))] at q; cases q
theorem pI {Q:VK} {e:Mode} {N':List Str} {g:TG} {mg:W->Rho->Option Rho} {mi:Rho->R (List W)} {mc:Rho->R Bool} {me:Rho->R W} (hg:Gt K e g mg) (h:tM K EX .F (fun ρ=>mi ρ>>=fun ws=>m8 N'.length mg mc me ws ρ) σ H Q) :
  kT N' (tIt K EX false e mi) g (tT K EX mc) (tM K EX .V me) σ H Q:=by
 obtain ⟨H0,G,ρ,I,o⟩:=h
 refine ⟨H0,G,ρ,I,?_⟩
 replace o:Out EX G H (mdW K .F H0 H) (mi ρ>>=fun ws=>m8 N'.length mg mc me ws ρ) Q:=o
 revert o
 cases mi ρ with
 | stuck=>exact id
 | ex x=>exact id
 | ok ws=>
  intro o J G1 H1 e1 T Dd hD
  have I1:=I.ext e1
  replace o:Out EX G H (mdW K .F H0 H) (m8 N'.length mg mc me ws ρ) Q:=o
  unfold m8 at o
  by_cases hlen:ws.length<=1000
  ·rw [if_pos hlen] at o
   cases hm:mapR (elR mg mc me (ρ++List.replicate (N'.length-ρ.length) Sl.un)) ws with
   | stuck=>rw [hm] at o; exact o.elim
   | ex x=>rw [hm] at o; exact o.elim
   | ok ys=>
    rw [hm] at o
    obtain ⟨EN,Jp⟩:=vJ hm
    have T':ax K e H0 H1 G1 J ws:=by
     have:=T
     rw [if_neg Bool.false_ne_true] at this
     exact this
    generalize hρ:ρ++List.replicate (N'.length-ρ.length) Sl.un=ρi at hm EN Jp
    refine ⟨fun i m H2=>m=ws.length-i/\i<=ws.length/\Same H1 H2/\∃ vs,H2 Dd=some (.lst vs)/\vs.length<=i/\Reps K (rest G1 H1 Dd H2) vs ((ws.take i).filterMap fun w=>match elR mg mc me ρi w with
     | .ok o=>o
     | _=>none),⟨_,rfl,Nat.zero_le _,fun b u q=>by rw [b8 (c7 q hD)]; exact q,[],j6,Nat.le_refl _,.nil⟩,?_⟩
    rintro i m H2 ⟨rfl,hi,s2,vs,hDv,hvl,r2⟩
    by_cases Fe:i<ws.length
    ·refine .inr ⟨T'.go i H2 Fe s2,fun x H3 y=>?_⟩
     obtain ⟨sG,I2⟩:=I1.rest (Dd:=Dd) hD s2
     have I2i:=I2.inner (N':=N')
     obtain ⟨G3,e3,m3⟩:=T'.yld i H2 x H3 ws[i] (by simp) s2 y _ _ _ I2i sG
     obtain ⟨op,Fw⟩:=EN ws[i] (List.getElem_mem Fe)
     have Ij:=Fw
     unfold elR at Fw
     rw [<- hρ] at Fw
     have GS:ws.take (i+1)=ws.take i ++ [ws[i]]:=by rw [List.take_succ_eq_append_getElem Fe]
     cases q:mg ws[i] (ρ++List.replicate (N'.length-ρ.length) Sl.un) with
     | none=>rw [q] at Fw; cases Fw
     | some ρ1=>
      rw [q] at Fw
      dsimp only at Fw
      refine hg H0 H2 G3 _ _ H3 x _ ρ1 _ (I2i.ext e3) m3 q fun σ4 I4=>⟨H0,G3,ρ1,I4,?_⟩
      cases hc:mc ρ1 with
      | stuck=>rw [hc] at Fw; cases Fw
      | ex x=>rw [hc] at Fw; cases Fw
      | ok b=>
       intro b' G5 H5 e5 eb
       cases eb
       rw [hc] at Fw
       cases b with
       | false=>
        rw [if_neg Bool.false_ne_true]
        have Hn:op=none:=by cases Fw; rfl
        have s5:Same H2 H5:=e3.hh.trans e5.hh
        refine ⟨ws.length-(i+1),by omega,rfl,Fe,s2.trans s5,vs,s5 _ _ hDv,by omega,?_⟩
        rw [GS,List.filterMap_append]
        have:([ws[i]].filterMap fun w=>match elR mg mc me ρi w with
         | .ok o=>o
         | _=>none) = []:=by
         rw [List.filterMap_cons,Ij,Hn]; rfl
        rw [this,List.append_nil]
        exact r2.same (aK fun b o _ q=>s5 b o q)
       | true=>
        dsimp only at Fw
        rw [if_pos rfl]
        refine ⟨H0,G5,ρ1,I4.ext e5,?_⟩
        cases hme:me ρ1 with
        | stuck=>rw [hme] at Fw; cases Fw
        | ex x=>rw [hme] at Fw; cases Fw
        | ok z=>
         rw [hme] at Fw
         have Hn:op=some z:=by cases Fw; rfl
         intro yv G6 H6 e6 m6
         have e36:Ext (TP.rest G1 H1 Dd H2) H2 G6 H6:=(e3.trans e5).trans e6
         have s6:Same H2 H6:=e36.hh
         refine ⟨vs,s6 _ _ hDv,Nat.lt_of_le_of_lt hvl (Nat.lt_of_lt_of_le (by omega:i<1000) (by decide)),ws.length-(i+1),by omega,rfl,Fe,fun b u q=>by rw [b8 (c7 q hD)]; exact s6 b u (s2 b u q),vs ++ [yv],j6,by rw [List.length_append]; simp; omega,?_⟩
         rw [GS,List.filterMap_append]
         have:([ws[i]].filterMap fun w=>match elR mg mc me ρi w with
          | .ok o=>o
          | _=>none) = [z]:=by
          rw [List.filterMap_cons,Ij,Hn]; rfl
         rw [this]
         have k1:Same (TP.rest G1 H1 Dd H2) (TP.rest G1 H1 Dd (upd H6 Dd (.lst (vs ++ [yv])))):=aK fun b o hb q=>by rw [b8 hb]; exact s6 b o q
         have k2:Same G6 (TP.rest G1 H1 Dd (upd H6 Dd (.lst (vs ++ [yv])))):=(qL ⟨vs,hDv⟩ s2 e36).trans (aK fun b o hb q=>by rw [b8 hb]; exact q)
         exact (r2.same k1).snoc (Rep.same k2 m6)
    ·have ei:i=ws.length:=by omega
     subst ei
     refine .inl ⟨T'.stop H2 s2,?_⟩
     rw [List.take_length,<- Jp] at r2
     obtain ⟨sG,I2⟩:=I1.rest (Dd:=Dd) hD s2
     refine o _ (TP.rest G1 H1 Dd H2) H2 ⟨e1.gg.trans sG,e1.hh.trans s2,I2.gh,fun b u q l g=>y9 (.inr ⟨u,e1.hh b u q,l,e1.keep b u q l g⟩)⟩ ⟨Dd,vs,rfl,hDv,y9 (.inl rfl),e1.hh.free hD,r2⟩
  ·rw [if_neg hlen] at o; exact o.elim
def u8:W->R (List W)
 | .lst ws=>.ok ws
 | .tup ws=>.ok ws
 | .scr ws=>.ok ws
 | _=>.stuck
theorem D1 {t:Bool} {a:Addr} {xs:List V} (e:Same H H1) (h:Sq K H t a xs):Sq K H1 t a xs:=by
 unfold Sq at h ⊢
 split at h
 ·rename_i ht; rw [if_pos ht]; exact qu e h
 ·rename_i ht; rw [if_neg ht]; exact Same.seq e h
theorem sqT {a:Addr} {xs:List V} (h:SqT K H a xs):Sq K H true a xs:=by unfold Sq; rw [if_pos rfl]; exact h
theorem sqL {a:Addr} {xs:List V} (h:SqL K H a xs):Sq K H false a xs:=by unfold Sq; rw [if_neg Bool.false_ne_true]; exact h
theorem Rep.sq {F:Hp} {x:V} {w:W} {ws:List W} (h:Rep K F x w) (hw:u8 w=.ok ws):∃ t a vs,x=.ref a/\Sq K F t a vs/\Reps K F vs ws:=by
 cases w <;> first | (cases hw; done) | skip
 ·obtain ⟨a,vs,e,s,r⟩:=h.inv; exact ⟨true,a,vs,e,sqT (SqT.of s),R.ok.inj hw ▸ r⟩
 ·obtain ⟨a,vs,e,s,r⟩:=h.inv; exact ⟨false,a,vs,e,sqL (SqL.of s),R.ok.inj hw ▸ r⟩
 ·obtain ⟨a,vs,e,s,r⟩:=h.inv; exact ⟨false,a,vs,e,sqL s,R.ok.inj hw ▸ r⟩
def aE:Bool->Mode->Mode
 | true,e=>e
 | false,.V=>.C
 | false,_=>.B
def fz (e:Mode) (H0 G:Hp):Hp:=if e=.V then G else join H0 G
theorem Md.src {lp:Bool} {e:Mode} {Hs:Hp} {x:V} {w:W} {ws:List W} (he:e=.V\/e=.U) (I:PIv K H0 G ρ σ H) (m:Md K H0 Hs G H x w (aE lp e)) (hw:u8 w=.ok ws) :
  ∃ t a vs,x=.ref a/\Sq K (if lp then join H0 G else H) t a vs/\Reps K (fz e H0 G) vs ws:=by
 unfold fz
 rcases he with rfl | rfl
 ·rw [if_pos rfl]
  cases lp with
  | true=>
   obtain ⟨t,a,vs,e1,e2,e3⟩:=Rep.sq m hw
   exact ⟨t,a,vs,e1,by rw [if_pos rfl]; exact D1 I.G_join e2,e3⟩
  | false=>
   rw [if_neg Bool.false_ne_true]
   rcases m with m | ⟨a,vs,us,rfl,rfl,h1,r⟩
   ·obtain ⟨t,a,vs,e1,e2,e3⟩:=Rep.sq m hw
    exact ⟨t,a,vs,e1,D1 I.gh e2,e3⟩
   ·cases hw; exact ⟨false,a,vs,rfl,sqL (SqL.of h1),r⟩
 ·rw [if_neg (show ¬ (Mode.U=Mode.V) by intro z; cases z)]
  cases lp with
  | true=>
   obtain ⟨t,a,vs,e1,e2,e3⟩:=Rep.sq m hw
   exact ⟨t,a,vs,e1,by rw [if_pos rfl]; exact e2,e3⟩
  | false=>
   rw [if_neg Bool.false_ne_true]
   rcases m with m | ⟨a,vs,us,rfl,rfl,h1,r⟩
   ·obtain ⟨t,a,vs,e1,e2,e3⟩:=Rep.sq m hw
    exact ⟨t,a,vs,e1,D1 I.join_H e2,e3⟩
   ·cases hw; exact ⟨false,a,vs,rfl,sqL (SqL.of h1),r.same I.G_join⟩
theorem Md.of_fz {e:Mode} {Hs:Hp} {v:V} {w:W} (he:e=.V\/e=.U) (h:Rep K (fz e H0 G) v w):Md K H0 Hs G H v w e:=by
 unfold fz at h
 rcases he with rfl | rfl
 ·rw [if_pos rfl] at h; exact h
 ·rw [if_neg (show ¬ (Mode.U=Mode.V) by intro z; cases z)] at h; exact h
theorem F3 {e:Mode} (s:Same G G1):Same (fz e H0 G) (fz e H0 G1):=by
 unfold fz
 split
 ·exact s
 ·exact n9 s
theorem vV {e:Mode} {Z:Hp} {t:Bool} {a:Addr} {vs:List V} {ws:List W} (he:e=.V\/e=.U) (s:Sq K Z t a vs) (r:Reps K (fz e H0 G) vs ws):ax K e H0 Z G (ItQ K t a) ws:=by
 have hl:=r.length
 cases t with
 | true=>
  have hq:∀ H,Same Z H->SqT K H a vs:=fun H z=>by have:=D1 z s; unfold Sq at this; rw [if_pos rfl] at this; exact this
  refine ⟨fun i H hi z=>⟨vs,vs[i]'(by omega),hq H z,by simp⟩,fun H z=>⟨vs,hq H z,by omega⟩,fun i H x H' w hw z zz78 G2 ρ σ I sg=>?_⟩
  obtain ⟨e1,y⟩:=zz78
  subst e1
  have hx:=y vs (hq _ z)
  obtain ⟨v,hv,rv⟩:=Reps.get r hw
  rw [hx] at hv; cases hv
  exact ⟨G2,Ext.refl I.gh,Md.of_fz he (rv.same (F3 sg))⟩
 | false=>
  have hq:∀ H,Same Z H->SqL K H a vs:=fun H z=>by have:=D1 z s; unfold Sq at this; rw [if_neg Bool.false_ne_true] at this; exact this
  refine ⟨fun i H hi z=>⟨vs,vs[i]'(by omega),hq H z,by simp⟩,fun H z=>⟨vs,hq H z,by omega⟩,fun i H x H' w hw z zz79 G2 ρ σ I sg=>?_⟩
  obtain ⟨e1,y⟩:=zz79
  subst e1
  have hx:=y vs (hq _ z)
  obtain ⟨v,hv,rv⟩:=Reps.get r hw
  rw [hx] at hv; cases hv
  exact ⟨G2,Ext.refl I.gh,Md.of_fz he (rv.same (F3 sg))⟩
theorem eX {lp:Bool} (I:PIv K H0 G ρ σ H):Same (if lp then join H0 G else H) H:=by
 cases lp
 ·exact Same.refl H
 ·exact I.join_H
theorem DG {lp:Bool} {e:Mode} {ml:Rho->R W} {Rr:It->Hp->Prop} (he:e=.V\/e=.U) (h:tIt K EX lp e (fun ρ=>ml ρ>>=u8) σ H Rr):iSq K (tM K EX (aE lp e) ml) σ H Rr:=by
 obtain ⟨H0,G,ρ,I,o⟩:=h
 refine ⟨H0,G,ρ,I,?_⟩
 replace o:jo K EX lp e H0 G H (ml ρ>>=u8) Rr:=o
 revert o
 cases ml ρ with
 | stuck=>exact id
 | ex x=>exact id
 | ok w=>
  intro o x G1 H1 e1 m1
  have I1:=I.ext e1
  have o':jo K EX lp e H0 G H (u8 w) Rr:=o
  cases q:u8 w with
  | stuck=>rw [q] at o'; exact o'.elim
  | ex z=>cases w <;> cases q
  | ok ws=>
   rw [q] at o'
   obtain ⟨t,a,vs,ex,s,r⟩:=Md.src he I1 m1 q
   exact ⟨a,ex,t,vs,D1 (eX I1) s,o' _ G1 H1 e1 (vV he s r)⟩
def K3 (lo hi:Int):R (List W):=if -1000000<=lo/\lo<=1000000 /\ -1000000<=hi/\hi<=1000000 then .ok ((List.range (hi-lo).toNat).map fun k=>W.int (lo+(k:Nat))) else .stuck
def S7:List W->R (List W)
 | [.int j]=>K3 0 j
 | _=>.stuck
def rng2:List W->R (List W)
 | [.int i,.int j]=>K3 i j
 | _=>.stuck
theorem rR {e:Mode} {Z:Hp} {lo:Int} {n:Nat} (he:e=.V\/e=.U):ax K e H0 Z G (Itr lo n) ((List.range n).map fun k=>W.int (lo+(k:Nat))):=by
 refine ⟨fun i H hi _=>by show i<n; simpa using hi,fun H _=>by simp [Itr],fun i H x H' w hw _ zz80 G2 ρ σ I _=>?_⟩
 obtain ⟨e1,e2⟩:=zz80
 subst e1; subst e2
 rw [List.getElem?_map] at hw
 cases q:(List.range n)[i]? with
 | none=>rw [q] at hw; cases hw
 | some k=>
  rw [q] at hw
  have hk:k=i:=by
   have:=List.getElem?_eq_some_iff.mp q
   obtain ⟨h1,h2⟩:=this
   simpa using h2.symm
  subst hk
  cases hw
  refine ⟨G2,Ext.refl I.gh,Md.sca rfl (fun _=>.int) e⟩
theorem Z3 {lp:Bool} {e b:Mode} {ma:Rho->R (List W)} {k:List W->R (List W)} {Rr:It->Hp->Prop} {Q:List V->Hp->Prop} (h:tIt K EX lp e (fun ρ=>ma ρ>>=k) σ H Rr)
  (hq:∀ H0 G ρ G1 H1 xs ws us,PIv K H0 G ρ σ H->Ext G H G1 H1->MdA K b H0 H G1 H1 ws xs->k ws=.ok us->(∀ J G' H',Ext G H G' H'->ax K e H0 (if lp then join H0 G' else H') G' J us->Rr J H')->Q xs H1)
  (hx:∀ ws e,k ws≠.ex e):tA K EX b ma σ H Q:=by
 obtain ⟨H0,G,ρ,I,o⟩:=h
 refine ⟨H0,G,ρ,I,?_⟩
 replace o:jo K EX lp e H0 G H (ma ρ>>=k) Rr:=o
 revert o
 cases ma ρ with
 | stuck=>exact id
 | ex x=>exact id
 | ok ws=>
  intro o xs G1 H1 e1 m1
  have o':jo K EX lp e H0 G H (k ws) Rr:=o
  cases q:k ws with
  | stuck=>rw [q] at o'; exact o'.elim
  | ex z=>exact absurd q (hx ws z)
  | ok us=>rw [q] at o'; exact hq H0 G ρ G1 H1 xs ws us I e1 m1 q o'
theorem uI {lo hi:Int} {us:List W} (h:K3 lo hi=.ok us):(-1000000<=lo/\lo<=1000000 /\ -1000000<=hi/\hi<=1000000)/\us=(List.range (hi-lo).toNat).map fun k=>W.int (lo+(k:Nat)):=by
 unfold K3 at h
 split at h
 ·cases h; rename_i c; exact ⟨c,rfl⟩
 ·cases h
theorem qF {lo hi:Int} {e:XW} (h:K3 lo hi=.ex e):False:=by
 unfold K3 at h
 by_cases c:-1000000<=lo/\lo<=1000000 /\ -1000000<=hi/\hi<=1000000
 ·rw [if_pos c] at h; cases h
 ·rw [if_neg c] at h; cases h
theorem BO {lp:Bool} {e:Mode} {ma:Rho->R (List W)} {Rr:It->Hp->Prop} (he:e=.V\/e=.U) (h:tIt K EX lp e (fun ρ=>ma ρ>>=S7) σ H Rr):tO (tA K EX .B ma) σ H Rr:=by
 refine Z3 h (fun H0 G ρ G1 H1 xs ws us I e1 m1 q o=>?_) (fun ws e z=>?_)
 ·cases m1 with
  | nil=>cases q
  | @cons w _ _ _ a t=>
   cases t with
   | cons _ _=>first | (cases q; done) | (cases w <;> cases q)
   | nil=>
    cases w <;> first | (cases q; done) | skip
    rename_i j
    obtain ⟨c,rfl⟩:=uI (show K3 0 j=_ from q)
    refine ⟨j,by rw [Md.intB a],by omega,by omega,?_⟩
    have:=o (Itr 0 j.toNat) G1 H1 e1
    rw [Int.sub_zero] at this
    exact this (rR he)
 ·cases ws with
  | nil=>cases z
  | cons w t=>
   cases t with
   | cons _ _=>first | (cases z; done) | (cases w <;> cases z)
   | nil=>
    cases w <;> first | (cases z; done) | skip
    exact qF (lo:=0) z
def Z2:List (List W)->List (List W)
 | [xs,ys]=>xs.zipWith (fun x y=>[x,y]) ys
 | [xs,ys,zs]=>(xs.zip ys).zipWith (fun p z=>[p.1,p.2,z]) zs
 | _=>[]
def Q5:List W->R (List (List W))
 | []=>.ok []
 | w::ws=>match u8 w,Q5 ws with
  | .ok x,.ok xs=>.ok (x::xs)
  | _,_=>.stuck
def E3 (ws:List W):R (List W):=if ws.length=2\/ws.length=3 then (match Q5 ws with
 | .ok xs=>.ok ((Z2 xs).map W.tup)
 | _=>.stuck) else .stuck
theorem eG {e:Mode} {p:Addr} {vs:List V} {ws:List W} {Hs:Hp} (he:e=.V\/e=.U) (I:PIv K H0 G ρ σ H) (hp:H p=none) (r:Reps K (fz e H0 G) vs ws):Ext G H (upd G p (.tup vs)) (upd H p (.tup vs))/\Md K H0 Hs (upd G p (.tup vs)) (upd H p (.tup vs)) (.ref p) (.tup ws) e:=by
 refine ⟨cM I.gh hp,?_⟩
 have gp:G p=none:=I.gh.free hp
 rcases he with rfl | rfl
 ·unfold fz at r
  rw [if_pos rfl] at r
  exact .tup j6 (r.same fun b u q=>by rw [b8 (c7 q gp)]; exact q)
 ·unfold fz at r
  rw [if_neg (show ¬ (Mode.U=Mode.V) by intro z; cases z)] at r
  show Rep K (join H0 (upd G p (.tup vs))) _ _
  rw [iV (I.hh.free hp)]
  exact .tup j6 (r.same fun b u q=>by rw [b8 (c7 (I.join_H b u q) hp)]; exact q)
theorem oM {e:Mode} {Z:Hp} {t u:Bool} {a b:Addr} {xs ys:List V} {us vs:List W} (he:e=.V\/e=.U) (s1:Sq K Z t a xs) (s2:Sq K Z u b ys) (r1:Reps K (fz e H0 G) xs us) (r2:Reps K (fz e H0 G) ys vs) :
  ax K e H0 Z G (ItZ K [(t,a),(u,b)]) ((us.zipWith (fun x y=>[x,y]) vs).map W.tup):=by
 have Rn:=nP s1 s2
 have l1:=r1.length
 have l2:=r2.length
 have hl:((us.zipWith (fun x y=>[x,y]) vs).map W.tup).length=min xs.length ys.length:=by simp [l1,l2]
 refine ⟨fun i H hi z=>Rn.go i H (by omega) z,fun H z=>by rw [hl]; exact Rn.stop H z,fun i H x H' w hw z y G2 ρ σ I sg=>?_⟩
 have hi:i<min xs.length ys.length:=by
  rw [<- hl]; exact (List.getElem?_eq_some_iff.mp hw).1
 obtain ⟨p,y1,z1,rfl,hp,rfl,hy,hz⟩:=Rn.yld i H x H' hi z y
 obtain ⟨w1,e1,q1⟩:=Reps.get' r1 hy
 obtain ⟨w2,e2,q2⟩:=Reps.get' r2 hz
 have Ie:w=.tup [w1,w2]:=by
  rw [List.getElem?_map,List.getElem?_zipWith,e1,e2] at hw
  cases hw; rfl
 subst Ie
 obtain ⟨x1,x2⟩:=eG (Hs:=H) he I hp (.cons (q1.same (F3 sg)) (.cons (q2.same (F3 sg)) .nil))
 exact ⟨_,x1,x2⟩
theorem oK {e:Mode} {Z:Hp} {t u v:Bool} {a b c:Addr} {xs ys zs:List V} {us vs ts:List W} (he:e=.V\/e=.U) (s1:Sq K Z t a xs) (s2:Sq K Z u b ys) (s3:Sq K Z v c zs) (r1:Reps K (fz e H0 G) xs us) (r2:Reps K (fz e H0 G) ys vs) (r3:Reps K (fz e H0 G) zs ts) :
  ax K e H0 Z G (ItZ K [(t,a),(u,b),(v,c)]) (((us.zip vs).zipWith (fun p z=>[p.1,p.2,z]) ts).map W.tup):=by
 have Rn:=nO s1 s2 s3
 have l1:=r1.length
 have l2:=r2.length
 have l3:=r3.length
 have hl:(((us.zip vs).zipWith (fun p z=>[p.1,p.2,z]) ts).map W.tup).length=min xs.length (min ys.length zs.length):=by simp [l1,l2,l3,Nat.min_assoc]
 refine ⟨fun i H hi z=>Rn.go i H (by omega) z,fun H z=>by rw [hl]; exact Rn.stop H z,fun i H x H' w hw z y G2 ρ σ I sg=>?_⟩
 have hi:i<min xs.length (min ys.length zs.length):=by
  rw [<- hl]; exact (List.getElem?_eq_some_iff.mp hw).1
 obtain ⟨p,y1,z1,t1,rfl,hp,rfl,hy,hz,ht⟩:=Rn.yld i H x H' hi z y
 obtain ⟨w1,e1,q1⟩:=Reps.get' r1 hy
 obtain ⟨w2,e2,q2⟩:=Reps.get' r2 hz
 obtain ⟨w3,e3,q3⟩:=Reps.get' r3 ht
 have Ie:w=.tup [w1,w2,w3]:=by
  rw [List.getElem?_map,List.getElem?_zipWith,List.zip,List.getElem?_zipWith,e1,e2,e3] at hw
  cases hw; rfl
 subst Ie
 obtain ⟨x1,x2⟩:=eG (Hs:=H) he I hp (.cons (q1.same (F3 sg)) (.cons (q2.same (F3 sg)) (.cons (q3.same (F3 sg)) .nil)))
 exact ⟨_,x1,x2⟩
theorem Z6 {w:W} {ws:List W} {xs:List (List W)} (h:Q5 (w::ws)=.ok xs):∃ y ys,u8 w=.ok y/\Q5 ws=.ok ys/\xs=y::ys:=by
 unfold Q5 at h
 cases h1:u8 w with
 | stuck=>rw [h1] at h; cases h
 | ex _=>rw [h1] at h; cases h
 | ok y=>
  rw [h1] at h
  cases h2:Q5 ws with
  | stuck=>rw [h2] at h; cases h
  | ex _=>rw [h2] at h; cases h
  | ok ys=>rw [h2] at h; cases h; exact ⟨y,ys,rfl,rfl,rfl⟩
theorem Dt {lp:Bool} {e:Mode} {ma:Rho->R (List W)} {Rr:It->Hp->Prop} (he:e=.V\/e=.U) (h:tIt K EX lp e (fun ρ=>ma ρ>>=E3) σ H Rr):AC K (tA K EX (aE lp e) ma) σ H Rr:=by
 refine Z3 h (fun H0 G ρ G1 H1 xs ws us I e1 m1 q o=>?_) (fun ws e z=>?_)
 ·have I1:=I.ext e1
  unfold E3 at q
  split at q
  ·rename_i hn
   cases hs:Q5 ws with
   | stuck=>rw [hs] at q; cases q
   | ex _=>rw [hs] at q; cases q
   | ok ls=>
    rw [hs] at q
    cases q
    cases m1 with
    | nil=>simp at hn
    | cons a1 m1=>
     cases m1 with
     | nil=>simp at hn
     | cons a2 m1=>
      obtain ⟨y1,ys,h1,Gz,rfl⟩:=Z6 hs
      obtain ⟨y2,ys,h2,Gk,rfl⟩:=Z6 Gz
      obtain ⟨t1,p1,v1,rfl,q1,r1⟩:=Md.src he I1 a1 h1
      obtain ⟨t2,p2,v2,rfl,q2,r2⟩:=Md.src he I1 a2 h2
      have k1:=D1 (eX I1) q1
      have k2:=D1 (eX I1) q2
      cases m1 with
      | nil=>
       cases Gk
       refine ⟨[(t1,p1),(t2,p2)],rfl,.inl rfl,fun u hu=>?_,o _ G1 H1 e1 (oM he q1 q2 r1 r2)⟩
       simp only [List.mem_cons,List.not_mem_nil,or_false] at hu
       rcases hu with rfl | rfl
       ·exact ⟨_,k1⟩
       ·exact ⟨_,k2⟩
      | cons a3 m1=>
       cases m1 with
       | cons _ _=>simp at hn
       | nil=>
        obtain ⟨y3,ys,h3,hs3,rfl⟩:=Z6 Gk
        cases hs3
        obtain ⟨t3,p3,v3,rfl,q3,r3⟩:=Md.src he I1 a3 h3
        refine ⟨[(t1,p1),(t2,p2),(t3,p3)],rfl,.inr rfl,fun u hu=>?_,o _ G1 H1 e1 (oK he q1 q2 q3 r1 r2 r3)⟩
        simp only [List.mem_cons,List.not_mem_nil,or_false] at hu
        rcases hu with rfl | rfl | rfl
        ·exact ⟨_,k1⟩
        ·exact ⟨_,k2⟩
        ·exact ⟨_,D1 (eX I1) q3⟩
  ·cases q
 ·unfold E3 at z
  split at z
  ·split at z <;> cases z
  ·cases z
end
end TP
namespace TP
open PySem L2
section
variable {K:Frag} {EX:EXT} {H0 G H G1 H1 G2 H2:Hp} {ρ:Rho} {σ:St} {d:Mode} {D:Ends} {Q:VK}
theorem Reps.atI {F:Hp} {vs:List V} {ws:List W} {i:Int} {w:W} (r:Reps K F vs ws) (h:L2.atI ws i=some w):∃ v,L2.atI vs i=some v/\Rep K F v w:=by
 unfold L2.atI at h ⊢
 rw [r.length]
 cases q:ixN ws.length i with
 | none=>rw [q] at h; cases h
 | some j=>rw [q] at h; exact Reps.get r h
def fIx:W->W->R W
 | .lst ws,.int i=>toR (L2.atI ws i)
 | .tup ws,.int i=>toR (L2.atI ws i)
 | .scr ws,.int i=>toR (L2.atI ws i)
 | _,_=>.stuck
theorem zA:Op2 K .B .U (rIx K) fIx:=by
 intro EX H0 Hs G H ρ σ Ha Hb x y u v Q I s mx my o
 cases u <;> first | exact o.elim | skip
 all_goals (cases v <;> first | exact o.elim | skip)
 ·rename_i ws i
  obtain ⟨a,vs,rfl,hs,r⟩:=mx.tupB I
  replace o:Out EX G H (mdW K .U H0 Hs) (toR (L2.atI ws i)) Q:=o
  cases q:L2.atI ws i with
  | none=>rw [q] at o; exact o.elim
  | some w=>
   rw [q] at o
   obtain ⟨v,hv,rv⟩:=r.atI q
   exact .inr (.inl ⟨a,vs,i,v,rfl,my.intB,SqT.of hs,hv,o v G H (Ext.refl I.gh) rv⟩)
 ·rename_i ws i
  obtain ⟨a,vs,rfl,hs,r⟩:=mx.lstB I
  replace o:Out EX G H (mdW K .U H0 Hs) (toR (L2.atI ws i)) Q:=o
  cases q:L2.atI ws i with
  | none=>rw [q] at o; exact o.elim
  | some w=>
   rw [q] at o
   obtain ⟨v,hv,rv⟩:=r.atI q
   exact .inl ⟨a,vs,i,v,rfl,my.intB,SqL.of hs,hv,o v G H (Ext.refl I.gh) rv⟩
 ·rename_i ws i
  obtain ⟨a,vs,rfl,hs,r⟩:=mx.scrB I
  replace o:Out EX G H (mdW K .U H0 Hs) (toR (L2.atI ws i)) Q:=o
  cases q:L2.atI ws i with
  | none=>rw [q] at o; exact o.elim
  | some w=>
   rw [q] at o
   obtain ⟨v,hv,rv⟩:=r.atI q
   exact .inl ⟨a,vs,i,v,rfl,my.intB,hs,hv,o v G H (Ext.refl I.gh) rv⟩
theorem zw:Op2 K .C .V (rIx K) fIx:=by
 intro EX H0 Hs G H ρ σ Ha Hb x y u v Q I s mx my o
 cases u <;> first | exact o.elim | skip
 all_goals (cases v <;> first | exact o.elim | skip)
 ·rename_i ws i
  obtain ⟨a,vs,rfl,hs,r⟩:=mx.tupC I
  replace o:Out EX G H (mdW K .V H0 Hs) (toR (L2.atI ws i)) Q:=o
  cases q:L2.atI ws i with
  | none=>rw [q] at o; exact o.elim
  | some w=>
   rw [q] at o
   obtain ⟨v,hv,rv⟩:=r.atI q
   exact .inr (.inl ⟨a,vs,i,v,rfl,Md.intB (Md.CB I my),SqT.of hs,hv,o v G H (Ext.refl I.gh) rv⟩)
 ·rename_i ws i
  obtain ⟨a,vs,rfl,hs,r⟩:=mx.lstC I
  replace o:Out EX G H (mdW K .V H0 Hs) (toR (L2.atI ws i)) Q:=o
  cases q:L2.atI ws i with
  | none=>rw [q] at o; exact o.elim
  | some w=>
   rw [q] at o
   obtain ⟨v,hv,rv⟩:=r.atI q
   exact .inl ⟨a,vs,i,v,rfl,Md.intB (Md.CB I my),SqL.of hs,hv,o v G H (Ext.refl I.gh) rv⟩
 ·rename_i ws i
  obtain ⟨a,vs,rfl,hs,r⟩:=(Md.repC mx fun _=>W.noConfusion).inv
  replace o:Out EX G H (mdW K .V H0 Hs) (toR (L2.atI ws i)) Q:=o
  cases q:L2.atI ws i with
  | none=>rw [q] at o; exact o.elim
  | some w=>
    rw [q] at o
    obtain ⟨v,hv,rv⟩:=r.atI q
    exact .inl ⟨_,_,i,v,rfl,Md.intB (Md.CB I my),Same.seq I.gh hs,hv,o v G H (Ext.refl I.gh) rv⟩
def aB (K:Frag) (EX:EXT) (m:Rho->R (Option Int)):TO:=fun σ H Q=>∃ H0 G ρ,PIv K H0 G ρ σ H/\Out EX G H (fun (b c:Option Int) _ _=>c=b) (m ρ) Q
def gf:W->R (Option Int)
 | .int i=>.ok (some i)
 | _=>.stuck
theorem sK {Q:Option Int->Hp->Prop} (h:aB K EX (fun _=>.ok none) σ H Q):tNoPart σ H Q:=by
 obtain ⟨H0,G,ρ,I,o⟩:=h
 exact o none G H (Ext.refl I.gh) rfl
theorem BQ {m:Rho->R W} {Q:Option Int->Hp->Prop} (h:aB K EX (fun ρ=>m ρ>>=gf) σ H Q):tf (tM K EX .B m) σ H Q:=by
 obtain ⟨H0,G,ρ,I,o⟩:=h
 refine ⟨H0,G,ρ,I,Out.bind o fun x G1 H1 u e1 m1 o1=>?_⟩
 cases u <;> first | exact o1.elim | skip
 rename_i i
 exact ⟨i,m1.intB,o1 _ G1 H1 (Ext.refl e1.gh) rfl⟩
def J3 (xs:List W) (lo hi:Option Int):List W:=(xs.drop (HT.sIx xs.length 0 lo)).take (HT.sIx xs.length xs.length hi-HT.sIx xs.length 0 lo)
theorem Reps.cut {F:Hp} {vs:List V} {ws:List W} (r:Reps K F vs ws) (lo hi:Option Int):Reps K F (fk vs lo hi) (J3 ws lo hi):=by
 unfold fk J3
 rw [r.length]
 exact (r.drop _).take _
def lstOf:W->Option (List W)
 | .lst ws=>some ws
 | .scr ws=>some ws
 | _=>none
def chks (c:Bool) (ws:List W):R W:=if c||k9 ws then .ok (.lst ws) else .stuck
def cb (c:Bool):Mode:=if c then .C else .B
theorem Md.lstOf {c:Bool} {Ha:Hp} {x:V} {w:W} {ws:List W} (I:PIv K H0 G ρ σ H) (m:Md K H0 Ha G H x w (cb c)) (h:lstOf w=some ws):∃ a vs,x=.ref a/\SqL K H a vs/\Reps K (if c then G else join H0 G) vs ws:=by
 cases c with
 | true=>
  rw [if_pos rfl]
  cases w <;> first | cases h | skip
  ·obtain ⟨a,vs,e,hs,r⟩:=Md.lstC (H:=Ha) I m
   exact ⟨a,vs,e,SqL.of hs,r⟩
  ·obtain ⟨a,vs,e,hs,r⟩:=(Md.repC m fun _=>W.noConfusion).inv
   exact ⟨a,vs,e,Same.seq I.gh hs,r⟩
 | false=>
  rw [if_neg Bool.false_ne_true]
  cases w <;> first | cases h | skip
  ·obtain ⟨a,vs,e,hs,r⟩:=Md.lstB (H:=Ha) I m
   exact ⟨a,vs,e,SqL.of hs,r⟩
  ·exact Md.scrB (H:=Ha) I m
theorem Out.chks {c:Bool} {Hs:Hp} {vs:List V} {ws:List W} (I:PIv K H0 G ρ σ H) (s:Same Hs H) (r:Reps K (if c then G else join H0 G) vs ws) (o:Out EX G H (mdW K .F H0 Hs) (chks c ws) Q):∀ p,H p=none->Q (.ref p) (upd H p (.lst vs)):=by
 unfold TP.chks at o
 by_cases n:(c||k9 ws)=true
 ·rw [if_pos n] at o
  have r':Reps K G vs ws:=by
   cases c with
   | true=>rw [if_pos rfl] at r; exact r
   | false=>rw [if_neg Bool.false_ne_true] at r; exact Reps.clean I r (by simpa using n)
  exact fun p hp=>Out.newL I s r' hp o
 ·rw [if_neg n] at o; exact o.elim
theorem c_sl {c:Bool} {m:Rho->R W} {ml mh:Rho->R (Option Int)} (h:tM K EX .F (fun ρ=>m ρ>>=fun x=>ml ρ>>=fun l=>mh ρ>>=fun u=>toR (lstOf x)>>=fun ws=>chks c (J3 ws l u)) σ H Q) :
  tSl (yI K) (tM K EX (cb c) m) (aB K EX ml) (aB K EX mh) σ H Q:=by
 obtain ⟨H0,G,ρ,I,o⟩:=h
 refine ⟨H0,G,ρ,I,Out.bind o fun x G1 H1 w e1 m1 o1=>⟨H0,G1,ρ,I.ext e1,Out.bind o1 fun l' G2 H2 l e2 m2 o2=>⟨H0,G2,ρ,(I.ext e1).ext e2,Out.bind o2 fun u' G3 H3 u e3 m3 o3=>?_⟩⟩⟩
 subst m2; subst m3
 have I3:=((I.ext e1).ext e2).ext e3
 cases q:lstOf w with
 | none=>rw [q] at o3; exact o3.elim
 | some ws=>
  rw [q] at o3
  obtain ⟨a,vs,ex,hs,r⟩:=Md.lstOf I3 ((m1.move e2).move e3) q
  refine ⟨a,vs,ex,hs,Out.chks I3 ((e1.hh.trans e2.hh).trans e3.hh) (c:=c) ?_ o3⟩
  cases c with
  | true=>rw [if_pos rfl] at r ⊢; exact r.cut _ _
  | false=>rw [if_neg Bool.false_ne_true] at r ⊢; exact r.cut _ _
def Cal (K:Frag) (b d:Mode) (r:List V->Hp->VK->Prop) (f:List W->R W):Prop:=∀ (EX:EXT) (H0 Hs G H:Hp) (ρ:Rho) (σ:St) (Ha:Hp) (vs:List V) (ws:List W) (Q:VK),PIv K H0 G ρ σ H->Same Hs H->MdA K b H0 Ha G H ws vs ->
 Out EX G H (mdW K d H0 Hs) (f ws) Q->r vs H Q
theorem sL {b:Mode} {r:List V->Hp->VK->Prop} {f:List W->R W} {ma:Rho->R (List W)} (hr:Cal K b d r f) (h:tM K EX d (fun ρ=>ma ρ>>=fun ws=>f ws) σ H Q):tCB r (tA K EX b ma) σ H Q:=by
 obtain ⟨H0,G,ρ,I,o⟩:=h
 exact ⟨H0,G,ρ,I,Out.bind o fun xs G1 H1 ws e1 m1 o1=>hr EX H0 H G1 H1 ρ σ H xs ws Q (I.ext e1) e1.hh m1 o1⟩
def fLen:List W->R W
 | [w]=>u8 w>>=fun ws=>.ok (.int ws.length)
 | _=>.stuck
theorem A9:Cal K .B d (fun xs H Q=>∃ p ys,xs = [.ref p]/\(SqL K H p ys\/SqT K H p ys)/\Q (.int ys.length) H) fLen:=by
 intro EX H0 Hs G H ρ σ Ha vs ws Q I s m o
 cases m with
 | nil=>exact o.elim
 | cons a t=>
  cases t with
  | cons _ _=>exact o.elim
  | nil=>
   rename_i w v
   cases w <;> first | exact o.elim | skip
   ·obtain ⟨p,ys,rfl,hs,r⟩:=a.tupB I
    exact ⟨p,ys,rfl,.inr (SqT.of hs),by rw [r.length]; exact o _ G H (Ext.refl I.gh) (Md.sca rfl (fun _=>.int) d)⟩
   ·obtain ⟨p,ys,rfl,hs,r⟩:=a.lstB I
    exact ⟨p,ys,rfl,.inl (SqL.of hs),by rw [r.length]; exact o _ G H (Ext.refl I.gh) (Md.sca rfl (fun _=>.int) d)⟩
   ·obtain ⟨p,ys,rfl,hs,r⟩:=a.scrB I
    exact ⟨p,ys,rfl,.inl hs,by rw [r.length]; exact o _ G H (Ext.refl I.gh) (Md.sca rfl (fun _=>.int) d)⟩
def bP (c:Bool):List W->R W
 | [w]=>u8 w>>=chks c
 | _=>.stuck
theorem jg {c:Bool}:Cal K (cb c) .F (fun xs H Q=>∃ p ys,xs = [.ref p]/\(SqL K H p ys\/SqT K H p ys)/\∀ l,H l=none->Q (.ref l) (upd H l (.lst ys))) (bP c):=by
 intro EX H0 Hs G H ρ σ Ha vs ws Q I s m o
 cases m with
 | nil=>exact o.elim
 | cons a t=>
  cases t with
  | cons _ _=>exact o.elim
  | nil=>
   rename_i w v
   cases w <;> first | exact o.elim | skip
   ·rename_i us
    cases c with
    | true=>
     obtain ⟨p,ys,rfl,hs,r⟩:=Md.tupC (H:=Ha) I a
     exact ⟨p,ys,rfl,.inr (SqT.of hs),Out.chks (c:=true) I s r o⟩
    | false=>
     obtain ⟨p,ys,rfl,hs,r⟩:=Md.tupB (H:=Ha) I a
     exact ⟨p,ys,rfl,.inr (SqT.of hs),Out.chks (c:=false) I s r o⟩
   ·obtain ⟨p,ys,rfl,hs,r⟩:=Md.lstOf I a rfl
    exact ⟨p,ys,rfl,.inl hs,Out.chks I s r o⟩
   ·obtain ⟨p,ys,rfl,hs,r⟩:=Md.lstOf I a rfl
    exact ⟨p,ys,rfl,.inl hs,Out.chks I s r o⟩
def U8 (c:Bool) (ws:List W):R W:=if c||k9 ws then .ok (.tup ws) else .stuck
def M5 (c:Bool):List W->R W
 | [w]=>u8 w>>=U8 c
 | _=>.stuck
theorem O6 {c:Bool}:Cal K (cb c) .F (fun xs H Q=>∃ p ys,xs = [.ref p]/\((SqL K H p ys/\∀ l,H l=none->Q (.ref l) (upd H l (.tup ys)))\/(SqT K H p ys/\Q (.ref p) H))) (M5 c):=by
 intro EX H0 Hs G H ρ σ Ha vs ws Q I s m o
 have key:∀ {vs:List V} {us:List W},Reps K (if c then G else join H0 G) vs us->Out EX G H (mdW K .F H0 Hs) (U8 c us) Q->Reps K G vs us/\Out EX G H (mdW K .F H0 Hs) (.ok (.tup us)) Q:=fun {vs us} r o=>by
  unfold U8 at o
  by_cases n:(c||k9 us)=true
  ·rw [if_pos n] at o
   refine ⟨?_,o⟩
   cases c with
   | true=>rw [if_pos rfl] at r; exact r
   | false=>rw [if_neg Bool.false_ne_true] at r; exact Reps.clean I r (by simpa using n)
  ·rw [if_neg n] at o; exact o.elim
 cases m with
 | nil=>exact o.elim
 | cons a t=>
  cases t with
  | cons _ _=>exact o.elim
  | nil=>
   rename_i w v
   cases w <;> first | exact o.elim | skip
   ·rename_i us
    have hx:∃ p ys,v=.ref p/\(if c then G else join H0 G) p=some (.tup ys)/\Reps K (if c then G else join H0 G) ys us:=by
     cases c with
     | true=>rw [if_pos rfl]; exact (Md.repC a fun _=>W.noConfusion).inv
     | false=>rw [if_neg Bool.false_ne_true]; exact (Md.repB a fun _=>W.noConfusion).inv
    obtain ⟨p,ys,rfl,hp,r⟩:=hx
    obtain ⟨r',o'⟩:=key r o
    have hH:H p=some (.tup ys):=by
     cases c with
     | true=>rw [if_pos rfl] at hp; exact I.gh _ _ hp
     | false=>rw [if_neg Bool.false_ne_true] at hp; exact I.join_H _ _ hp
    have hG:G p=some (.tup ys):=by
     cases c with
     | true=>rw [if_pos rfl] at hp; exact hp
     | false=>
      rw [if_neg Bool.false_ne_true] at hp
      unfold join at hp
      cases q:H0 p with
      | none=>rw [q] at hp; exact hp
      | some u=>
       rw [q] at hp
       dsimp only at hp
       by_cases hl:isL u=true
       ·rw [if_pos hl] at hp; cases hp; cases hl
       ·rw [if_neg hl] at hp; exact hp
    exact ⟨p,ys,rfl,.inr ⟨SqT.of hH,o' _ G H (Ext.refl I.gh) (.tup hG r')⟩⟩
   ·obtain ⟨p,ys,rfl,hs,r⟩:=Md.lstOf I a rfl
    obtain ⟨r',o'⟩:=key r o
    exact ⟨p,ys,rfl,.inl ⟨hs,fun l hl=>Out.newTF I r' hl o'⟩⟩
   ·obtain ⟨p,ys,rfl,hs,r⟩:=Md.lstOf I a rfl
    obtain ⟨r',o'⟩:=key r o
    exact ⟨p,ys,rfl,.inl ⟨hs,fun l hl=>Out.newTF I r' hl o'⟩⟩
def f2 (g:Int->Int->Int):List W->R W
 | [.int i,.int j]=>.ok (.int (g i j))
 | _=>.stuck
theorem b_2 {g:Int->Int->Int}:Cal K .B d (fun xs H Q=>∃ i j,xs = [.int i,.int j]/\Q (.int (g i j)) H) (f2 g):=by
 intro EX H0 Hs G H ρ σ Ha vs ws Q I s m o
 unfold f2 at o
 split at o
 ·cases m with
  | cons a t=>
   cases t with
   | cons b t=>
    cases t
    exact ⟨_,_,by rw [a.intB,b.intB],o _ G H (Ext.refl I.gh) (Md.sca rfl (fun _=>.int) d)⟩
 ·exact o.elim
def tyW:W->Option String
 | .non=>some "NoneType"
 | .bl _=>some "bool"
 | .int _=>some "int"
 | .str _=>some "str"
 | .tup _=>some "tuple"
 | .lst _=>some "list"
 | _=>none
def fIsi:List W->R W
 | [x,.ty T]=>toR ((tyW x).bind fun A=>t6 A T)>>=fun b=>.ok (.bl b)
 | _=>.stuck
theorem xu {Ha:Hp} {v:V} {w:W} {A:String} (I:PIv K H0 G ρ σ H) (m:Md K H0 Ha G H v w .B) (h:tyW w=some A):L2.tyB H v=some A:=by
 cases w <;> first | cases h | skip
 ·rw [m.nonB]; rfl
 ·rw [m.blB]; rfl
 ·rw [m.intB]; rfl
 ·rw [m.strB]; rfl
 ·obtain ⟨a,vs,rfl,hs,r⟩:=m.tupB I
  show L2.tyO (H a)=_
  rw [hs]; rfl
 ·obtain ⟨a,vs,rfl,hs,r⟩:=m.lstB I
  show L2.tyO (H a)=_
  rw [hs]; rfl
theorem dP:Cal K .B d rIsi fIsi:=by
 intro EX H0 Hs G H ρ σ Ha vs ws Q I s m o
 cases m with
 | nil=>exact o.elim
 | @cons x _ _ _ a t=>
  cases t with
  | nil=>exact o.elim
  | @cons y _ _ _ b t=>
   cases t with
   | cons _ _=>first | exact o.elim | (cases y <;> exact o.elim)
   | nil=>
    cases y <;> first | exact o.elim | skip
    rename_i T
    replace o:Out EX G H (mdW K d H0 Hs) (toR ((tyW x).bind fun A=>t6 A T)>>=fun b=>.ok (.bl b)) Q:=o
    cases q:tyW x with
    | none=>rw [q] at o; exact o.elim
    | some A=>
     rw [q] at o
     replace o:Out EX G H (mdW K d H0 Hs) (toR (t6 A T)>>=fun b=>.ok (.bl b)) Q:=o
     cases q2:t6 A T with
     | none=>rw [q2] at o; exact o.elim
     | some c=>
      rw [q2] at o
      exact ⟨_,T,by rw [b.tyB],A,xu I a q,c,q2,o _ G H (Ext.refl I.gh) (Md.sca rfl (fun _=>.bl) d)⟩
def mf (c:Bool):W->W->R W
 | .lst us,.lst vs=>if us.length+vs.length<=1000 then chks c (us++vs) else .stuck
 | _,_=>.stuck
theorem zB {c:Bool}:Op2 K (cb c) .F rCat (mf c):=by
 intro EX H0 Hs G H ρ σ Ha Hb x y u v Q I s mx my o
 cases u <;> first | exact o.elim | skip
 all_goals (cases v <;> first | exact o.elim | skip)
 rename_i us vs
 replace o:Out EX G H (mdW K .F H0 Hs) (if us.length+vs.length<=1000 then chks c (us++vs) else .stuck) Q:=o
 by_cases hn:us.length+vs.length<=1000
 ·rw [if_pos hn] at o
  have h1:∃ a ws,x=.ref a/\H a=some (.lst ws)/\Reps K (if c then G else join H0 G) ws us:=by
   cases c with
   | true=>exact Md.lstC (H:=Ha) I mx
   | false=>exact Md.lstB (H:=Ha) I mx
  have h2:∃ a ws,y=.ref a/\H a=some (.lst ws)/\Reps K (if c then G else join H0 G) ws vs:=by
   cases c with
   | true=>exact Md.lstC (H:=Hb) I my
   | false=>exact Md.lstB (H:=Hb) I my
  obtain ⟨a,xs,rfl,ha,ra⟩:=h1
  obtain ⟨b,ys,rfl,hb,rb⟩:=h2
  exact ⟨a,b,xs,ys,rfl,rfl,ha,hb,by rw [ra.length,rb.length]; exact X7 hn,Out.chks I s (ra.append rb) o⟩
 ·rw [if_neg hn] at o; exact o.elim
def fRep (c:Bool):W->W->R W
 | .lst us,.int k=>if us.length*k.toNat<=1000 /\ -1000<=k/\k<=1000 then chks c (List.replicate k.toNat us).flatten else .stuck
 | _,_=>.stuck
end
end TP
namespace TP
open PySem L2
def mC (w:W):Rho->R W:=fun _=>.ok w
def b1 (f:W->R W) (ma:Rho->R W):Rho->R W:=fun ρ=>ma ρ>>=fun x=>f x
def b2 (f:W->W->R W) (ma mb:Rho->R W):Rho->R W:=fun ρ=>ma ρ>>=fun x=>mb ρ>>=fun y=>f x y
def bA (f:List W->R W) (ma:Rho->R (List W)):Rho->R W:=fun ρ=>ma ρ>>=fun ws=>f ws
def bI (f:List W->R (List W)) (ma:Rho->R (List W)):Rho->R (List W):=fun ρ=>ma ρ>>=f
def bS (ma:Rho->R W):Rho->R (List W):=fun ρ=>ma ρ>>=u8
def aN:Rho->R (List W):=fun _=>.ok []
def aC (ma:Rho->R W) (mr:Rho->R (List W)):Rho->R (List W):=fun ρ=>ma ρ>>=fun x=>mr ρ>>=fun xs=>.ok (x::xs)
def av (ma:Rho->R W):Rho->R W:=fun ρ=>ma ρ>>=chk
def d5 (ma:Rho->R W):Rho->R Bool:=fun ρ=>ma ρ>>=toB
def cX (a b:Rho->R Bool):Rho->R Bool:=fun ρ=>rAnd (a ρ) (b ρ)
def aA (a b:Rho->R Bool):Rho->R Bool:=fun ρ=>rOr (a ρ) (b ρ)
def y8 (a:Rho->R Bool):Rho->R Bool:=fun ρ=>lq (a ρ)
def vAnd (a b:Rho->R W):Rho->R W:=fun ρ=>db (a ρ) (b ρ)
def vOr (a b:Rho->R W):Rho->R W:=fun ρ=>eJ (a ρ) (b ρ)
def vNot (a:Rho->R W):Rho->R W:=fun ρ=>ln (a ρ)
def vIf (c:Rho->R Bool) (a b:Rho->R W):Rho->R W:=fun ρ=>c ρ>>=fun t=>if t then a ρ else b ρ
def cT (f f':W->W->R W) (ma mb mc:Rho->R W):Rho->R W:=fun ρ=>ma ρ>>=fun x=>mb ρ>>=fun y=>f x y>>=fun z=>toB z>>=fun c=>if c then mc ρ>>=fun u=>f' y u else .ok (.bl false)
def G7 (ma:Rho->R (List W)):Rho->R W:=fun ρ=>ma ρ>>=fun ws=>lim ws.length (.tup ws)
def C5 (ma:Rho->R (List W)):Rho->R W:=fun ρ=>ma ρ>>=fun ws=>lim ws.length (.lst ws)
def pN:Rho->R (Option Int):=fun _=>.ok none
def pS (m:Rho->R W):Rho->R (Option Int):=fun ρ=>m ρ>>=gf
def vSl (c:Bool) (m:Rho->R W) (ml mh:Rho->R (Option Int)):Rho->R W:=fun ρ=>m ρ>>=fun x=>ml ρ>>=fun l=>mh ρ>>=fun u=>toR (lstOf x)>>=fun ws=>chks c (J3 ws l u)
def w9 (n:Nat) (mi:Rho->R (List W)) (mg:W->Rho->Option Rho) (mc:Rho->R Bool) (me:Rho->R W):Rho->R W:=fun ρ=>mi ρ>>=fun ws=>m8 n mg mc me ws ρ
def yes:Rho->R Bool:=fun _=>.ok true
def sNx:Rho->R Fl:=fun ρ=>.ok (.nx ρ)
def Cu (m:Rho->R W):Rho->R Fl:=fun ρ=>m ρ>>=fun _=>.ok (.nx ρ)
def h9 (m:Rho->R W):Rho->R Fl:=fun ρ=>m ρ>>=fun w=>.ok (.rt w)
def Cr:Rho->R Fl:=fun _=>.ok (.rt .non)
def sV (i:Nat) (m:Rho->R W):Rho->R Fl:=fun ρ=>m ρ>>=fun w=>.ok (.nx (ρ.set i (.val w)))
def sU (i:Nat) (m:Rho->R W):Rho->R Fl:=fun ρ=>m ρ>>=fun w=>.ok (.nx (ρ.set i (.par w)))
def sF (i:Nat) (m:Rho->R W):Rho->R Fl:=fun ρ=>m ρ>>=fun w=>.ok (.nx (ρ.set i (N7 w)))
def sG (mg:W->Rho->Option Rho) (m:Rho->R W):Rho->R Fl:=fun ρ=>m ρ>>=fun w=>toR (mg w ρ)>>=fun ρ'=>.ok (.nx ρ')
def C7 (mi:Rho->R (List W)) (mg:W->Rho->Option Rho) (mb:Rho->R Fl):Rho->R Fl:=fun ρ=>mi ρ>>=fun ws=>E7 mg mb ws ρ
def hX (i:Nat) (m:Rho->R Fl):Rho->R Fl:=fun ρ=>m (frz i ρ)
def hV:Rho->R Fl:=fun _=>.stuck
def sBk:Rho->R Fl:=fun ρ=>.ok (.bk ρ)
def sCt:Rho->R Fl:=fun ρ=>.ok (.ct ρ)
section
variable {X:Cx} {e:Expr} {es:List Expr} {st:Stmt} {Ga:List Stmt}
theorem _root_.L2.PE.mono {t t':TE} (h:PE X e t) (hm:∀ σ H Q,t' σ H Q->t σ H Q):PE X e t':=fun pins s σ H Q I q=>h pins s σ H Q I (hm σ H Q q)
theorem _root_.L2.PT.mono {t t':TT} (h:PT X e t) (hm:∀ σ H Q,t' σ H Q->t σ H Q):PT X e t':=fun pins s σ H Q I q=>h pins s σ H Q I (hm σ H Q q)
theorem _root_.L2.PW.mono {t t':TT} (h:PW X e t) (hm:∀ σ H Q,t' σ H Q->t σ H Q):PW X e t':=fun wh pins s σ H Q I q=>h wh pins s σ H Q I (hm σ H Q q)
theorem _root_.L2.PA.mono {t t':TA} (h:PA X es t) (hm:∀ σ H Q,t' σ H Q->t σ H Q):PA X es t':=fun pos pins s σ H Q I q=>h pos pins s σ H Q I (hm σ H Q q)
theorem _root_.L2.PS.mono {t t':TS} (h:PS X st t) (hm:∀ D σ H,t' D σ H->t D σ H):PS X st t':=fun pins s σ H D I q=>h pins s σ H D I (hm D σ H q)
theorem _root_.L2.PSs.mono {t t':TS} (h:PSs X Ga t) (hm:∀ D σ H,t' D σ H->t D σ H):PSs X Ga t':=fun pins s σ H D I q=>h pins s σ H D I (hm D σ H q)
theorem _root_.L2.PI.mono {tg:Expr} {t t':TI} (h:PI X tg e t) (hm:∀ σ H Q,t' σ H Q->t σ H Q):PI X tg e t':=fun pins s σ H Q I q=>h pins s σ H Q I (hm σ H Q q)
theorem _root_.L2.PO.mono {oe:Option Expr} {t t':TO} (h:PO X oe t) (hm:∀ σ H Q,t' σ H Q->t σ H Q):PO X oe t':=by
 intro pins s σ H Q I q
 exact h pins s σ H Q I (hm σ H Q q)
end
section
variable {X:Cx} {K:Frag} {EX:EXT} {d b:Mode} {a c e:Expr} {es rest:List Expr} {pos:Pos} {ma mb mc:Rho->R W} {ta tb:Rho->R Bool} {mr:Rho->R (List W)}
theorem w4 (h:PE X e (tM K EX .F ma)):PE X e (tM K EX .V ma):=h.mono fun _ _ _ q=>vB q
theorem eN (h:PE X e (tM K EX .V ma)):PE X e (tM K EX .U ma):=h.mono fun _ _ _ q=>vz q
theorem g6 (h:PE X e (tM K EX .F ma)):PE X e (tM K EX .C ma):=h.mono fun _ _ _ q=>vC q
theorem j7 (h:PE X e (tM K EX .U ma)):PE X e (tM K EX .B ma):=h.mono fun _ _ _ q=>vA q
theorem j8 (h:PE X e (tM K EX .C ma)):PE X e (tM K EX .B ma):=h.mono fun _ _ _ q=>vD q
theorem aR (h:PE X e (tM K EX .U ma)):PE X e (tM K EX .V (av ma)):=h.mono fun _ _ _ q=>iE (.inr rfl) q
theorem yU (h:PE X e (tM K EX .U ma)):PE X e (tM K EX .F (av ma)):=h.mono fun _ _ _ q=>iE (.inl rfl) q
theorem qv (d:Mode) (i:Nat) {x:Str} (hN:X.N[i]?=some x:=by rfl) (hv:Vis X.env.scope x:=by first | exact Or.inl rfl | exact Or.inr (Or.inl rfl) | exact Or.inr (Or.inr rfl)) (hd:(x == ("__debug__" : Str))=false:=by decide)
  (Fo:(x == ("__classdict__" : Str))=false:=by decide):PE X (.Name x pos) (tM K EX d (a9 d i)):=(P4 hN hv hd Fo).mono fun _ _ _ q=>mE q
theorem b5 {i j}:PE X (.Constant (.int i) j pos) (tM K EX d (mC (.int i))):=pe_int.mono fun _ _ _ q=>Y7 rfl (fun _=>.int) q
theorem B7 {t j}:PE X (.Constant (.bool t) j pos) (tM K EX d (mC (.bl t))):=pe_bl.mono fun _ _ _ q=>Y7 rfl (fun _=>.bl) q
theorem z6 {j}:PE X (.Constant .none j pos) (tM K EX d (mC .non)):=pe_non.mono fun _ _ _ q=>Y7 rfl (fun _=>.non) q
theorem Z9 {x j}:PE X (.Constant (.str x) j pos) (tM K EX d (mC (.str x))):=pe_str.mono fun _ _ _ q=>Y7 rfl (fun _=>.str) q
theorem im {x:Str} {n:String} (hg:Gl X x) (hm:X.mg x=none) (hv:bootBuiltins x=some (.type n)) (hn:x ≠ "__name__" := by decide) (hd:(x == ("__debug__" : Str))=false:=by decide):PE X (.Name x pos) (tM K EX d (mC (.ty n))):=
 (vj (v:=.ty n) hg hm hv rfl hn hd).mono fun _ _ _ q=>Y7 rfl (fun _=>.ty) q
theorem g9 {op:Operator} {r:R2} {f:W->W->R W} (ho:OpR X (binaryOp op) r) (hr:Op2 K b d r f) (ha:PE X a (tM K EX b ma)) (hb:PE X c (tM K EX b mb)):PE X (.BinOp a op c pos) (tM K EX d (b2 f ma mb)):=
 (CM ho ha hb).mono fun _ _ _ q=>jd hr q
theorem lB {op:CmpOp} {r:R2} {f:W->W->R W} (ho:OpR X (compareOp op) r) (hr:Op2 K b d r f) (ha:PE X a (tM K EX b ma)) (hb:PE X c (tM K EX b mb)) (hm:behindInMarks op c=false:=by first | exact iB _ | rfl):PE X (.Compare a [op] [c] pos) (tM K EX d (b2 f ma mb)):=
 (vi ho ha hb hm).mono fun _ _ _ q=>jd hr q
theorem i5 {op:CmpOp} {r:R2} {f:W->W->R W} (ho:OpR X (compareOp op) r) (hr:Op2 K b .B r f) (ha:PE X a (tM K EX b ma)) (hb:PE X c (tM K EX b mb)) (hm:behindInMarks op c=false:=by first | exact iB _ | rfl):PT X (.Compare a [op] [c] pos) (tT K EX (d5 (b2 f ma mb))):=
 (vb ho ha hb hm).mono fun σ H Q q=>by
  obtain ⟨H0,G,ρ,I,o⟩:=q
  have:=jc (ma:=b2 f ma mb) ⟨H0,G,ρ,I,o⟩
  exact jd hr this
theorem lw {op:UnaryOp} {r:V->Hp->VK->Prop} {f:W->R W} (ho:UnR X (unaryOp op) r) (hr:Op1 K b d r f) (ha:PE X a (tM K EX b ma)):PE X (.UnaryOp op a pos) (tM K EX d (b1 f ma)):=
 (CK ho ha).mono fun _ _ _ q=>c_un hr q
theorem p7 (ha:PE X a (tM K EX .B ma)) (he:∀ whole,isTrue a X.env whole=(do let v <- whole; standAt a.pos; holding [v] (truthy v)):=by intro _; rfl):PT X a (tT K EX (d5 ma)):=
 (yY ha he).mono fun _ _ _ q=>c_tB q
theorem eL (ha:PT X a (tT K EX ta)):PW X (.BoolOp .And [a] pos) (tT K EX ta):=va ha
theorem aP (ha:PT X a (tT K EX ta)):PW X (.BoolOp .Or [a] pos) (tT K EX ta):=yW ha
theorem io {b:Expr} (ha:PT X a (tT K EX ta)) (hb:PW X (.BoolOp .And (b::rest) pos) (tT K EX tb)):PW X (.BoolOp .And (a::b::rest) pos) (tT K EX (cX ta tb)):=(yX ha hb).mono fun _ _ _ q=>DN q
theorem bD {b:Expr} (ha:PT X a (tT K EX ta)) (hb:PW X (.BoolOp .Or (b::rest) pos) (tT K EX tb)):PW X (.BoolOp .Or (a::b::rest) pos) (tT K EX (aA ta tb)):=(CD ha hb).mono fun _ _ _ q=>c_or q
theorem v9 (ha:PT X a (tT K EX ta)):PT X (.UnaryOp .Not a pos) (tT K EX (y8 ta)):=(yZ ha).mono fun _ _ _ q=>DB q
theorem Cz {op} (h:PE X a (tM K EX d ma)):PE X (.BoolOp op [a] pos) (tM K EX d ma):=zk h
theorem q_or {b:Expr} (ha:PE X a (tM K EX .B ma)) (hb:PE X (.BoolOp .Or (b::rest) pos) (tM K EX d mb)):PE X (.BoolOp .Or (a::b::rest) pos) (tM K EX d (vOr ma mb)):=(CL ha hb).mono fun _ _ _ q=>Dz q
theorem qS {t:Expr} (ht:PT X t (tT K EX ta)) (ha:PE X a (tM K EX d ma)) (hb:PE X c (tM K EX d mb)):PE X (.IfExp t a c pos) (tM K EX d (vIf ta ma mb)):=(qY ht ha hb).mono fun _ _ _ q=>c_if q
theorem qR {op Hi:CmpOp} {r r':R2} {f f':W->W->R W} {x y z:Expr} (ho:OpR X (compareOp op) r) (hr:Op2 K b .B r f) (FM:OpR X (compareOp Hi) r') (Jv:Op2 K b .B r' f') (ha:PE X x (tM K EX b ma)) (hb:PE X y (tM K EX b mb)) (hc:PE X z (tM K EX b mc))
  (hm:lastMarks [op,Hi] [y,z]=false:=by with_unfolding_all rfl):PT X (.Compare x [op,Hi] [y,z] pos) (tT K EX (d5 (cT f f' ma mb mc))):=
 (qT ho FM ha hb hc hm).mono fun σ H Q q=>by
  obtain ⟨H0,G,ρ,I,o⟩:=q
  have:=jc (ma:=cT f f' ma mb mc) ⟨H0,G,ρ,I,o⟩
  exact wO hr Jv this
theorem b4:PA X [] (tA K EX d aN):=pa_nil.mono fun _ _ _ q=>DC q
theorem a8 (ha:PE X e (tM K EX d ma)) (hr:PA X es (tA K EX d mr)) (hs:starEach (e::es) X.env=(false,eval e X.env)::starEach es X.env:=by rfl):PA X (e::es) (tA K EX d (aC ma mr)):=(X4 ha hr hs).mono fun _ _ _ q=>BT q
theorem N8 {x1} (h:PA X es (tA K EX .V mr)):PE X (.Tuple es x1 pos) (tM K EX .F (G7 mr)):=(oj h).mono fun _ _ _ q=>Du q
theorem nY {x1} (h:PA X es (tA K EX .U mr)):PE X (.Tuple es x1 pos) (tM K EX .U (G7 mr)):=(oj h).mono fun _ _ _ q=>BK q
theorem z7 (h:PA X es (tA K EX .V mr)):PE X (.List es pos) (tM K EX .F (C5 mr)):=(zl h).mono fun _ _ _ q=>DD q
theorem f7 (ha:PE X a (tM K EX .B ma)) (hb:PE X c (tM K EX .B mb)) (hs:fr c:=by exact fun _ _=>rfl) (hK:X.K=K:=by rfl):PE X (.Subscript a c pos) (tM K EX .U (b2 fIx ma mb)):=by
 subst hK; exact (tJ oJ ha hb hs).mono fun _ _ _ q=>jd zA q
theorem ge (ha:PE X a (tM K EX .C ma)) (hb:PE X c (tM K EX .C mb)) (hs:fr c:=by exact fun _ _=>rfl) (hK:X.K=K:=by rfl):PE X (.Subscript a c pos) (tM K EX .V (b2 fIx ma mb)):=by
 subst hK; exact (tJ oJ ha hb hs).mono fun _ _ _ q=>jd zw q
theorem q_pN:PO X none (aB K EX pN):=po_none.mono fun _ _ _ q=>sK q
theorem q_pS (h:PE X e (tM K EX .B ma)):PO X (some e) (aB K EX (pS ma)):=(vd h).mono fun _ _ _ q=>BQ q
theorem q_sl (k:Bool) {lo hi:Option Expr} {p2:Pos} {ml mh:Rho->R (Option Int)} (he:PE X e (tM K EX (cb k) ma)) (hl:PO X lo (aB K EX ml)) (hu:PO X hi (aB K EX mh)) (hK:X.K=K:=by rfl):PE X (.Subscript e (.Slice lo hi none p2) pos) (tM K EX .F (vSl k ma ml mh)):=by
 subst hK; exact (qX uv he hl hu).mono fun _ _ _ q=>c_sl q
theorem r6 {x:Str} {id:String} {r:List V->Hp->VK->Prop} {f:List W->R W} {p:Pos} (hc:E2 X (.builtin id) r) (hr:Cal K b d r f) (hg:Gl X x) (hm:X.mg x=none) (hv:bootBuiltins x=some (.builtin id)) (ha:PA X (e::es) (tA K EX b mr))
  (hn:x ≠ "__name__" := by decide) (Fv:(x == ("__debug__" : Str))=false:=by decide) (he:starEach (e::es) X.env=(false,eval e X.env)::starEach es X.env:=by rfl) (Fn:(backTo pos (starEach es X.env)).any (·.1)=false:=by rfl) :
  PE X (.Call (.Name x p) (e::es) [] pos) (tM K EX d (bA f mr)):=(qZ hc hg hm hv ha hn Fv he Fn).mono fun _ _ _ q=>sL hr q
theorem M0 {x:Str} {T:String} {r:List V->Hp->VK->Prop} {f:List W->R W} {p:Pos} (hc:E2 X (.type T) r) (hr:Cal K b d r f) (hg:Gl X x) (hm:X.mg x=none) (hv:bootBuiltins x=some (.type T)) (ha:PA X (e::es) (tA K EX b mr))
  (hn:x ≠ "__name__" := by decide) (Fv:(x == ("__debug__" : Str))=false:=by decide) (he:starEach (e::es) X.env=(false,eval e X.env)::starEach es X.env:=by rfl) (Fn:(backTo pos (starEach es X.env)).any (·.1)=false:=by rfl) :
  PE X (.Call (.Name x p) (e::es) [] pos) (tM K EX d (bA f mr)):=(om hc hg hm hv ha hn Fv he Fn).mono fun _ _ _ q=>sL hr q
theorem B0 (hK:X.K=K:=by rfl):E2 X (.builtin "len") (fun xs H Q=>∃ p ys,xs = [.ref p]/\(SqL K H p ys\/SqT K H p ys)/\Q (.int ys.length) H):=by subst hK; exact jb
theorem jq (hK:X.K=K:=by rfl):E2 X (.type "list") (fun xs H Q=>∃ p ys,xs = [.ref p]/\(SqL K H p ys\/SqT K H p ys)/\∀ l,H l=none->Q (.ref l) (upd H l (.lst ys))):=by subst hK; exact ja
theorem O7 (hK:X.K=K:=by rfl):E2 X (.type "tuple") (fun xs H Q=>∃ p ys,xs = [.ref p]/\((SqL K H p ys/\∀ l,H l=none->Q (.ref l) (upd H l (.tup ys)))\/(SqT K H p ys/\Q (.ref p) H))):=by subst hK; exact gc
theorem c9 {k:Nat} {f:Addr} {fd:FuncData} {ps:List Str} {x:Str} {p:Pos} {n N:Nat} {m:Rho->R Fl} (F:FnOk X.prog X.w X.K X.mg X.base CX0 k f fd ps (spM K n d (g8 n N m))) (hd:d=.F\/d=.V) (hr:Room k X.A) (hg:Gl X x) (hm:X.mg x=some (.ref f)) (hk:PySem.W.keepIn X.K (.ref f)=true) (hb:Binds X.K fd ps [])
  (ha:PA X (e::es) (tA K (fun _ _=>False) .B mr)) (Fv:(x == ("__debug__" : Str))=false:=by decide) (he:starEach (e::es) X.env=(false,eval e X.env)::starEach es X.env:=by rfl) (Fn:(backTo pos (starEach es X.env)).any (·.1)=false:=by rfl) :
  PE X (.Call (.Name x p) (e::es) [] pos) (tM K (fun _ _=>False) d (bA (g8 n N m) mr)):=
 (bF F hr hg hm hk hb .nil dh ha Fv he Fn).mono fun _ _ _ q=>BU hd (fun ws h=>qE ws h) (fun _ _ z=>z) q
variable {tg:Expr} {lp:Bool}
theorem tF (h:PE X e (tM K EX (aE lp .U) ma)) (hK:X.K=K:=by rfl):PI X tg e (tIt K EX lp .U (bS ma)):=by subst hK; exact (CJ h).mono fun _ _ _ q=>DG (.inr rfl) q
theorem P2 {p:Pos} (hg:Gl X "range") (hm:X.mg "range" = none) (ha:PA X [a] (tA K EX .B mr)) (hs:starEach [a] X.env = [(false,eval a X.env)]:=by rfl):PI X tg (.Call (.Name "range" p) [a] [] pos) (tIt K EX lp .U (bI S7 mr)):=
 (oi hg hm ha hs).mono fun _ _ _ q=>BO (.inr rfl) q
theorem tD {elts:List Expr} {p tp:Pos} {k:Nat} (hg:Gl X "zip") (hm:X.mg "zip" = none) (ha:PA X (a::es) (tA K EX (aE lp .U) mr)) (hK:X.K=K:=by rfl) (hs:starEach (a::es) X.env=(false,eval a X.env)::starEach es X.env:=by rfl) (Fn:(backTo pos (starEach es X.env)).any (·.1)=false:=by rfl) :
  PI X (.Tuple elts k tp) (.Call (.Name "zip" p) (a::es) [] pos) (tIt K EX lp .U (bI E3 mr)):=by subst hK; exact (zg hg hm ha hs Fn).mono fun _ _ _ q=>Dt (.inr rfl) q
end
section
variable {X:Cx} {K:Frag} {EX:EXT} {d b:Mode} {e:Expr} {st:Stmt} {Ga:List Stmt} {pos:Pos} {ma mb:Rho->R W} {ta:Rho->R Bool} {m n:Rho->R Fl}
theorem B6 {cs:Scope} {N':List Str} {tg iter elt:Expr} {ifs:List Expr} {dd:Mode} {g:TG} {mg:W->Rho->Option Rho} {mi:Rho->R (List W)} (S:i8 X.env.scope cs X.N N') (hc:X.calm=true) (hi:PI X tg iter (tIt K EX false dd mi))
  (hg:∀ cl ex s H,PG (j5 X cs cl N' ex s H) tg g) (Hw:Gt K dd g mg) (hk:W3 X.N.length g) (ht:∀ cl ex s H,PIf (j5 X cs cl N' ex s H) ifs (tT K EX ta)) (he:∀ cl ex s H,PE (j5 X cs cl N' ex s H) elt (tM K EX .V ma))
  (hs:∀ x,foldedSetIterable iter X.env x=pure x:=by intro _; rfl):PE X (.ListComp elt [⟨tg,iter,ifs,0⟩] cs pos) (tM K EX .F (w9 N'.length mi mg ta ma)):=
 (vh S hc hi hg hk ht he hs).mono fun _ _ _ q=>pI Hw q
theorem yP {i:Nat} {y:Str} {py:Pos} {cs:Scope} {N':List Str} {tg iter elt:Expr} {ifs:List Expr} {dd:Mode} {g:TG} {mg:W->Rho->Option Rho} {mi:Rho->R (List W)} {EL:Pos} (S:i8 X.env.scope cs X.N N') (hc:X.calm=true) (hi:PI X tg iter (tIt K EX false dd mi))
  (hg:∀ cl ex s H,PG (j5 X cs cl N' ex s H) tg g) (Hw:Gt K dd g mg) (hk:W3 X.N.length g) (ht:∀ cl ex s H,PIf (j5 X cs cl N' ex s H) ifs (tT K EX ta)) (he:∀ cl ex s H,PE (j5 X cs cl N' ex s H) elt (tM K EX .V ma))
  (hN:X.N.Nodup) (hy:X.N[i]?=some y) (hl:Loc X.env.scope y)
  (FL:swapsWith (.ListComp elt [⟨tg,iter,ifs,0⟩] cs EL) (some (.Name y py)) pos.line X.env=pure true:=by rfl) (hf:X.fn y=true\/X.env.scope.names.lookup y=some .local:=by first | exact .inl rfl | exact .inr rfl | assumption)
  (hs:∀ x,foldedSetIterable iter X.env x=pure x:=by intro _; rfl):PS X (.Assign [.Name y py] (.ListComp elt [⟨tg,iter,ifs,0⟩] cs EL) pos) (tSt K EX d (sF i (w9 N'.length mi mg ta ma))):=
 (vc S hc hi hg hk ht he hN hy hl FL hf hs).mono fun D σ H q=>by
  have:=pH (m:=w9 N'.length mi mg ta ma) q
  exact pI Hw this
theorem B5:PIf X [] (tT K EX yes):=fun pins s σ H Q I q=>vf pins s σ H Q I (by obtain ⟨H0,G,ρ,I0,o⟩:=q; exact o true G H (Ext.refl I0.gh) rfl)
theorem yR {c:Expr} (h:PT X c (tT K EX ta)):PIf X [c] (tT K EX ta):=ve h
theorem j1:PSs X [] (tSt K EX d sNx):=pss_nil.mono fun _ _ _ q=>BR q
theorem b9 (h1:PS X st (tSt K EX d m)) (h2:PSs X Ga (tSt K EX d n)):PSs X (st::Ga) (tSt K EX d (c8 m n)):=(ip h1 h2).mono fun _ _ _ q=>Dw q
theorem b6 (h1:PS X st (tSt K EX d m)):PSs X [st] (tSt K EX d m):=jP h1
theorem lA {i:Nat} (h:PS X st (tSt K EX d m)):PS X st (tSt K EX d (hX i m)):=h.mono fun _ _ _ q=>DH q
theorem jO:PS X st (tSt K EX d hV):=ps_never.mono fun _ _ _ q=>wN q
theorem f8 (he:PE X e (tM K EX d ma)):PS X (.Return (some e) pos) (tSt K EX d (h9 ma)):=(nZ he).mono fun _ _ _ q=>tU q
theorem K4 (i:Nat) {x:Str} {p:Pos} (hd:d=.F\/d=.V) (hN:X.N[i]?=some x:=by rfl) (hv:Vis X.env.scope x:=by first | exact Or.inl rfl | exact Or.inr (Or.inl rfl) | exact Or.inr (Or.inr rfl)) (hdd:(x == ("__debug__" : Str))=false:=by decide)
  (Fo:(x == ("__classdict__" : Str))=false:=by decide):PS X (.Return (some (.Name x p)) pos) (tSt K EX d (t8 d i)):=(nZ (P4 hN hv hdd Fo)).mono fun _ _ _ q=>sJ hd q
theorem E6 {i:Nat} {x:Str} {pos':Pos} (hN:X.N.Nodup) (hi:X.N[i]?=some x) (hx:Loc X.env.scope x) (he:PE X e (tM K EX .V ma)) (hs:swapsWith e (some (.Name x pos')) pos.line X.env=pure false:=by rfl) (hf:X.fn x=true\/X.env.scope.names.lookup x=some .local:=by first | exact .inl rfl | exact .inr rfl | assumption) :
  PS X (.Assign [.Name x pos'] e pos) (tSt K EX d (sV i ma)):=(df hN hi hx he hs hf).mono fun _ _ _ q=>BL q
theorem dc {i:Nat} {x:Str} {pos':Pos} (hN:X.N.Nodup) (hi:X.N[i]?=some x) (hx:Loc X.env.scope x) (he:PE X e (tM K EX .U ma)) (hs:swapsWith e (some (.Name x pos')) pos.line X.env=pure false:=by rfl) (hf:X.fn x=true\/X.env.scope.names.lookup x=some .local:=by first | exact .inl rfl | exact .inr rfl | assumption) :
  PS X (.Assign [.Name x pos'] e pos) (tSt K EX d (sU i ma)):=(df hN hi hx he hs hf).mono fun _ _ _ q=>BM q
theorem l7 {i:Nat} {x:Str} {pos':Pos} (hN:X.N.Nodup) (hi:X.N[i]?=some x) (hx:Loc X.env.scope x) (he:PE X e (tM K EX .F ma)) (hs:swapsWith e (some (.Name x pos')) pos.line X.env=pure false:=by rfl) (hf:X.fn x=true\/X.env.scope.names.lookup x=some .local:=by first | exact .inl rfl | exact .inr rfl | assumption) :
  PS X (.Assign [.Name x pos'] e pos) (tSt K EX d (sF i ma)):=(df hN hi hx he hs hf).mono fun _ _ _ q=>pH q
theorem tG {tg:Expr} {g:TG} {mg:W->Rho->Option Rho} (he:PE X e (tM K EX b ma)) (hg:PG X tg g) (Hw:Gt K b g mg) (hs:swapsWithSole [tg] e pos.line X.env=pure false:=by rfl) (hw:swappedStores [tg] e X.env=pure none:=by rfl) (h1:(assignEach [tg] X.env).map (·.2) = [assign tg X.env]:=by rfl):PS X (.Assign [tg] e pos) (tSt K EX d (sG mg ma)):=
 (oa he hg hs hw h1).mono fun _ _ _ q=>DL Hw q
theorem Q7 {i:Nat} {x:Str} {p apos EL:Pos} (hN:X.N[i]?=some x) (hv:Vis X.env.scope x) (ha:PE X e (tM K EX .V ma)) (hd:(x == ("__debug__" : Str))=false:=by decide) (Fo:(x == ("__classdict__" : Str))=false:=by decide)
  (ET:attributeBase (.Name x p) "append" X.env (eval (.Name x p) X.env)=eval (.Name x p) X.env:=by rfl)
  (FA:((backTo EL (starEach [e] X.env)).all (fun x=>!x.1)&&(backToKw EL (keywordEach [] X.env)).all (fun x=>x.1.isSome)
   && decide (([e]:List Expr).length+([]:List Keyword).length+(if ([]:List Keyword).isEmpty then 0 else 1)<30))=true:=by rfl)
  (ER:(apos.endLine == EL.line)=true:=by rfl) (hs:starEach [e] X.env=(false,eval e X.env)::starEach [] X.env:=by rfl) (FL:swapsWith (.Call (.Attribute (.Name x p) "append" apos) [e] [] EL) none pos.line X.env=pure false:=by rfl) :
  PS X (.Expr (.Call (.Attribute (.Name x p) "append" apos) [e] [] EL) pos) (tSt K EX d (M4 i ma)):=(X3 (fD (P4 hN hv hd Fo) ha ET FA ER hs) FL).mono fun _ _ _ q=>DM q
theorem i7 {c:Expr} {x y:List Stmt} (hc:PT X c (tT K EX ta)) (ha:PSs X x (tSt K EX d m)) (hb:PSs X y (tSt K EX d n)):PS X (.If c x y pos) (tSt K EX d (mIf ta m n)):=(tH hc ha hb).mono fun _ _ _ q=>DE q
theorem eK {c:Expr} {body:List Stmt} (hp:PassesOwn (model X.prog X.w) X.A X.env X.xe) (hc:PT X c (tT K EX ta)) (hb:PSs X body (tSt K EX d m)):PS X (.While c body [] pos) (tSt K EX d (K8 ta m)):=(qU hp hc hb).mono fun _ _ _ q=>wM q
theorem z8 {tg iter:Expr} {body:List Stmt} {dd:Mode} {g:TG} {mg:W->Rho->Option Rho} {mi:Rho->R (List W)} (hp:PassesOwn (model X.prog X.w) X.A X.env X.xe) (hc:X.calm=true) (hi:PI X tg iter (tIt K EX true dd mi)) (hg:PG X tg g) (Hw:Gt K dd g mg) (hb:PSs X body (tSt K EX d m))
  (hs:∀ x,foldedSetIterable iter X.env x=pure x:=by intro _; rfl):PS X (.For tg iter body [] pos) (tSt K EX d (C7 mi mg m)):=(za hp hc hi hg hb hs).mono fun _ _ _ q=>DI Hw q
theorem CC {i:Nat} {x:Str} {op:Operator} {f:Int->Int->Int} {pos':Pos} (hN:X.N.Nodup) (hi:X.N[i]?=some x) (hx:Loc X.env.scope x) (he:PE X e (tM K EX .B ma)) (ho:PIp X op (ipI f)) (hf:X.fn x=true\/X.env.scope.names.lookup x=some .local:=by first | exact .inl rfl | exact .inr rfl | assumption) :
  PS X (.AugAssign (.Name x pos') op e pos) (tSt K EX d (iO i f ma)):=(zb hN hi hx he ho hf).mono fun _ _ _ q=>DK q
theorem de {i:Nat} {x:Str} {k:Expr} {p p2:Pos} (hN:X.N[i]?=some x) (hv:Vis X.env.scope x) (hk:PE X k (tM K EX .B mb)) (he:PE X e (tM K EX .V ma)) (hd:(x == ("__debug__" : Str))=false:=by decide) (Fo:(x == ("__classdict__" : Str))=false:=by decide)
  (hg:PG X (.Subscript (.Name x p) k p2) (gSub (S3 i) (tM K EX .B mb) rSetL))
  (hs:swapsWithSole [.Subscript (.Name x p) k p2] e pos.line X.env=pure false:=by rfl) (hw:swappedStores [.Subscript (.Name x p) k p2] e X.env=pure none:=by rfl):PS X (.Assign [.Subscript (.Name x p) k p2] e pos) (tSt K EX d (ad i mb ma)):=
 (oa he hg hs hw).mono fun _ _ _ q=>Dv q
end
end TP
namespace TP
open PySem L2
abbrev gLt (i j:Int):W:=.bl (decide (i<j))
abbrev gLe (i j:Int):W:=.bl (decide (i<=j))
abbrev gGt (i j:Int):W:=.bl (decide (j<i))
abbrev gGe (i j:Int):W:=.bl (decide (j<=i))
abbrev o7 (i j:Int):W:=.int (i+j)
abbrev gSub (i j:Int):W:=.int (i-j)
abbrev x9 (i j:Int):W:=.int (i*j)
abbrev J0 (i j:Int):W:=.int (i%j)
abbrev sh (i j:Int):W:=.int (i/j)
abbrev aj (i j:Int):W:=.int (i^j.toNat)
abbrev ak (i:Int):W:=.int (-i)
abbrev ff (i j:Int):Int:=if j>i then j else i
abbrev AG (i j:Int):Int:=if j<i then j else i
abbrev tQ (i j:Int):Int:=i+j
abbrev Dh (i j:Int):Int:=i-j
abbrev F5 (_ j:Int):Prop:=0<j
instance (i j:Int):Decidable (CMul i j):=by unfold CMul; infer_instance
instance (i j:Int):Decidable (bq i j):=by unfold bq; infer_instance
instance (i j:Int):Decidable (N5 i j):=by unfold N5; infer_instance
instance (i j:Int):Decidable (uc i j):=by unfold uc; infer_instance
def vOf:W->Option V
 | .non=>some .non
 | .bl b=>some (.bl b)
 | .int i=>some (.int i)
 | .str x=>some (.str x)
 | _=>none
def su (u v:W):Option Bool:=match vOf u,vOf v with
 | some x,some y=>if hJ x y then some (decide (x=y)) else none
 | _,_=>none
def p5 (neg:Bool) (u v:W):R W:=match su u v with
 | some b=>.ok (.bl (if neg then !b else b))
 | none=>.stuck
section
variable {K:Frag} {H0 G H:Hp} {ρ:Rho} {σ:St} {d:Mode}
theorem gd {Ha:Hp} {v:V} {w:W} {x:V} (h:Md K H0 Ha G H v w .B) (e:vOf w=some x):v=x:=by
 cases w <;> first | cases e | skip
 ·exact h.nonB
 ·exact h.blB
 ·exact h.intB
 ·exact h.strB
theorem F7:Op2 K .B d rEq (p5 false):=by
 intro EX H0 Hs G H ρ σ Ha Hb x y u v Q I s mx my o
 unfold p5 su at o
 cases hu:vOf u with
 | none=>rw [hu] at o; exact o.elim
 | some p=>
  cases hv:vOf v with
  | none=>rw [hu,hv] at o; exact o.elim
  | some q=>
   rw [hu,hv] at o
   cases gd mx hu
   cases gd my hv
   dsimp only at o
   by_cases c:hJ x y=true
   ·rw [if_pos c] at o
    exact ⟨c,o _ G H (Ext.refl I.gh) (Md.sca rfl (fun _=>.bl) d)⟩
   ·rw [if_neg c] at o; exact o.elim
theorem ox:Op2 K .B d rNe (p5 true):=by
 intro EX H0 Hs G H ρ σ Ha Hb x y u v Q I s mx my o
 unfold p5 su at o
 cases hu:vOf u with
 | none=>rw [hu] at o; exact o.elim
 | some p=>
  cases hv:vOf v with
  | none=>rw [hu,hv] at o; exact o.elim
  | some q=>
   rw [hu,hv] at o
   cases gd mx hu
   cases gd my hv
   dsimp only at o
   by_cases c:hJ x y=true
   ·rw [if_pos c] at o
    exact ⟨c,o _ G H (Ext.refl I.gh) (Md.sca rfl (fun _=>.bl) d)⟩
   ·rw [if_neg c] at o; exact o.elim
end
theorem zN {P:Program} {w:World} {K:Frag} {mg:Str->Option Value} {base:Heap} {k:Nat} {f:Addr} {fd:FuncData} {ps:List Str} {d:Mode} {F:List W->R W} (G:FnOk P w K mg base CX0 k f fd ps (spM K 1 d F))
  (h:∀ ns:List Int,ns.length<=63->F [.scr (ns.map W.int)]=.ok (.bl true)):FnOk P w K mg base CX0 k f fd ps (fun vs H Q _=>∃ (a:Addr) (ns:List Int),vs = [.ref a]/\SqL K H a (ns.map V.int)/\ns.length<=63/\∀ H',Q (.bl true) H'):=
 G.imp fun vs H Q E zz81=>by
  obtain ⟨a,ns,e,hs,hl,q⟩:=zz81
  subst e
  refine ⟨rfl,[.scr (ns.map W.int)],.cons (.scr hs ?_) .nil,?_⟩
  ·clear hs hl
   induction ns with
   | nil=>exact .nil
   | cons n ns ih=>exact .cons .int ih
  ·rw [h ns hl]
   intro v G' H' _ _ _ m
   have e:v=.bl true:=by
    cases d <;> first | exact Rep.inv m | (rcases m with m | ⟨_,_,_,_,z,_⟩ <;> first | exact Rep.inv m | cases z)
   subst e
   exact q H'
end TP
namespace TP
open PySem L2
mutual
def pd:W->PyData
 | .non=>.none
 | .bl b=>.bool b
 | .int i=>.int i
 | .str x=>.str x
 | .ty _=>.none
 | .exc _ _=>.none
 | .cls _=>.none
 | .tup ws=>.tuple (pds ws)
 | .lst ws=>.list (pds ws)
 | .scr ws=>.list (pds ws)
def pds:List W->List PyData
 | []=>[]
 | w::ws=>pd w::pds ws
end
mutual
def shp:Nat->W->Bool
 | _,.non=>true
 | _,.bl _=>true
 | _,.int _=>true
 | _,.str x=>PyData.strOk x
 | n+1,.tup ws=>S4 n ws
 | n+1,.lst ws=>S4 n ws
 | n+1,.scr ws=>S4 n ws
 | _,_=>false
def S4:Nat->List W->Bool
 | _,[]=>true
 | n,w::ws=>shp n w&&S4 n ws
end
theorem xI:∀ (w:W) (n:Nat),shp n w=true->(pd w).canLay0=true/\(pd w).depth<=n:=by
 intro w
 have tl:∀ (ws:List W) (c:List PyData->PyData),(∀ l,(c l).canLay0=PyData.canLayAll0 l)->(∀ l,(c l).depth=PyData.depthAll l+1)->(∀ n:Nat,S4 n ws=true->PyData.canLayAll0 (pds ws)=true/\PyData.depthAll (pds ws)<=n)->∀ n:Nat,(match n with | 0=>false | n+1=>S4 n ws)=true->(c (pds ws)).canLay0=true/\(c (pds ws)).depth<=n:=fun ws c h1 h2 ih n h=>by
  cases n with
  | zero=>cases h
  | succ n=>have:=ih n h; exact ⟨by rw [h1]; exact this.1,by rw [h2]; exact Nat.succ_le_succ this.2⟩
 have fl:∀ {n:Nat} {w:W} {P:Prop},shp n w=false->shp n w=true->P:=fun h1 h2=>by rw [h1] at h2; cases h2
 induction w using W.rec (motive_2:=fun ws=>∀ n:Nat,S4 n ws=true->PyData.canLayAll0 (pds ws)=true/\PyData.depthAll (pds ws)<=n) with
 | non=>exact fun n _=>⟨rfl,Nat.zero_le _⟩
 | bl b=>exact fun n _=>⟨rfl,Nat.zero_le _⟩
 | int i=>exact fun n _=>⟨rfl,Nat.zero_le _⟩
 | str x=>exact fun n h=>⟨by cases n <;> exact h,Nat.zero_le _⟩
 | ty a=>exact fun n h=>fl (by cases n <;> rfl) h
 | exc a b=>exact fun n h=>fl (by cases n <;> rfl) h
 | cls a=>exact fun n h=>fl (by cases n <;> rfl) h
 | tup ws ih=>exact fun n h=>tl ws .tuple (fun _=>rfl) (fun _=>rfl) ih n (by cases n <;> exact h)
 | lst ws ih=>exact fun n h=>tl ws .list (fun _=>rfl) (fun _=>rfl) ih n (by cases n <;> exact h)
 | scr ws ih=>exact fun n h=>tl ws .list (fun _=>rfl) (fun _=>rfl) ih n (by cases n <;> exact h)
 | nil=>exact ⟨rfl,Nat.zero_le _⟩
 | cons w ws h1 h2=>
  rename_i n h
  have h':shp n w=true/\S4 n ws=true:=(Bool.and_eq_true _ _).mp h
  have a:=h1 n h'.1
  have b:=h2 n h'.2
  exact ⟨by show (PyData.canLay0 _&&PyData.canLayAll0 _)=true; rw [a.1,b.1]; rfl,Nat.max_le.mpr ⟨a.2,b.2⟩⟩
section
variable {X:Cx} {pins:List (Addr×Obj)} {σ:St} {H:Hp} {s:Shared}
theorem Rep.reads (I:Inv X pins σ H s) {x:V} {w:W} {u:Value} (n:Nat) (r:Rep X.K H x w):shp n w=true->RelV x u->∃ as,Reads s.heap u (pd w) as:=by
 have fl:∀ {n:Nat} {w:W} {P:Prop},shp n w=false->shp n w=true->P:=fun h1 h2=>by rw [h1] at h2; cases h2
 induction r using Rep.rec (motive_2:=fun xs ws _=>∀ (us:List Value) (n:Nat),S4 n ws=true->Vals xs us->∃ as,ReadsAll s.heap us (pds ws) as) generalizing u n with
 | non=>intro _ r; cases r; exact ⟨_,.none⟩
 | bl=>intro _ r; cases r; exact ⟨_,.bool _⟩
 | int=>intro _ r; obtain ⟨t,rfl⟩:=r; exact ⟨_,.int _ _⟩
 | str=>intro _ r; obtain ⟨t,rfl⟩:=r; exact ⟨_,.str _ _⟩
 | ty=>exact fun h _=>fl (by cases n <;> rfl) h
 | exc=>exact fun h _=>fl (by cases n <;> rfl) h
 | cls=>exact fun h _=>fl (by cases n <;> rfl) h
 | tup ha _ ih=>
  intro h r
  cases r
  cases n with
  | zero=>cases h
  | succ n=>
   obtain ⟨its,rv,⟨o,e,c,k,dd⟩,_⟩:=I.tuple (SqT.of ha)
   obtain ⟨as,q⟩:=ih _ n h rv
   exact ⟨_,.tuple e c dd (by simpa using q)⟩
 | lst ha _ ih=>
  intro h r
  cases r
  cases n with
  | zero=>cases h
  | succ n=>
   obtain ⟨its,rv,pl,_⟩:=I.list (SqL.of ha)
   obtain ⟨o,e,c,k,dd⟩:=pl.isList
   obtain ⟨as,q⟩:=ih _ n h rv
   exact ⟨_,.list e c dd (by simpa using q)⟩
 | scr ha _ ih=>
  intro h r
  cases r
  cases n with
  | zero=>cases h
  | succ n=>
   obtain ⟨its,rv,pl,_⟩:=I.list ha
   obtain ⟨o,e,c,k,dd⟩:=pl.isList
   obtain ⟨as,q⟩:=ih _ n h rv
   exact ⟨_,.list e c dd (by simpa using q)⟩
 | nil=>rename_i us n _ r; cases r; exact ⟨_,.nil⟩
 | cons _ _ h1 h2=>
  rename_i us n h r
  cases r with
  | cons r1 r2=>
   have h':=(Bool.and_eq_true _ _).mp h
   obtain ⟨as,q1⟩:=h1 n h'.1 r1
   obtain ⟨bs,q2⟩:=h2 _ n h'.2 r2
   exact ⟨_,.cons q1 q2⟩
def eqW (u v:W):Bool:=PyData.eqv (pd u) (pd v)
def yO (K:Frag) (neg:Bool):R2:=fun x y H Q=>∃ u v,Rep K H x u/\Rep K H y v/\shp 8 u=true/\shp 8 v=true/\Q (.bl (if neg then !eqW u v else eqW u v)) H
theorem fw {w:W} (h:shp 8 w=true):SeqAt.shaped (pd w)=true:=by
 obtain ⟨a,b⟩:=xI w 8 h
 unfold SeqAt.shaped
 rw [a,Bool.true_and]
 exact decide_eq_true (Nat.le_trans b (by decide))
theorem oq (hu:X.A.units+64<cLine):OpR X (compareOp .Eq) (yO X.K false):=by
 intro pins s σ H x y v u Q I rx ry h
 obtain ⟨a,b,ra,rb,sa,sb,q⟩:=h
 obtain ⟨as,qa⟩:=Rep.reads I 8 ra sa rx
 obtain ⟨bs,qb⟩:=Rep.reads I 8 rb sb ry
 exact PyProof.Rows.eq_dataH qa qb (fw sa) (fw sb) hu ⟨.bl (eqW a b),H,I,rfl,q⟩
def fEq (neg:Bool) (u v:W):R W:=if shp 8 u&&shp 8 v then .ok (.bl (if neg then !eqW u v else eqW u v)) else .stuck
theorem oy {K:Frag} {d:Mode} {neg:Bool}:Op2 K .B d (yO K neg) (fEq neg):=by
 intro EX H0 Hs G H ρ σ Ha Hb x y u v Q I s mx my o
 unfold fEq at o
 by_cases c:(shp 8 u&&shp 8 v)=true
 ·rw [if_pos c] at o
  have c':shp 8 u=true/\shp 8 v=true:=by simpa using c
  exact ⟨u,v,mx.whole I,my.whole I,c'.1,c'.2,o _ G H (Ext.refl I.gh) (Md.sca rfl (fun _=>.bl) d)⟩
 ·rw [if_neg c] at o; exact o.elim
def W5:W->Bool->Bool
 | .bl a,b=>a == b
 | _,_=>false
def fIsB (neg:Bool):W->W->R W
 | u,.bl b=>.ok (.bl (if neg then !W5 u b else W5 u b))
 | _,_=>.stuck
end
theorem AE {A:Around} {k:Nat} (hr:Room k A):A.units+64<cLine:=hr.units
end TP
namespace TP
open PySem L2
section
variable {X:Cx} {pins:List (Addr×Obj)} {σ:St} {H:Hp} {s:Shared}
theorem L8 {x:V} {us:List Value} (r:Vals [x] us):∃ u,us = [u]/\RelV x u:=by
 cases r with
 | cons a t=>cases t; exact ⟨_,rfl,a⟩
theorem oI {h':Heap} {o:Obj} (hk:∀ b u,b ∉ [s.heap.objs.size]->(s.heap.push o).get? b=some u->h'.get? b=some u):∀ b u,s.heap.get? b=some u->h'.get? b=some u:=fun b u e=>
 hk b u (by simp; exact Nat.ne_of_lt (Heap.lt_size e)) (Heap.get?_push_of_some _ e)
theorem xn {α:Type} {f:α->V} {g:α->Value->Prop} (hg:∀ a u,RelV (f a) u->g a u) {as:List α} {its:List Value} (r:Vals (as.map f) its) {i:Nat} {v:Value} (h:its.toArray[i]?=some v):∃ a,as[i]?=some a/\g a v:=by
 have h':its[i]?=some v:=by simpa using h
 induction as generalizing its i with
 | nil=>cases r; simp at h'
 | cons a as ih=>
  cases r with
  | cons q t=>
   cases i with
   | zero=>simp at h'; subst h'; exact ⟨a,rfl,hg _ _ q⟩
   | succ i=>simpa using ih t (i:=i) (by simpa using h') (by simpa using h')
theorem mV {p:Addr} {xs:List V} (I:Inv X pins σ H s) (hc:X.calm=true) (hp:H p=some (.lst xs)):∃ its:List Value,Vals xs its/\s.heap.IsList p its.toArray/\xs.length=its.toArray.size/\p≠s.heap.objs.size /\
  Walks X.prog X.w X.A.in1 s.heap.objs.size [s.heap.objs.size,p] [s.heap.objs.size] its.toArray.size (fun i v=>its.toArray[i]?=some v) (fun i h=>h.IsListIter s.heap.objs.size p i/\h.IsList p its.toArray):=by
 obtain ⟨its,rv,pl,hz⟩:=I.list (SqL.of hp)
 obtain ⟨o,e,_⟩:=pl.isList
 have ES:p≠s.heap.objs.size:=Nat.ne_of_lt (Heap.lt_size e)
 exact ⟨its,rv,pl.isList,by rw [List.size_toArray]; exact rv.length,ES,Walks.list (show X.A.in1.handled=none from I.ok.hd hc) _ p ES _⟩
theorem all_range {bs:List Bool}:(List.range bs.length).all (fun i=>bs.getD i false)=bs.all id:=by
 rw [Bool.eq_iff_iff,List.all_eq_true,List.all_eq_true]
 constructor
 ·intro h x hx
  obtain ⟨i,hi,e⟩:=List.mem_iff_getElem.mp hx
  have:=h i (by simpa using hi)
  rw [List.getD_eq_getElem?_getD] at this
  simpa [hi,e] using this
 ·intro h i hi
  have hi:i<bs.length:=by simpa using hi
  rw [List.getD_eq_getElem?_getD]
  simpa [hi] using h bs[i] (List.getElem_mem hi)
theorem qh {A:Around} {bs:List Bool} {its:List Value} (rv:Vals (bs.map V.bl) its):TruthOf X.prog X.w A (fun i v=>its.toArray[i]?=some v) (fun i=>bs.getD i false):=fun i v s' Q' E hv hq=>by
 obtain ⟨b,hb,e⟩:=xn (f:=V.bl) (g:=fun b u=>u=.bool b) (fun b u r=>r) rv hv
 subst e
 have:bs.getD i false=b:=by rw [List.getD_eq_getElem?_getD,hb]; rfl
 have GA:Q' (bs.getD i false) s':=hq
 rw [this] at GA
 exact wpAny_truthy_bool GA
theorem bj (hc:X.calm=true):E2 X (.builtin "all") (fun xs H Q=>∃ (p:Addr) (bs:List Bool),xs = [.ref p]/\H p=some (.lst (bs.map V.bl))/\Q (.bl (bs.all id)) H):=by
 intro pins s σ H xs us Q I r h
 obtain ⟨p,bs,rfl,hp,q⟩:=h
 obtain ⟨u,rfl,rx⟩:=L8 r
 cases rx
 obtain ⟨its,rv,hl,hlen,ES,Wk⟩:=mV I hc hp
 rw [List.length_map] at hlen
 refine call_all_walk (wpAny_pyIter_list hl ⟨_,_,_,_,_,_,_,rfl,Wk,⟨⟨_,Heap.get?_push_size _ rfl,rfl,rfl⟩,hl.push _⟩,qh rv,fun h' tk hk=>?_⟩)
 rw [<- hlen,all_range]
 exact ⟨.bl (bs.all id),H,I.kept (t':=tk) (oI hk),rfl,q⟩
def V1:List W->Option (List Bool)
 | []=>some []
 | .bl b::ws=>(V1 ws).map (b::·)
 | _=>none
theorem wU (bs:List Bool):V1 (bs.map W.bl)=some bs:=by
 induction bs with
 | nil=>rfl
 | cons b bs ih=>rw [List.map_cons,V1,ih]; rfl
theorem Reps.bls {K:Frag} {F:Hp} {vs:List V} {ws:List W} {bs:List Bool} (r:Reps K F vs ws):V1 ws=some bs->vs=bs.map V.bl:=
 Reps.ind (P:=fun vs ws=>∀ bs,V1 ws=some bs->vs=bs.map V.bl) (fun bs h=>by cases h; rfl) (fun {v w vs ws} r _ ih bs h=>by
  cases w <;> first | cases h | skip
  rename_i b
  have e:v=.bl b:=r.inv
  subst e
  have h':(V1 ws).map (b::·)=some bs:=h
  cases q:V1 ws with
  | none=>rw [q] at h'; cases h'
  | some cs=>rw [q] at h'; cases h'; rw [ih cs q]; rfl) r bs
def bg (g:List Bool->Bool):List W->R W
 | [.lst ws]=>toR (V1 ws)>>=fun bs=>.ok (.bl (g bs))
 | _=>.stuck
theorem fm {K:Frag} {d:Mode} {g:List Bool->Bool}:Cal K .B d (fun xs H Q=>∃ (p:Addr) (bs:List Bool),xs = [.ref p]/\H p=some (.lst (bs.map V.bl))/\Q (.bl (g bs)) H) (bg g):=by
 intro EX H0 Hs G H ρ σ Ha vs ws Q I s m o
 cases m with
 | nil=>exact o.elim
 | @cons w v ws2 vs2 a t=>
  cases t with
  | cons _ _=>first | exact o.elim | (cases w <;> exact o.elim)
  | nil=>
   cases w <;> first | exact o.elim | skip
   rename_i ws
   obtain ⟨p,ys,rfl,hs,r⟩:=a.lstB I
   replace o:Out EX G H (mdW K d H0 Hs) (toR (V1 ws)>>=fun bs=>.ok (.bl (g bs))) Q:=o
   cases q:V1 ws with
   | none=>rw [q] at o; exact o.elim
   | some bs=>
    rw [q] at o
    rw [Reps.bls r q] at hs
    exact ⟨p,bs,rfl,hs,o _ G H (Ext.refl I.gh) (Md.sca rfl (fun _=>.bl) d)⟩
def U0 (bs:List Bool):Bool:=bs.all id
end
theorem jf:bootBuiltins "all" = some (.builtin "all"):=by decide +kernel
section
variable {X:Cx} {K:Frag} {d:Mode}
def t9:List W->Option (List Int)
 | []=>some []
 | .int b::ws=>(t9 ws).map (b::·)
 | _=>none
theorem ints_map (bs:List Int):t9 (bs.map W.int)=some bs:=by
 induction bs with
 | nil=>rfl
 | cons b bs ih=>rw [List.map_cons,t9,ih]; rfl
theorem Reps.ints {F:Hp} {vs:List V} {ws:List W} {bs:List Int} (r:Reps K F vs ws):t9 ws=some bs->vs=bs.map V.int:=
 Reps.ind (P:=fun vs ws=>∀ bs,t9 ws=some bs->vs=bs.map V.int) (fun bs h=>by cases h; rfl) (fun {v w vs ws} r _ ih bs h=>by
  cases w <;> first | cases h | skip
  rename_i b
  have e:v=.int b:=r.inv
  subst e
  have h':(t9 ws).map (b::·)=some bs:=h
  cases q:t9 ws with
  | none=>rw [q] at h'; cases h'
  | some cs=>rw [q] at h'; cases h'; rw [ih cs q]; rfl) r bs
def Do (g:List Int->Int):List W->R W
 | [.lst ws]=>toR (t9 ws)>>=fun bs=>.ok (.int (g bs))
 | _=>.stuck
def fAbs:List W->R W
 | [.int i]=>.ok (.int (if i<0 then -i else i))
 | _=>.stuck
def AY:List W->R W
 | [.int i]=>.ok (.int i)
 | [.bl k]=>.ok (.int (if k then 1 else 0))
 | _=>.stuck
def fStr:List W->R W
 | [.int i]=>if i.natAbs.log2<1920 then .ok (.str (toString i)) else .stuck
 | _=>.stuck
end
end TP
namespace TP
open PySem L2
def iM (i:Nat) (c:Bool) (m:Rho->R W):Rho->R Fl:=fun ρ=>match ρ[i]? with
 | some (.own ws)=>m ρ>>=fun w=>(match w with
  | .lst us=>if ws.length+us.length<=1000 then (if c||k9 us then .ok (.nx (ρ.set i (.own (ws++us)))) else .stuck) else .stuck
  | _=>.stuck)
 | _=>.stuck
def iL (i:Nat):Rho->R Fl:=fun ρ=>match ρ[i]? with
 | some (.own ws)=>.ok (.nx (ρ.set i (.own ws.reverse)))
 | _=>.stuck
section
variable {K:Frag} {EX:EXT} {H0 G H:Hp} {ρ:Rho} {σ:St} {d:Mode} {D:Ends}
theorem DJ {i:Nat} {c:Bool} {m:Rho->R W} (h:tSt K EX d (iM i c m) D σ H):bx (tBM K "list" rExtend (S3 i) (V3 (tM K EX (cb c) m) tNil)) D σ H:=by
 obtain ⟨H0,G,ρ,I,o⟩:=h
 unfold iM at o
 split at o
 ·rename_i ws e
  obtain ⟨a,vs,es,ha,hg,h0,r⟩:=I.own_at e
  refine ⟨.ref a,es,.inl ⟨rfl,vs,SqL.of ha⟩,H0,G,ρ,I,OutS.bind I o fun x G1 H1 w e1 m1 o1=>?_⟩
  cases w <;> first | exact o1.elim | skip
  rename_i us
  dsimp only at o1
  by_cases hn:ws.length+us.length<=1000
  ·rw [if_pos hn] at o1
   by_cases hc:(c||k9 us)=true
   ·rw [if_pos hc] at o1
    have I1:=I.ext e1
    have hx:∃ b zs,x=.ref b/\H1 b=some (.lst zs)/\Reps K G1 zs us:=by
     cases c with
     | true=>exact Md.lstC (H:=H) I1 m1
     | false=>
      obtain ⟨b,zs,ex,hb,rb⟩:=Md.lstB (H:=H) I1 m1
      exact ⟨b,zs,ex,hb,Reps.clean I1 rb (by simpa using hc)⟩
    obtain ⟨b,zs,rfl,hb,rb⟩:=hx
    have h1:=e1.hh a _ ha
    refine ⟨a,b,vs,zs,rfl,rfl,h1,hb,by rw [r.length,rb.length]; exact X7 hn,?_⟩
    exact o1 G1 σ _ (Same.refl _) (I1.own_upd e es ((r.same e1.gg).append rb))
   ·rw [if_neg hc] at o1; exact o1.elim
  ·rw [if_neg hn] at o1; exact o1.elim
 ·exact o.elim
theorem Dy {i:Nat} (h:tSt K EX d (iL i) D σ H):bx (xF K "list" rReverse (S3 i)) D σ H:=by
 obtain ⟨H0,G,ρ,I,o⟩:=h
 unfold iL at o
 split at o
 ·rename_i ws e
  obtain ⟨a,vs,es,ha,hg,h0,r⟩:=I.own_at e
  exact ⟨.ref a,es,.inl ⟨rfl,vs,SqL.of ha⟩,a,vs,rfl,rfl,ha,o G σ _ (Same.refl _) (I.own_upd e es r.reverse)⟩
 ·exact o.elim
end
section
variable {X:Cx} {K:Frag} {EX:EXT} {d:Mode} {e:Expr} {pos:Pos} {ma:Rho->R W}
theorem CA {i:Nat} {c:Bool} {x:Str} {p apos EL:Pos} (hN:X.N[i]?=some x) (hv:Vis X.env.scope x) (ha:PE X e (tM K EX (cb c) ma)) (hK:X.K=K:=by rfl) (hd:(x == ("__debug__" : Str))=false:=by decide) (Fo:(x == ("__classdict__" : Str))=false:=by decide)
  (ET:attributeBase (.Name x p) "extend" X.env (eval (.Name x p) X.env)=eval (.Name x p) X.env:=by rfl)
  (FA:((backTo EL (starEach [e] X.env)).all (fun x=>!x.1)&&(backToKw EL (keywordEach [] X.env)).all (fun x=>x.1.isSome)
   && decide (([e]:List Expr).length+([]:List Keyword).length+(if ([]:List Keyword).isEmpty then 0 else 1)<30))=true:=by rfl)
  (ER:(apos.endLine == EL.line)=true:=by rfl) (hs:starEach [e] X.env=(false,eval e X.env)::starEach [] X.env:=by rfl) (Fq:(backTo EL (starEach [] X.env)).any (·.1)=false:=by rfl)
  (FL:swapsWith (.Call (.Attribute (.Name x p) "extend" apos) [e] [] EL) none pos.line X.env=pure false:=by rfl) :
  PS X (.Expr (.Call (.Attribute (.Name x p) "extend" apos) [e] [] EL) pos) (tSt K EX d (iM i c ma)):=by
 subst hK; exact (X3 (CN PySem.F.plainAttrs_list PySem.F.slot_list_extend PySem.F.type_list_extend oC (P4 hN hv hd Fo) (X4 ha pa_nil hs) ET FA ER hs Fq) FL).mono fun _ _ _ q=>DJ q
theorem Cy {i:Nat} {x:Str} {p apos EL:Pos} (hN:X.N[i]?=some x) (hv:Vis X.env.scope x) (hK:X.K=K:=by rfl) (hd:(x == ("__debug__" : Str))=false:=by decide) (Fo:(x == ("__classdict__" : Str))=false:=by decide)
  (ET:attributeBase (.Name x p) "reverse" X.env (eval (.Name x p) X.env)=eval (.Name x p) X.env:=by rfl) (ER:(apos.endLine == EL.line)=true:=by rfl)
  (FL:swapsWith (.Call (.Attribute (.Name x p) "reverse" apos) [] [] EL) none pos.line X.env=pure false:=by rfl) :
  PS X (.Expr (.Call (.Attribute (.Name x p) "reverse" apos) [] [] EL) pos) (tSt K EX d (iL i)):=by
 subst hK; exact (X3 (zm PySem.F.plainAttrs_list PySem.F.slot_list_reverse PySem.F.type_list_reverse lL (P4 hN hv hd Fo) ET ER) FL).mono fun _ _ _ q=>Dy q
end
section
variable {X:Cx} {K:Frag} {EX:EXT} {a e tg:Expr} {es:List Expr} {pos:Pos} {ma:Rho->R W} {mr:Rho->R (List W)}
theorem aQ (h:PE X e (tM K EX .B ma)) (hK:X.K=K:=by rfl):PI X tg e (tIt K EX false .U (bS ma)):=tF (lp:=false) h hK
theorem K5 (h:PE X e (tM K EX .U ma)) (hK:X.K=K:=by rfl):PI X tg e (tIt K EX true .U (bS ma)):=tF (lp:=true) h hK
theorem aO {elts:List Expr} {p tp:Pos} {k:Nat} (hg:Gl X "zip") (hm:X.mg "zip" = none) (ha:PA X (a::es) (tA K EX .B mr)) (hK:X.K=K:=by rfl) (hs:starEach (a::es) X.env=(false,eval a X.env)::starEach es X.env:=by rfl) (Fn:(backTo pos (starEach es X.env)).any (·.1)=false:=by rfl) :
  PI X (.Tuple elts k tp) (.Call (.Name "zip" p) (a::es) [] pos) (tIt K EX false .U (bI E3 mr)):=tD (lp:=false) hg hm ha hK hs Fn
theorem nX {elts:List Expr} {p tp:Pos} {k:Nat} (hg:Gl X "zip") (hm:X.mg "zip" = none) (ha:PA X (a::es) (tA K EX .U mr)) (hK:X.K=K:=by rfl) (hs:starEach (a::es) X.env=(false,eval a X.env)::starEach es X.env:=by rfl) (Fn:(backTo pos (starEach es X.env)).any (·.1)=false:=by rfl) :
  PI X (.Tuple elts k tp) (.Call (.Name "zip" p) (a::es) [] pos) (tIt K EX true .U (bI E3 mr)):=tD (lp:=true) hg hm ha hK hs Fn
end
end TP
namespace TP
open PySem L2
section
variable {K:Frag} {EX:EXT} {H0 G H G1 H1:Hp} {ρ:Rho} {σ:St} {d:Mode} {D:Ends}
def Dg:Sl->Bool
 | .own _=>true
 | .dic _=>true
 | .dik _=>true
 | _=>false
def noOwn (ρ:Rho):Bool:=ρ.all fun s=>!Dg s
def sCU (i:Nat) (f:List W->R W) (ma:Rho->R (List W)):Rho->R Fl:=fun ρ=>if noOwn ρ then (ma ρ>>=fun ws=>f ws>>=fun w=>.ok (.nx (ρ.set i (.par w)))) else .stuck
end
section
variable {X:Cx} {K:Frag} {d:Mode} {e:Expr} {es:List Expr} {pos:Pos} {mr:Rho->R (List W)}
end
end TP
namespace TP
open PySem L2
def mN (K:Frag) (a:Addr) (n:Nat):It:=
 ⟨fun i H=>i<n/\∃ xs x,SqL K H a xs/\xs.length=n/\xs[n-1-i]?=some x,fun i H x H'=>H'=H/\∀ xs,SqL K H a xs->xs[n-1-i]?=some x,fun i H=>i=n/\∃ xs,SqL K H a xs/\xs.length=n⟩
theorem qf {P:Program} {w:World} {K:Frag} {tg:Expr} (a it:Addr) (n:Nat):Turn P w K tg (mN K a n) [it] it (fun i h=>i<=n/\h.IsRevIter it a ((n:Int)-1-(i:Int))) where
 mem:=by simp
 obj:=fun i h st b hb=>by
  have e:b=it:=by simpa using hb
  subst e
  obtain ⟨_,o,e,c,d⟩:=st
  exact ⟨o,e,fun v z=>by rw [d] at z; cases z⟩
 keep:=fun i h h' st k=>⟨st.1,st.2.at fun o e=>k it (by simp) o e⟩
 item:=by
  intro X hP hw hK hc i pins s σ H E I hf st hg
  subst hP hw hK
  obtain ⟨hi,xs,x,hq,hn,hx⟩:=hg
  obtain ⟨its,rv,p,hz⟩:=I.list hq
  obtain ⟨u,hu,ru⟩:=rv.get hx
  obtain ⟨f0,f1,f2,f3,f4,f5⟩:=hf it (by simp)
  have e1:(n:Int)-1-(i:Int)=((n-1-i:Nat):Int):=by omega
  have Gu:=st.2
  rw [e1] at Gu
  refine wpAny_pyNext_rev_item Gu p.isList (x:=u) (by simpa using hu) fun h' EK sb=>?_
  have I1:Inv X pins σ H { s with heap:=h' }:=I.turned (t':=s.toks) (fun b o hb e=>(sb.2 b hb).trans e) f0 f1 f3 f4 f5
  have e2:((n-1-i:Nat):Int)-1=(n:Int)-1-((i+1:Nat):Int):=by omega
  rw [e2] at EK
  obtain ⟨o,e,c,d⟩:=id EK
  exact ⟨u,rfl,gm (s:={ s with heap:=h' }) e c d (by decide) ⟨x,H,I1,ru,⟨rfl,fun ys hy=>by rw [I.list_inj hy hq]; exact hx⟩,⟨hi,EK⟩,fun b hb=>(hf b hb).1⟩⟩
 done:=by
  intro X hP hw hK hc i pins s σ H E I hf st hg
  subst hP hw hK
  obtain ⟨rfl,xs,hq,hn⟩:=hg
  obtain ⟨f0,f1,f2,f3,f4,f5⟩:=hf it (by simp)
  have e1:(i:Int)-1-(i:Int) = -1:=by omega
  have Gu:=st.2
  rw [e1] at Gu
  exact wpAny_pyNext_rev_end (I.ok.hd hc) Gu fun h' eb=>⟨rfl,I.turned (t':=s.toks) (fun b o hb e=>eb b o hb e) f0 f1 f3 f4 f5⟩
 self:=fun _ _ _ _ _ st h=>wpAny_pyIter_revIter st.2 h
def AD (K:Frag) (ta:TA):TI:=fun σ H R=>ta σ H fun vs H1=>∃ a,vs = [.ref a]/\∃ xs,SqL K H1 a xs/\R (mN K a xs.length) H1
theorem jF:bootBuiltins "reversed" = some (.type "reversed"):=by decide +kernel
section
variable {X:Cx} {tg:Expr}
theorem zh {a:Expr} {ta:TA} {p pos:Pos} (hg:Gl X "reversed") (hm:X.mg "reversed" = none) (ha:PA X [a] ta) (hs:starEach [a] X.env = [(false,eval a X.env)]:=by rfl):PI X tg (.Call (.Name "reversed" p) [a] [] pos) (AD X.K ta):=by
 intro pins s σ H R I h
 refine wpAny_Call_Name_kw (P6 I hg hm jF ?_ (by decide) (by decide))
 refine PyProof.Rows.callWith_type1 (thn (ha pos pins s σ H _ I h) fun us s1 zz82=>?_) hs (by rfl)
 obtain ⟨vs,H1,I1,r1,q1⟩:=zz82
 obtain ⟨b,e,xs,hq,q⟩:=q1
 subst e
 obtain ⟨u,rfl,ru⟩:=L8 r1
 cases ru
 obtain ⟨its,rv,pl,hz⟩:=I1.list hq
 have hl:=rv.length
 refine call_reversed_list pl.isList ?_
 have hit:(s1.heap.push (revObj b ((its.toArray.size:Int)-1))).IsRevIter s1.heap.objs.size b ((xs.length:Int)-1-((0:Nat):Int)):=by
  refine ⟨_,Heap.get?_push_size _ rfl,rfl,?_⟩
  have:((xs.length:Int)-1-((0:Nat):Int))=((its.toArray.size:Int)-1):=by simp; omega
  rw [this]; rfl
 refine wpAny_pyIter_revIter hit ?_
 refine ⟨s1.heap.objs.size,[s1.heap.objs.size],_,mN X.K b xs.length,H1,rfl,I1.kept (t':=s1.toks) fun b o e=>Heap.get?_push_of_some _ e,qf b _ _,⟨Nat.zero_le _,hit⟩,fun c hc=>?_,q⟩
 have e:c=s1.heap.objs.size:=by simpa using hc
 subst e
 exact I1.fpOk (Nat.le_refl _) (I1.hok.fresh (Nat.le_refl _))
end
def eD:List W->R (List W)
 | [.lst ws]=>.ok ws.reverse
 | _=>.stuck
section
variable {K:Frag} {EX:EXT} {H0 G H:Hp} {ρ:Rho} {σ:St}
theorem rS {e:Mode} {Z:Hp} {a:Addr} {vs:List V} {ws:List W} (he:e=.V\/e=.U) (s:SqL K Z a vs) (r:Reps K (fz e H0 G) vs ws):ax K e H0 Z G (mN K a vs.length) ws.reverse:=by
 have hl:=r.length
 have hq:∀ H,Same Z H->SqL K H a vs:=fun H z=>Same.seq z s
 refine ⟨fun i H hi z=>?_,fun H z=>⟨by rw [List.length_reverse,hl],vs,hq H z,rfl⟩,fun i H x H' w hw z ⟨e1,y⟩ G2 ρ σ I sg=>?_⟩
 ·rw [List.length_reverse] at hi
  exact ⟨by omega,vs,vs[vs.length-1-i]'(Nat.lt_of_le_of_lt (Nat.sub_le _ _) (Nat.sub_lt (hl ▸ Nat.lt_of_le_of_lt (Nat.zero_le i) hi) (by decide))),hq H z,rfl,by simp⟩
 ·subst e1
  have hi:i<ws.length:=by have:=(List.getElem?_eq_some_iff.mp hw).1; simpa using this
  have hx:=y vs (hq _ z)
  rw [List.getElem?_reverse hi] at hw
  obtain ⟨v,hv,rv⟩:=Reps.get r hw
  rw [hl,hv] at hx
  cases hx
  exact ⟨G2,Ext.refl I.gh,Md.of_fz he (rv.same (F3 sg))⟩
theorem Md.srcL {lp:Bool} {Hs:Hp} {x:V} {ws:List W} (I:PIv K H0 G ρ σ H) (m:Md K H0 Hs G H x (.lst ws) (aE lp .U)):∃ a vs,x=.ref a/\SqL K (if lp then join H0 G else H) a vs/\Reps K (fz .U H0 G) vs ws:=by
 have ez:fz .U H0 G=join H0 G:=by unfold fz; rw [if_neg (show ¬ (Mode.U=Mode.V) by intro z; cases z)]
 rw [ez]
 cases lp with
 | true=>
  rw [if_pos rfl]
  obtain ⟨a,vs,e,s,r⟩:=Rep.inv m
  exact ⟨a,vs,e,SqL.of s,r⟩
 | false=>
  rw [if_neg Bool.false_ne_true]
  rcases m with m | ⟨a,vs,us,rfl,e2,h1,r⟩
  ·obtain ⟨a,vs,e,s,r⟩:=Rep.inv m
   exact ⟨a,vs,e,SqL.of (I.join_H _ _ s),r⟩
  ·rw [W.lst.inj e2]; exact ⟨a,vs,rfl,SqL.of h1,r.same I.G_join⟩
theorem Dx {lp:Bool} {ma:Rho->R (List W)} {Rr:It->Hp->Prop} (h:tIt K EX lp .U (fun ρ=>ma ρ>>=eD) σ H Rr):AD K (tA K EX (aE lp .U) ma) σ H Rr:=by
 refine Z3 h (fun H0 G ρ G1 H1 xs ws us I e1 m1 q o=>?_) (fun ws e z=>?_)
 ·have I1:=I.ext e1
  unfold eD at q
  split at q
  ·rename_i Hf
   cases q
   cases m1 with
   | cons a1 t=>
    cases t
    obtain ⟨p,vs,rfl,hL,r⟩:=Md.srcL I1 a1
    exact ⟨p,rfl,vs,Same.seq (eX I1) hL,o _ G1 H1 e1 (rS (.inr rfl) hL r)⟩
  ·cases q
 ·unfold eD at z
  split at z <;> cases z
end
section
variable {X:Cx} {K:Frag} {EX:EXT} {a tg:Expr} {pos:Pos} {mr:Rho->R (List W)}
theorem Cw {p:Pos} (hg:Gl X "reversed") (hm:X.mg "reversed" = none) (ha:PA X [a] (tA K EX .U mr)) (hK:X.K=K:=by rfl) (hs:starEach [a] X.env = [(false,eval a X.env)]:=by rfl):PI X tg (.Call (.Name "reversed" p) [a] [] pos) (tIt K EX true .U (bI eD mr)):=by
 subst hK; exact (zh hg hm ha hs).mono fun _ _ _ q=>Dx (lp:=true) q
end
end TP
namespace TP
open PySem L2
section
variable {X:Cx} {pins:List (Addr×Obj)} {σ:St} {H:Hp} {s:Shared}
end
def seqI:W->Option (List Int)
 | .lst ws=>t9 ws
 | .tup ws=>t9 ws
 | _=>none
def tR (g:List Int->Int):List W->R W
 | [w]=>toR (seqI w)>>=fun ns=>if 0<ns.length then .ok (.int (g ns)) else .stuck
 | _=>.stuck
end TP
namespace HT
open PySem PySem.Spec PyProof.Rows
end HT
namespace TP
open PySem L2 PySem.Spec PyProof.Rows
variable {X:Cx} {K:Frag}
end TP
namespace TP
open PySem PySem.W PyProof.Rows
section
variable (r:Nat->Int)
def runK {α:Type}:KasT α->α
 | .ret a=>a
 | .ask i j k=>runK (k (decide (r i<r j)))
theorem P1 {α β:Type} (f:α->KasT β) (t:KasT α):runK r (t.bind f)=runK r (f (runK r t)):=by
 induction t with
 | ret _=>rfl
 | ask i j k ih=>exact ih _
theorem dR {α:Type} {i j:Nat} {k:Bool->KasT α} (h:r i<r j):runK r (.ask i j k)=runK r (k true):=congrArg (fun b=>runK r (k b)) (decide_eq_true h)
theorem bY {α:Type} {i j:Nat} {k:Bool->KasT α} (h:¬ r i<r j):runK r (.ask i j k)=runK r (k false):=congrArg (fun b=>runK r (k b)) (decide_eq_false h)
def ky (p:Array Nat) (k:Nat):Int:=r (p.getD k 0)
theorem dA {p q:Array Nat} {k l:Nat} (h:p[k]?=q[l]?):ky r p k=ky r q l:=by
 unfold ky
 rw [Array.getD_eq_getD_getElem?,Array.getD_eq_getD_getElem?,h]
theorem iS {p:Array Nat} {i j:Nat} (hj:j<=p.size) (k:Nat):ky r (kas_rev p i j) k=if i<=k/\k<j then ky r p (i+j-1-k) else ky r p k:=by
 have e:=getElem?_mirror_all (i:=i) hj k
 by_cases h:i<=k/\k<j
 ·rw [if_pos h] at e ⊢; exact dA r e
 ·rw [if_neg h] at e ⊢; exact dA r e
theorem zO {p:Array Nat} {k d:Nat} (hs:k<p.size) (hd:d<=k) (i:Nat):ky r (bubble p k d) i=if i=k-d then ky r p k else if k-d<i/\i<=k then ky r p (i-1) else ky r p i:=by
 have e:=getElem?_bubble hs d hd i
 by_cases h:i=k-d
 ·rw [if_pos h] at e ⊢; exact dA r e
 ·rw [if_neg h] at e ⊢
  by_cases h2:k-d<i/\i<=k
  ·rw [if_pos h2] at e ⊢; exact dA r e
  ·rw [if_neg h2] at e ⊢; exact dA r e
theorem rev_eq {p:Array Nat} {i j:Nat} {c:Int} (hj:j<=p.size) (h:∀ k,i<=k->k<j->ky r p k=c) (k:Nat):ky r (kas_rev p i j) k=ky r p k:=by
 rw [iS r hj]
 by_cases hk:i<=k/\k<j
 ·rw [if_pos hk,h k hk.1 hk.2,h _ (by omega) (by omega)]
 ·rw [if_neg hk]
def up (p:Array Nat) (n:Nat):Prop:=∀ k,k+1<n->ky r p k<=ky r p (k+1)
def dn (p:Array Nat) (n:Nat):Prop:=∀ k,k+1<n->ky r p (k+1)<=ky r p k
theorem ul {p:Array Nat} {n:Nat} (h:up r p (n+1)) (e:ky r p n<=ky r p (n+1)):up r p (n+2):=fun k hk=>by
 rcases Nat.lt_or_eq_of_le (Nat.le_of_succ_le_succ (Nat.le_of_succ_le_succ hk)) with q | rfl
 ·exact h k (Nat.succ_lt_succ q)
 ·exact e
theorem Y5 {p:Array Nat} {n:Nat} (h:dn r p (n+1)) (e:ky r p (n+1)<=ky r p n):dn r p (n+2):=fun k hk=>by
 rcases Nat.lt_or_eq_of_le (Nat.le_of_succ_le_succ (Nat.le_of_succ_le_succ hk)) with q | rfl
 ·exact h k (Nat.succ_lt_succ q)
 ·exact e
theorem pQ (p:Array Nat):∀ (f m:Nat),up r p (m+1)->∃ R,runK r (kas_asc p f (m+1))=R+1/\m<=R/\R<=m+f/\up r p (R+1)/\(R<m+f->ky r p (R+1)<ky r p R):=by
 intro f
 induction f with
 | zero=>exact fun m hu=>⟨m,rfl,Nat.le_refl _,Nat.le_refl _,hu,fun h=>absurd h (Nat.lt_irrefl _)⟩
 | succ f ih=>
  intro m hu
  by_cases h:ky r p (m+1)<ky r p m
  ·exact ⟨m,dR r h,Nat.le_refl _,Nat.le_add_right _ _,hu,fun _=>h⟩
  ·obtain ⟨R,e,a,b,c,d⟩:=ih (m+1) (ul r hu (Int.not_lt.mp h))
   have hf:m+1+f=m+(f+1):=Nat.succ_add_eq_add_succ m f
   rw [hf] at b d
   exact ⟨R,(bY r h).trans e,Nat.le_of_succ_le a,b,c,d⟩
theorem wG:∀ (f:Nat) (p:Array Nat) (m q:Nat),m+1+f<=p.size->q<=m->dn r p (m+1)->(∀ k,m+1-(q+1)<=k->k<=m->ky r p k=ky r p m) ->
  ∃ p' m' q',runK r (kas_desc f p (m+1) q)=(p',m'+1,q')/\p'.Perm p/\m<=m'/\m'<=m+f/\dn r p' (m'+1)/\∀ k,m'+1-(q'+1)<=k->k<=m'->ky r p' k=ky r p' m':=by
 intro f
 induction f with
 | zero=>exact fun p m q _ _ hd he=>⟨p,m,q,rfl,.refl _,Nat.le_refl _,Nat.le_refl _,hd,he⟩
 | succ f ih=>
  intro p m q hz hq hd he
  have hf:m+1+f=m+(f+1):=Nat.succ_add_eq_add_succ m f
  have GR:m+1+1+f<=p.size:=by rw [Nat.succ_add_eq_add_succ (m+1) f]; exact hz
  by_cases h:ky r p (m+1)<ky r p m
  ·have e0:runK r (kas_desc (f+1) p (m+1) q)=runK r (if q>0 then kas_desc f (kas_rev p (m+1-(q+1)) (m+1)) (m+1+1) 0 else kas_desc f p (m+1+1) 0):=dR r h
   by_cases IU:q>0
   ·have key:=rev_eq r (p:=p) (i:=m+1-(q+1)) (j:=m+1) (c:=ky r p m) (Nat.le_trans (Nat.le_add_right _ _) hz) fun k a b=>he k a (Nat.le_of_lt_succ b)
    obtain ⟨p',m',q',e,h1,h2,h3,h5⟩:=ih (kas_rev p (m+1-(q+1)) (m+1)) (m+1) 0 (by rw [kas_rev_size]; exact GR) (Nat.zero_le _) (Y5 r (fun k hk=>by rw [key,key]; exact hd k hk) (by rw [key,key]; exact Int.le_of_lt h)) fun k a b=>by rw [Nat.le_antisymm b a]
    rw [e0,if_pos IU]
    rw [hf] at h3
    exact ⟨p',m',q',e,h1.trans (mirror_perm _ _ _ _),Nat.le_of_succ_le h2,h3,h5⟩
   ·obtain ⟨p',m',q',e,h1,h2,h3,h5⟩:=ih p (m+1) 0 GR (Nat.zero_le _) (Y5 r hd (Int.le_of_lt h)) fun k a b=>by rw [Nat.le_antisymm b a]
    rw [e0,if_neg IU]
    rw [hf] at h3
    exact ⟨p',m',q',e,h1,Nat.le_of_succ_le h2,h3,h5⟩
  ·by_cases h2:ky r p m<ky r p (m+1)
   ·exact ⟨p,m,q,(bY r h).trans (dR r h2),.refl _,Nat.le_refl _,Nat.le_add_right _ _,hd,he⟩
   ·have ee:ky r p (m+1)=ky r p m:=Int.le_antisymm (Int.not_lt.mp h2) (Int.not_lt.mp h)
    obtain ⟨p',m',q',e,h1,h2',h3,h5⟩:=ih p (m+1) (q+1) GR (Nat.succ_le_succ hq) (Y5 r hd (Int.le_of_eq ee)) fun k a b=>by
     rcases Nat.lt_or_eq_of_le b with b | rfl
     ·rw [ee]; exact he k (by rw [Nat.add_sub_add_right] at a; exact a) (Nat.le_of_lt_succ b)
     ·rfl
    rw [hf] at h3
    exact ⟨p',m',q',(bY r h).trans ((bY r h2).trans e),h1,Nat.le_of_succ_le h2',h3,h5⟩
def mq (nrem:Nat) (p:Array Nat) (R:Nat×Array Nat):Prop:=R.2.Perm p/\R.1<=nrem/\up r R.2 R.1
theorem gL {p:Array Nat} {m nrem:Nat} (hn:m+1<=nrem) (hz:nrem<=p.size) (hd:dn r p (m+1)):mq r nrem p (runK r (kas_tail3 (m+1) nrem p)):=by
 unfold kas_tail3
 rw [P1]
 have hm:=Nat.le_trans hn hz
 have hu:up r (kas_rev p 0 (m+1)) (m+1):=fun k hk=>by
  rw [iS r hm,iS r hm,if_pos ⟨Nat.zero_le _,Nat.lt_of_succ_lt hk⟩,if_pos ⟨Nat.zero_le _,hk⟩,Nat.zero_add,Nat.add_sub_cancel]
  have e:m-k=m-(k+1)+1:=(Nat.succ_pred_eq_of_pos (Nat.sub_pos_of_lt (Nat.lt_of_succ_lt_succ hk))).symm
  rw [e]
  exact hd _ (by rw [<- e]; exact Nat.lt_succ_of_le (Nat.sub_le _ _))
 obtain ⟨R,e,a,b,c,_⟩:=pQ r (kas_rev p 0 (m+1)) (nrem-(m+1)) m hu
 rw [e]
 exact ⟨mirror_perm _ _ _ _,by show R+1<=nrem; omega,c⟩
theorem cx {p:Array Nat} {m nrem:Nat} (hn:m+1<=nrem) (hz:nrem<=p.size) (hd:dn r p (m+1)):mq r nrem p (runK r (kas_descPart m nrem p)):=by
 unfold kas_descPart
 rw [P1]
 obtain ⟨p',m',q',e,h1,h2,h3,h5,h6⟩:=wG r (nrem-(m+1)) p m 0 (by rw [Nat.add_sub_cancel' hn]; exact hz) (Nat.zero_le _) hd fun k a b=>by rw [Nat.le_antisymm b a]
 rw [e]
 show mq r nrem p (runK r (if q'>0 then kas_tail3 (m'+1) nrem (kas_rev p' (m'+1-(q'+1)) (m'+1)) else kas_tail3 (m'+1) nrem p'))
 have hm:m'+1<=nrem:=by omega
 have Jo:nrem<=p'.size:=by rw [h1.size_eq]; exact hz
 by_cases hq:q'>0
 ·rw [if_pos hq]
  have key:=rev_eq r (p:=p') (i:=m'+1-(q'+1)) (j:=m'+1) (c:=ky r p' m') (Nat.le_trans hm Jo) fun k a b=>h6 k a (Nat.le_of_lt_succ b)
  obtain ⟨t1,t2⟩:=gL r (p:=kas_rev p' (m'+1-(q'+1)) (m'+1)) hm (by rw [kas_rev_size]; exact Jo) fun k hk=>by rw [key,key]; exact h5 k hk
  exact ⟨(t1.trans (mirror_perm _ _ _ _)).trans h1,t2⟩
 ·rw [if_neg hq]
  obtain ⟨t1,t2⟩:=gL r hm Jo h5
  exact ⟨t1.trans h1,t2⟩
theorem X0 {p:Array Nat} {n:Nat} (h:up r p n):∀ j i,i<=j->j<n->ky r p i<=ky r p j:=by
 intro j
 induction j with
 | zero=>intro i a _; rw [Nat.le_zero.mp a]; exact Int.le_refl _
 | succ j ih=>
  intro i a b
  rcases Nat.lt_or_eq_of_le a with q | rfl
  ·exact Int.le_trans (ih i (Nat.le_of_lt_succ q) (Nat.lt_of_succ_lt b)) (h j b)
  ·exact Int.le_refl _
theorem pz {p:Array Nat} {nrem:Nat} (h2:2<=nrem) (hz:nrem<=p.size):mq r nrem p (runK r (kas_count nrem p)):=by
 unfold kas_count
 rw [P1]
 obtain ⟨R,e,_,b,c,d⟩:=pQ r p (nrem-1) 0 fun k hk=>absurd hk (Nat.not_lt_of_le (Nat.succ_le_succ (Nat.zero_le k)))
 have e:runK r (kas_asc p (nrem-1) 1)=R+1:=e
 rw [e]
 by_cases e1:R+1=nrem
 ·rw [if_pos (beq_iff_eq.mpr e1)]
  exact ⟨.refl _,Nat.le_of_eq e1,c⟩
 ·rw [if_neg fun q=>e1 (beq_iff_eq.mp q)]
  have hR:R+1+1<=nrem:=by omega
  have Fe:=d (by omega)
  by_cases h1:R+1>1
  ·rw [if_pos h1]
   by_cases h:ky r p 0<ky r p R
   ·have q:runK r (KasT.ask (p.getD 0 0) (p.getD (R+1-1) 0) fun c=>if c=true then .ret (R+1,p) else kas_descPart (R+1) nrem (kas_rev p 0 (R+1)))=(R+1,p):=dR r h
    rw [q]
    exact ⟨.refl _,Nat.le_of_succ_le hR,c⟩
   ·have q:runK r (KasT.ask (p.getD 0 0) (p.getD (R+1-1) 0) fun c=>if c=true then .ret (R+1,p) else kas_descPart (R+1) nrem (kas_rev p 0 (R+1)))=runK r (kas_descPart (R+1) nrem (kas_rev p 0 (R+1))):=bY r h
    rw [q]
    have EN:∀ k,k<R+1->ky r p k=ky r p 0:=fun k hk=>
     Int.le_antisymm (Int.le_trans (X0 r c R k (Nat.le_of_lt_succ hk) (Nat.lt_succ_self _)) (Int.not_lt.mp h)) (X0 r c k 0 (Nat.zero_le _) hk)
    have key:=rev_eq r (p:=p) (i:=0) (j:=R+1) (c:=ky r p 0) (Nat.le_trans (Nat.le_of_succ_le hR) hz) fun k _ hk=>EN k hk
    obtain ⟨t1,t2⟩:=cx r (p:=kas_rev p 0 (R+1)) (m:=R+1) hR (by rw [kas_rev_size]; exact hz) (Y5 r (fun k hk=>by rw [key,key,EN _ hk,EN k (Nat.lt_of_succ_lt hk)]; exact Int.le_refl _) (by rw [key,key]; exact Int.le_of_lt Fe))
    exact ⟨t1.trans (mirror_perm _ _ _ _),t2⟩
  ·rw [if_neg h1]
   have hn0:R=0:=by omega
   exact cx r hR hz (Y5 r (fun k hk=>absurd hk (by rw [hn0]; exact Nat.not_lt_of_le (Nat.succ_le_succ (Nat.zero_le k)))) (Int.le_of_lt Fe))
theorem qV {p:Array Nat} {k:Nat} (hu:up r p k):∀ (f l h:Nat),h-l<=f->l<=h->h<=k->(∀ i,i<l->ky r p i<=ky r p k)->(∀ i,h<=i->i<k->ky r p k<ky r p i) ->
  ∃ R,runK r (kas_place p k f l h)=R/\R<=k/\(∀ i,i<R->ky r p i<=ky r p k)/\∀ i,R<=i->i<k->ky r p k<ky r p i:=by
 intro f
 induction f with
 | zero=>
  intro l h hf hl hk a b
  have e:h=l:=by omega
  subst e
  exact ⟨h,rfl,hk,a,b⟩
 | succ f ih=>
  intro l h hf hl hk a b
  by_cases hlh:l≥h
  ·have e:h=l:=Nat.le_antisymm hlh hl
   subst e
   exact ⟨h,by show runK r (if h≥h then .ret h else _)=h; rw [if_pos (Nat.le_refl _)]; rfl,hk,a,b⟩
  ·obtain ⟨md,JB⟩:∃ md,md=(l+h)/2:=⟨_,rfl⟩
   have m1:l<=md:=by rw [JB]; exact (Nat.le_div_iff_mul_le (by decide)).mpr (by rw [Nat.mul_two]; exact Nat.add_le_add_left hl _)
   have m2:md<h:=by rw [JB]; exact (Nat.div_lt_iff_lt_mul (by decide)).mpr (by rw [Nat.mul_two]; exact Nat.add_lt_add_right (Nat.lt_of_not_le hlh) _)
   have m3:md-l<=f:=Nat.le_of_lt_succ (Nat.lt_of_lt_of_le (Nat.sub_lt_sub_right m1 m2) hf)
   have m4:h-(md+1)<=f:=Nat.le_trans (Nat.sub_le_sub_left (Nat.succ_le_succ m1) h) (Nat.pred_le_pred hf)
   have e0:runK r (kas_place p k (f+1) l h)=runK r (.ask (p.getD k 0) (p.getD md 0) fun c=>if c=true then kas_place p k f l md else kas_place p k f (md+1) h):=by
    rw [JB]
    show runK r (if l≥h then .ret l else _)=_
    rw [if_neg hlh]
   by_cases c:ky r p k<ky r p md
   ·obtain ⟨R,e,x⟩:=ih l md m3 m1 (Nat.le_trans (Nat.le_of_lt m2) hk) a fun i x y=>Int.lt_of_lt_of_le c (X0 r hu i md x y)
    exact ⟨R,e0.trans ((dR r c).trans e),x⟩
   ·obtain ⟨R,e,x⟩:=ih (md+1) h m4 m2 hk (fun i x=>Int.le_trans (X0 r hu md i (Nat.le_of_lt_succ x) (Nat.lt_of_lt_of_le m2 hk)) (Int.not_lt.mp c)) b
    exact ⟨R,e0.trans ((bY r c).trans e),x⟩
theorem BZ:∀ (f:Nat) (p:Array Nat) (k:Nat),k+f<=p.size->up r p k->(runK r (kas_bin f p k)).Perm p/\up r (runK r (kas_bin f p k)) (k+f):=by
 intro f
 induction f with
 | zero=>exact fun p k _ hu=>⟨.refl _,hu⟩
 | succ f ih=>
  intro p k hz hu
  obtain ⟨l,e,p1,p2,p3⟩:=qV r hu k 0 k (Nat.le_refl _) (Nat.zero_le _) (Nat.le_refl _) (fun i x=>absurd x (Nat.not_lt_zero _)) fun i x y=>absurd y (Nat.not_lt_of_le x)
  have e0:runK r (kas_bin (f+1) p k)=runK r (kas_bin f (bubble p k (k-l)) (k+1)):=by
   show runK r ((kas_place p k k 0 k).bind _)=_
   rw [P1,e]
  have hf:k+(f+1)=k+1+f:=(Nat.succ_add_eq_add_succ k f).symm
  rw [hf] at hz
  have bub:=fun i=>zO r (p:=p) (k:=k) (d:=k-l) (Nat.lt_of_lt_of_le (Nat.lt_succ_self k) (Nat.le_trans (Nat.le_add_right _ _) hz)) (Nat.sub_le _ _) i
  rw [Nat.sub_sub_self p1] at bub
  have ih:=ih (bubble p k (k-l)) (k+1) (by rw [bubble_size]; exact hz) fun i hi=>by
   rw [bub,bub]
   have hi:=Nat.lt_of_succ_lt_succ hi
   rcases Nat.lt_trichotomy i l with c | c | c
   ·rw [if_neg (Nat.ne_of_lt c),if_neg fun z=>Nat.lt_asymm z.1 c]
    by_cases c2:i+1=l
    ·rw [if_pos c2]; exact p2 i c
    ·have c3:i+1<l:=Nat.lt_of_le_of_ne c c2
     rw [if_neg c2,if_neg fun z=>Nat.lt_asymm z.1 c3]
     exact hu i (Nat.lt_of_lt_of_le c3 p1)
   ·subst c
    rw [if_pos rfl,if_neg (Nat.succ_ne_self _),if_pos ⟨Nat.lt_succ_self _,hi⟩]
    exact Int.le_of_lt (p3 i (Nat.le_refl _) hi)
   ·have c2:=Nat.lt_succ_of_lt c
    rw [if_neg (Nat.ne_of_gt c),if_pos ⟨c,Nat.le_of_lt hi⟩,if_neg (Nat.ne_of_gt c2),if_pos ⟨c2,hi⟩]
    cases i with
    | zero=>exact absurd c (Nat.not_lt_zero _)
    | succ j=>exact hu j hi
  rw [e0,hf]
  exact ⟨ih.1.trans (bubble_perm _ _ _),ih.2⟩
theorem bz {n:Nat} (h2:2<=n):(runK r (kas_sort n)).Perm (List.toArray (List.range n))/\up r (runK r (kas_sort n)) n:=by
 unfold kas_sort
 rw [P1]
 have c:=pz r (p:=List.toArray (List.range n)) (nrem:=n) h2 (by simp)
 generalize runK r (kas_count n (List.toArray (List.range n)))=R at c
 obtain ⟨c1,c2,c3⟩:=c
 by_cases h:R.1<n
 ·rw [if_pos h]
  have hm:max R.1 1<=n:=Nat.max_le.mpr ⟨c2,Nat.le_of_succ_le h2⟩
  have b:=BZ r (n-max R.1 1) R.2 (max R.1 1) (by rw [Nat.add_sub_cancel' hm,c1.size_eq]; simp) fun k hk=>c3 k (by omega)
  rw [Nat.add_sub_cancel' hm] at b
  exact ⟨b.1.trans c1,b.2⟩
 ·rw [if_neg h]
  rw [Nat.le_antisymm c2 (Nat.not_lt.mp h)] at c3
  exact ⟨c1,c3⟩
end
end TP
namespace TP
open PySem L2
section
variable {prog:Program} {w:World} {A:Around} {E:Value->Shared->Prop} {s:Shared}
theorem fu (hh:A.handled=none) (u:Sub) (ES:u.l≠u.i) (its:Array Value) :
  Draws prog w A u.i [u.i,u.l] its.size (fun i v=>its[i]?=some v) (fun i h=>u.At h i/\u.Src h its) where
 live:=fun _ _ st=>by obtain ⟨o,e,_⟩:=st.1.obj; exact ⟨o,e⟩
 frame:=fun _ _ _ st hk=>⟨st.1.keep fun o e=>hk u.i (by simp) o e,st.2.keep fun o e=>hk u.l (by simp) o e⟩
 item:=fun i s Q E hi st hQ=>Sub.item st.1 st.2 (x:=its[i]) (by simp [hi]) fun h' a sb=>hQ _ h' s.toks (by simp [hi]) ⟨a,st.2.keep fun o e=>sb.extBut _ _ ES e⟩ sb
 done:=fun s Q E st hE=>Sub.ends hh st.1 st.2 (by simp) hE
theorem jA (l:Addr) (its:Array Value) (m:Nat) (JU:Option Addr) (sl:Array (Option Value)) :
  Meets (Builtin.«enumerate.__new__» ⟨[.type "enumerate",.ref l],[]⟩) (fun _ R s=>s.heap.get? l=some { cls:=.type "tuple",dict:=JU,data:=.seq its m,slots:=sl } /\
   R (.ok (.ret (.ref (s.heap.push { cls:=.type "tuple_iterator",data:=.fields #[.ref l,.int 0 0] }).objs.size)))
    { s with heap:=(s.heap.push { cls:=.type "tuple_iterator",data:=.fields #[.ref l,.int 0 0] }).push { cls:=.type "enumerate",data:=.fields #[.none,.bool false,.ref s.heap.objs.size,rawInt 0,.none,.none] } }):=
 .of_wp fun prog w A R s hyp=>by
  obtain ⟨hp,g,d,tk,os⟩:=s; obtain ⟨hl,hyp⟩:=hyp
  have HI:=sub_enumerate
  have hT:Heap.IsTuple (Shared.heap ⟨hp,g,d,tk,os⟩) l its:=⟨_,hl,rfl,m,rfl⟩
  wp_walk using AutoSeq1.wpAny_loadPart' hl
  refine wpAny_stack_any fun stk=>wpAny_pure ?_
  split
  ·rename_i cc _ _ _ _ _
   cases (cc == Value.type "enumerate") <;>
   ·wp_walk using AutoSeq1.wpAny_loadPart' hl,wpAny_pyIter_tuple hT
    exact ⟨_,rfl,hyp⟩
  ·wp_walk using AutoSeq1.wpAny_loadPart' hl,wpAny_pyIter_tuple hT
   exact ⟨_,rfl,hyp⟩
theorem mD {l:Addr} {its:Array Value} {Q:Value->Shared->Prop} (hL:s.heap.IsTuple l its)
  (hyp:∀ h',IsEnum h' (s.heap.objs.size+1) s.heap.objs.size 0 .none->h'.IsTupleIter s.heap.objs.size l 0->(∀ b o,s.heap.get? b=some o->h'.get? b=some o)->Q (.ref (s.heap.objs.size+1)) { s with heap:=h' }) :
  wpAny (model prog w) A (call (.type "enumerate") [.ref l]) Q E s:=by
 obtain ⟨⟨c,JU,dt,sl⟩,hl,hc,m,hd⟩:=hL
 have FY:c=.type "tuple" := hc; have HP:dt=.seq its m:=hd; subst FY HP
 refine callType_new F.called_enumerate (by decide) (F.typeCall_enumerate_1 _) (F.newCall_enumerate_1 _) (fun obj=>F.args_object_init_2 obj _) F.entry_enumerate_new (jA l its m JU sl) ⟨hl,?_⟩
 generalize hP:s.heap.push { cls:=.type "tuple_iterator",data:=.fields #[.ref l,.int 0 0] }=P
 have hz:P.objs.size=s.heap.objs.size+1:=by rw [<- hP]; exact Heap.size_push ..
 have hi:P.get? s.heap.objs.size=some { cls:=.type "tuple_iterator",data:=.fields #[.ref l,.int 0 0] }:=by rw [<- hP]; exact Heap.get?_push_size _ rfl
 have hk:∀ b o,s.heap.get? b=some o->P.get? b=some o:=fun b o e=>by rw [<- hP]; exact Heap.get?_push_of_some _ e
 show _/\_
 have en:IsEnum (P.push { cls:=.type "enumerate",data:=.fields #[.none,.bool false,.ref s.heap.objs.size,rawInt 0,.none,.none] }) (s.heap.objs.size+1) s.heap.objs.size 0 .none:=by rw [<- hz]; exact Heap.get?_push_size _ rfl
 rw [hz]
 exact ⟨⟨_,en,rfl⟩,hyp _ en ⟨_,Heap.get?_push_of_some _ hi,rfl,rfl⟩ fun b o e=>Heap.get?_push_of_some _ (hk b o e)⟩
theorem pG {t:Bool} {l:Addr} {its:Array Value} {Q:Value->Shared->Prop} (hL:SrcAt s.heap (t,l,its))
  (hyp:∀ h',IsEnum h' (s.heap.objs.size+1) s.heap.objs.size 0 .none->(L2.Sub.mk t s.heap.objs.size l).At h' 0->(∀ b o,s.heap.get? b=some o->h'.get? b=some o)->Q (.ref (s.heap.objs.size+1)) { s with heap:=h' }) :
  wpAny (model prog w) A (call (.type "enumerate") [.ref l]) Q E s:=by
 unfold SrcAt at hL
 cases t with
 | true=>exact mD hL fun h' a b c=>hyp h' a (by unfold Sub.At; exact b) c
 | false=>exact call_enumerate_list hL fun h' a b _ c=>hyp h' a (by unfold Sub.At; exact b) c
end
def ItE (K:Frag) (t:Bool) (a:Addr):It:=
  ⟨fun i H=>∃ xs x,Sq K H t a xs/\xs[i]?=some x,
   fun i H x H'=>∃ p y,x=.ref p/\H p=none/\H'=upd H p (.tup [.int (i:Int),y])/\∀ xs,Sq K H t a xs->xs[i]?=some y,
   fun i H=>∃ xs,Sq K H t a xs/\xs.length=i⟩
abbrev eTn (e:Addr) (u:Sub) (i:Nat) (h:Heap):Prop:=(∃ old,IsEnum h e u.i (i:Int) old)/\u.At h i
theorem nq {P:Program} {w:World} {K:Frag} {elts:List Expr} {k:Nat} {tp:Pos} {e:Addr} {u:Sub} (ES:e≠u.i) :
  Turn P w K (.Tuple elts k tp) (ItE K u.t u.l) [e,u.i] e (eTn e u) where
 mem:=by simp
 obj:=fun i h st b hb=>by
  obtain ⟨⟨old,he⟩,ha⟩:=st
  simp only [List.mem_cons,List.not_mem_nil,or_false] at hb
  rcases hb with rfl | rfl
  ·exact ⟨_,he,fun v q=>by cases q⟩
  ·obtain ⟨o,q,d⟩:=ha.obj
   exact ⟨o,q,fun v z=>by rw [d] at z; cases z⟩
 keep:=fun i h h' st kp=>⟨st.1.imp fun old he=>kp e (by simp) _ he,st.2.keep fun o q=>kp u.i (by simp) o q⟩
 item:=by
  intro X hP hw hK hc i pins s σ H E I hf st hg
  subst hP hw hK
  obtain ⟨⟨old,he⟩,ha⟩:=st
  obtain ⟨xs,x,hq,hx⟩:=hg
  obtain ⟨its,rv,EZ⟩:=Sq.src I hq
  obtain ⟨v,hv,rx⟩:=rv.get hx
  have fe:=hf e (by simp)
  have fi:=hf u.i (by simp)
  have JD:u.l≠u.i:=Sq.ne I hq fi
  have hle:u.l≠e:=Sq.ne I hq fe
  have hi:i<its.toArray.size:=by have:=(List.getElem?_eq_some_iff.mp hv).1; simpa using this
  refine wpAny_pyNext_enum_itemD (fu (prog:=X.prog) (w:=X.w) (show X.A.in1.handled=none from I.ok.hd hc) u JD its.toArray) he ⟨ha,EZ⟩ hi ES (by simp only [List.mem_cons,List.not_mem_nil,or_false,not_or]; exact ⟨ES,Ne.symm hle⟩) fun y h1 tk hy z1 s1 p1 z2 k1=>?_
  have ey:y=v:=by
   have e1:its[i]?=some y:=by simpa using hy
   rw [hv] at e1; cases e1; rfl
  subst ey
  refine ⟨_,rfl,wpAny_letOwnedTupleGo_enum z1 fun h2 e2 sb2=>?_⟩
  have Ib:e<s.heap.objs.size:=Heap.lt_size he
  have hil:u.i<s.heap.objs.size:=by obtain ⟨o,q,_⟩:=ha.obj; exact Heap.lt_size q
  have kp:∀ b o,b≠e->b≠u.i->s.heap.get? b=some o->h2.get? b=some o:=fun b o b1 b2 q=>sb2.extBut _ _ b1 (k1 b o b1 b2 q)
  have FX:H s.heap.objs.size=none:=I.hok.fresh (Nat.le_refl _)
  have trk:∀ b c,H b=some c->b≠e/\b≠u.i:=fun b c q=>⟨fun z=>(by subst z; rw [fe.1] at q; cases q),fun z=>(by subst z; rw [fi.1] at q; cases q)⟩
  have JK:h2.get? s.heap.objs.size=some { cls:=.type "tuple",data:=.seq #[.int i tk,y] }:=sb2.extBut _ _ (Nat.ne_of_gt Ib) p1
  have rel:Vals [.int (i:Int),x] [.int i tk,y]:=.cons ⟨tk,rfl⟩ (.cons rx .nil)
  refine ⟨.ref s.heap.objs.size,upd H s.heap.objs.size (.tup [.int (i:Int),x]),?_,rfl,⟨_,_,rfl,FX,rfl,?_⟩,⟨⟨y,?_⟩,?_⟩,fun b hb=>?_⟩
  ·show Inv X pins σ _ { s with heap:=h2,toks:=tk+1 }
   refine I.step (g':=s.gens) (t':=tk+1) (d':=s.drawn) (ch:=[e,u.i]) (fun b hb=>?_) (fun b o _ _ hc q _=>kp b o ?_ ?_ q) (fun b o _ _ hc q _=>⟨o.slots,kp b o ?_ ?_ q⟩) (fun b o hc q n=>?_) (fun b o hc q=>⟨o,kp b o ?_ ?_ q⟩) (fun b ys q=>?_) (fun b o c q=>?_) (fun b ps q=>?_) (fun m hm=>?_) ?_ I.bare
   ·simp only [List.mem_cons,List.not_mem_nil,or_false] at hb
    rcases hb with rfl | rfl
    ·exact ⟨fe.2.2.2.1,fe.2.1,fe.2.2.2.2.1,fe.2.2.2.2.2⟩
    ·exact ⟨fi.2.2.2.1,fi.2.1,fi.2.2.2.2.1,fi.2.2.2.2.2⟩
   all_goals first
    | (intro z; exact hc (by simp [z]; done))
    | skip
   ·rw [b8 (Nat.ne_of_lt (Heap.lt_size q))]; exact n
   ·rw [b8 (c7 q FX)]; exact q
   ·rw [b8 (c7 q FX)]; exact q
   ·exact ⟨#[],by rw [b8 (c7 q FX),q]; simp⟩
   ·obtain ⟨o,es,ep,ho,r⟩:=hm
    exact ⟨o,es,ep,kp _ o (Ne.symm fe.2.1) (Ne.symm fi.2.1) ho,r⟩
   ·intro b c q
    by_cases hb:b=s.heap.objs.size
    ·subst hb
     rw [j6] at q; cases q
     exact ⟨(show 2<=sizeLine by decide),_,rel,⟨_,JK,rfl,_,rfl⟩⟩
    ·rw [b8 hb] at q
     refine (I.hok b c q).stay (fun d v FB z=>?_) (fun d z=>by rw [b8 (c7 z FX)]; exact z) fun d ys z=>by rw [b8 (c7 z FX)]; exact z
     rcases FB with rfl | FB
     ·exact kp _ v (trk _ _ q).1 (trk _ _ q).2 z
     ·exact kp _ v (trk _ _ FB).1 (trk _ _ FB).2 z
  ·intro ys hy2
   rw [Sq.inj I hy2 hq]; exact hx
  ·have:((i+1:Nat):Int)=(i:Int)+1:=by omega
   rw [this]; exact e2
  ·exact s1.1.keep fun o q=>sb2.extBut _ _ (Ne.symm ES) q
  ·have:b≠s.heap.objs.size:=by
    simp only [List.mem_cons,List.not_mem_nil,or_false] at hb
    rcases hb with rfl | rfl
    ·exact Nat.ne_of_lt Ib
    ·exact Nat.ne_of_lt hil
   rw [b8 this]
   exact (hf b hb).1
 done:=by
  intro X hP hw hK hc i pins s σ H E I hf st hg
  subst hP hw hK
  obtain ⟨⟨old,he⟩,ha⟩:=st
  obtain ⟨xs,hq,hn⟩:=hg
  obtain ⟨its,rv,EZ⟩:=Sq.src I hq
  have fe:=hf e (by simp)
  have fi:=hf u.i (by simp)
  have JD:u.l≠u.i:=Sq.ne I hq fi
  have Gx:its.toArray.size=i:=by have:=rv.length; simp; omega
  subst Gx
  refine wpAny_pyNext_enum_endD (fu (prog:=X.prog) (w:=X.w) (show X.A.in1.handled=none from I.ok.hd hc) u JD its.toArray) he ⟨ha,EZ⟩ fun h' eb=>⟨rfl,?_⟩
  obtain ⟨f0,f1,f2,f3,f4,f5⟩:=fi
  exact I.turned (t':=s.toks) (fun b o hb q=>eb b o hb q) f0 f1 f3 f4 f5
 self:=fun A i s Q E st h=>by
  obtain ⟨⟨old,he⟩,_⟩:=st
  exact wpAny_pyIter_enum he h
def tP (K:Frag) (ta:TA):TI:=fun σ H R=>ta σ H fun vs H1=>∃ t a xs,vs = [.ref a]/\Sq K H1 t a xs/\R (ItE K t a) H1
theorem je:bootBuiltins "enumerate" = some (.type "enumerate"):=by decide +kernel
section
variable {X:Cx}
theorem vg {a:Expr} {elts:List Expr} {ta:TA} {p pos tp:Pos} {k:Nat} (hg:Gl X "enumerate") (hm:X.mg "enumerate" = none) (ha:PA X [a] ta) (hs:starEach [a] X.env = [(false,eval a X.env)]:=by rfl):PI X (.Tuple elts k tp) (.Call (.Name "enumerate" p) [a] [] pos) (tP X.K ta):=by
 intro pins s σ H R I h
 refine wpAny_Call_Name_kw (P6 I hg hm je ?_ (by decide) (by decide))
 refine PyProof.Rows.callWith_type1 (thn (ha pos pins s σ H _ I h) fun us s1 zz84=>?_) hs (by rfl)
 obtain ⟨vs,H1,I1,r1,t,b,xs,e1,hq,q⟩:=zz84
 subst e1
 obtain ⟨u,rfl,ru⟩:=L8 r1
 cases ru
 obtain ⟨its,rv,EZ⟩:=Sq.src I1 hq
 refine pG (t:=t) (its:=its.toArray) (by unfold SrcAt; unfold Sub.Src at EZ; exact EZ) fun h' he hA hk=>wpAny_pyIter_enum he ?_
 have I2:Inv X pins σ H1 { s1 with heap:=h' }:=I1.kept (t':=s1.toks) hk
 have TE:=nq (P:=X.prog) (w:=X.w) (K:=X.K) (elts:=elts) (k:=k) (tp:=tp) (e:=s1.heap.objs.size+1) (u:=⟨t,s1.heap.objs.size,b⟩) (neN (by show s1.heap.objs.size+1≠s1.heap.objs.size; omega))
 refine ⟨_,_,_,_,H1,rfl,I2,TE,⟨⟨_,he⟩,hA⟩,fun c hc=>?_,q⟩
 have Gr:s1.heap.objs.size<=c:=by
  simp only [List.mem_cons,List.not_mem_nil,or_false] at hc
  rcases hc with rfl | rfl
  ·omega
  ·exact Nat.le_refl _
 exact I1.fpOk (H':=H1) Gr (I1.hok.fresh Gr)
end
def fj:List W->R (List W)
 | [w]=>match u8 w with
  | .ok xs=>.ok (xs.mapIdx fun i x=>W.tup [.int (i:Int),x])
  | _=>.stuck
 | _=>.stuck
section
variable {K:Frag} {EX:EXT} {H0 G H:Hp} {ρ:Rho} {σ:St}
theorem oN {e:Mode} {Z:Hp} {t:Bool} {a:Addr} {xs:List V} {us:List W} (he:e=.V\/e=.U) (s1:Sq K Z t a xs) (r1:Reps K (fz e H0 G) xs us):ax K e H0 Z G (ItE K t a) (us.mapIdx fun i x=>W.tup [.int (i:Int),x]):=by
 have l1:=r1.length
 have hq:∀ H,Same Z H->Sq K H t a xs:=fun H z=>Sq.same z s1
 refine ⟨fun i H hi z=>?_,fun H z=>⟨xs,hq H z,by rw [List.length_mapIdx,l1]⟩,fun i H x H' w hw z y G2 ρ σ I sg=>?_⟩
 ·rw [List.length_mapIdx] at hi
  exact ⟨xs,xs[i]'(by omega),hq H z,by simp⟩
 ·obtain ⟨p,y1,rfl,hp,rfl,hy⟩:=y
  obtain ⟨w1,e1,q1⟩:=Reps.get' r1 (hy xs (hq H z))
  have Ie:w=.tup [.int (i:Int),w1]:=by
   rw [List.getElem?_mapIdx,e1] at hw
   cases hw; rfl
  subst Ie
  obtain ⟨x1,x2⟩:=eG (Hs:=H) he I hp (.cons .int (.cons (q1.same (F3 sg)) .nil))
  exact ⟨_,x1,x2⟩
theorem BS {lp:Bool} {e:Mode} {ma:Rho->R (List W)} {Rr:It->Hp->Prop} (he:e=.V\/e=.U) (h:tIt K EX lp e (fun ρ=>ma ρ>>=fj) σ H Rr):tP K (tA K EX (aE lp e) ma) σ H Rr:=by
 refine Z3 h (fun H0 G ρ G1 H1 xs ws us I e1 m1 q o=>?_) (fun ws e z=>?_)
 ·have I1:=I.ext e1
  unfold fj at q
  split at q
  ·rename_i w
   cases hw:u8 w with
   | stuck=>rw [hw] at q; cases q
   | ex _=>rw [hw] at q; cases q
   | ok ls=>
    rw [hw] at q
    cases q
    cases m1 with
    | cons a1 m1=>
     cases m1
     obtain ⟨t1,p1,v1,rfl,q1,r1⟩:=Md.src he I1 a1 hw
     exact ⟨t1,p1,v1,rfl,D1 (eX I1) q1,o _ G1 H1 e1 (oN he q1 r1)⟩
  ·cases q
 ·unfold fj at z
  split at z
  ·split at z <;> cases z
  ·cases z
end
section
variable {X:Cx} {K:Frag} {EX:EXT} {a:Expr} {pos:Pos} {mr:Rho->R (List W)}
theorem yT {elts:List Expr} {p tp:Pos} {k:Nat} (hg:Gl X "enumerate") (hm:X.mg "enumerate" = none) (ha:PA X [a] (tA K EX .B mr)) (hK:X.K=K:=by rfl) (hs:starEach [a] X.env = [(false,eval a X.env)]:=by rfl):PI X (.Tuple elts k tp) (.Call (.Name "enumerate" p) [a] [] pos) (tIt K EX false .U (bI fj mr)):=by
 subst hK; exact (vg hg hm ha hs).mono fun _ _ _ q=>BS (lp:=false) (.inr rfl) q
end
section
variable {X:Cx}
end
end TP
namespace TP
open PySem L2
def lexLt:List Int->List Int->Bool
 | [],[]=>false
 | [],_::_=>true
 | _::_,[]=>false
 | a::as,b::bs=>if a=b then lexLt as bs else decide (a<b)
theorem eY:∀ a,lexLt a a=false
 | []=>rfl
 | x::a=>by unfold lexLt; rw [if_pos rfl]; exact eY a
theorem dz:∀ a b c,lexLt a b=true->lexLt b c=true->lexLt a c=true
 | [],[],_,h,_=>by cases h
 | [],_::_,[],_,h=>by cases h
 | [],_::_,_::_,_,_=>rfl
 | _::_,[],_,h,_=>by cases h
 | _::_,_::_,[],_,h=>by cases h
 | x::a,y::b,z::c,h1,h2=>by
  unfold lexLt at h1 h2 ⊢
  by_cases e1:x=y
  ·subst e1
   rw [if_pos rfl] at h1
   by_cases e2:x=z
   ·subst e2; rw [if_pos rfl] at h2 ⊢; exact dz a b c h1 h2
   ·rw [if_neg e2] at h2 ⊢; exact h2
  ·rw [if_neg e1] at h1
   have h1:=of_decide_eq_true h1
   by_cases e2:y=z
   ·subst e2; rw [if_neg e1]; exact decide_eq_true h1
   ·rw [if_neg e2] at h2
    have h2:=of_decide_eq_true h2
    rw [if_neg (by omega)]; exact decide_eq_true (by omega)
theorem bL:∀ a b,lexLt a b=false->lexLt b a=false->a=b
 | [],[],_,_=>rfl
 | [],_::_,h,_=>by cases h
 | _::_,[],_,h=>by cases h
 | x::a,y::b,h1,h2=>by
  unfold lexLt at h1 h2
  by_cases e:x=y
  ·subst e
   rw [if_pos rfl] at h1 h2
   rw [bL a b h1 h2]
  ·rw [if_neg e] at h1
   rw [if_neg (fun z=>e z.symm)] at h2
   have h1:=of_decide_eq_false h1
   have h2:=of_decide_eq_false h2
   omega
def A8 (ss:List (List Int)) (i:Nat):Int:=((ss.countP fun x=>lexLt x (ss.getD i [])):Nat)
theorem pB {α:Type} {p q:α->Bool}:∀ {l:List α},(∀ x∈l,p x=true->q x=true)->(∃ x∈l,q x=true/\p x=false)->l.countP p<l.countP q:=by
 intro l
 induction l with
 | nil=>intro _ h; obtain ⟨_,h,_⟩:=h; exact absurd h List.not_mem_nil
 | cons x l ih=>
  intro h h0
  obtain ⟨y,hy,hq,hp⟩:=h0
  have h':∀ z∈l,p z=true->q z=true:=fun z hz=>h z (List.mem_cons_of_mem _ hz)
  have le:l.countP p<=l.countP q:=List.countP_mono_left h'
  rw [List.countP_cons,List.countP_cons]
  rcases List.mem_cons.mp hy with e | hy
  ·subst e
   rw [if_pos hq,hp,if_neg Bool.false_ne_true]; omega
  ·have:=ih h' ⟨y,hy,hq,hp⟩
   by_cases c:p x=true
   ·rw [if_pos c,if_pos (h x List.mem_cons_self c)]; omega
   ·rw [if_neg c]; split <;> omega
theorem getD_mem {ss:List (List Int)} {i:Nat} (h:i<ss.length):ss.getD i []∈ss:=by
 rw [List.getD_eq_getElem?_getD]; simp [h]
theorem eH {ss:List (List Int)} {i j:Nat} (hi:i<ss.length) (hj:j<ss.length):decide (A8 ss i<A8 ss j)=lexLt (ss.getD i []) (ss.getD j []):=by
 cases h:lexLt (ss.getD i []) (ss.getD j []) with
 | true=>
  apply decide_eq_true
  unfold A8
  have:=pB (l:=ss) (p:=fun x=>lexLt x (ss.getD i [])) (q:=fun x=>lexLt x (ss.getD j [])) (fun x _ hx=>dz _ _ _ hx h) ⟨_,getD_mem hi,h,eY _⟩
  omega
 | false=>
  apply decide_eq_false
  unfold A8
  have:ss.countP (fun x=>lexLt x (ss.getD j []))<=ss.countP fun x=>lexLt x (ss.getD i []):=by
   apply List.countP_mono_left
   intro x _ hx
   cases h2:lexLt (ss.getD j []) (ss.getD i []) with
   | true=>exact dz _ _ _ hx h2
   | false=>rw [bL _ _ h h2]; exact hx
  omega
def iu (ss:List (List Int)):List Nat:=if ss.length<2 then List.range ss.length else (runK (A8 ss) (PySem.W.kas_sort ss.length)).toList
def C6 (ss:List (List Int)):List (List Int):=(iu ss).map fun i=>ss.getD i []
theorem rd (ss:List (List Int)):(iu ss).Perm (List.range ss.length):=by
 unfold iu
 split
 ·exact .refl _
 ·rename_i h
  have:=(bz (A8 ss) (n:=ss.length) (by omega)).1
  exact (Array.perm_iff_toList_perm.mp this).trans (by simp)
theorem fC (ss:List (List Int)):(List.range ss.length).map (fun i=>ss.getD i [])=ss:=by
 apply List.ext_getElem
 ·simp
 ·intro i h1 h2; simp [h2]
theorem aF (ss:List (List Int)):(C6 ss).Perm ss:=by
 have:=(rd ss).map fun i=>ss.getD i []
 rw [fC] at this
 exact this
theorem jJ (ss:List (List Int)):(C6 ss).Pairwise fun a b=>lexLt b a=false:=by
 unfold C6
 rw [List.pairwise_map]
 unfold iu
 split
 ·rename_i h
  have:ss.length=0\/ss.length=1:=by omega
  rcases this with e | e <;> rw [e] <;> simp
 ·rename_i h
  have k:=bz (A8 ss) (n:=ss.length) (by omega)
  have hp:=Array.perm_iff_toList_perm.mp k.1
  have hl:(runK (A8 ss) (PySem.W.kas_sort ss.length)).toList.length=ss.length:=by have:=hp.length_eq; simpa using this
  have hm:∀ x∈(runK (A8 ss) (PySem.W.kas_sort ss.length)).toList,x<ss.length:=fun x hx=>by have:=hp.mem_iff.mp hx; simpa using this
  have hu:=X0 (A8 ss) k.2
  generalize runK (A8 ss) (PySem.W.kas_sort ss.length)=p at hl hm hu
  rw [List.pairwise_iff_getElem]
  intro i j hi hj Fa
  have:=hu j i (by omega) (by omega)
  unfold ky at this
  have ei:p.getD i 0=p.toList[i]:=by rw [Array.getD_eq_getD_getElem?]; simp at hi ⊢; simp [hi]
  have ej:p.getD j 0=p.toList[j]:=by rw [Array.getD_eq_getD_getElem?]; simp at hj ⊢; simp [hj]
  rw [ei,ej] at this
  rw [<- eH (hm _ (List.getElem_mem hj)) (hm _ (List.getElem_mem hi))]
  exact decide_eq_false (by omega)
def N2 {α:Type} (n:Nat) (P:α->Prop):PySem.W.KasT α->Prop
 | .ret a=>P a
 | .ask i j k=>i<n/\j<n/\∀ b,N2 n P (k b)
theorem N1 {α β:Type} {n:Nat} {P:α->Prop} {P':β->Prop} {f:α->PySem.W.KasT β}:∀ {t:PySem.W.KasT α},N2 n P t->(∀ a,P a->N2 n P' (f a))->N2 n P' (t.bind f)
 | .ret a,h,hf=>hf a h
 | .ask i j k,h,hf=>⟨h.1,h.2.1,fun b=>N1 (h.2.2 b) hf⟩
def allLt (n:Nat) (p:Array Nat):Prop:=∀ x∈p,x<n
theorem allLt.perm {n:Nat} {p q:Array Nat} (h:allLt n p) (hp:q.Perm p):allLt n q:=fun x hx=>h x (hp.mem_iff.mp hx)
theorem allLt.at {n:Nat} {p:Array Nat} (h:allLt n p) (h0:0<n) (k:Nat):p.getD k 0<n:=by
 rw [Array.getD_eq_getD_getElem?]
 cases e:p[k]? with
 | none=>exact h0
 | some x=>exact h x (Array.mem_of_getElem? e)
section
open PySem.W PyProof.Rows
variable {n:Nat} (h0:0<n)
include h0
theorem fq {p:Array Nat} (h:allLt n p):∀ f k,N2 n (fun _=>True) (kas_asc p f k)
 | 0,_=>trivial
 | f+1,k=>⟨h.at h0 _,h.at h0 _,fun b=>by cases b <;> first | exact fq h f (k+1) | trivial⟩
theorem aw:∀ (f:Nat) (p:Array Nat) (k q:Nat),allLt n p->N2 n (fun r:Array Nat×Nat×Nat=>allLt n r.1) (kas_desc f p k q)
 | 0,p,k,q,h=>h
 | f+1,p,k,q,h=>by
  refine ⟨h.at h0 _,h.at h0 _,fun b=>?_⟩
  cases b with
  | true=>
   dsimp only; rw [if_pos rfl]
   split
   ·exact aw f _ _ _ (h.perm (mirror_perm _ _ _ _))
   ·exact aw f _ _ _ h
  | false=>
   dsimp only; rw [if_neg Bool.false_ne_true]
   refine ⟨h.at h0 _,h.at h0 _,fun b=>?_⟩
   cases b with
   | true=>dsimp only; rw [if_pos rfl]; exact h
   | false=>dsimp only; rw [if_neg Bool.false_ne_true]; exact aw f _ _ _ h
theorem fX {p:Array Nat} {k m:Nat} (h:allLt n p):N2 n (fun r:Nat×Array Nat=>allLt n r.2) (kas_tail3 k m p):=
 N1 (fq h0 (h.perm (mirror_perm _ _ _ _)) _ _) fun _ _=>h.perm (mirror_perm _ _ _ _)
theorem bp {p:Array Nat} {k m:Nat} (h:allLt n p):N2 n (fun r:Nat×Array Nat=>allLt n r.2) (kas_descPart k m p):=by
 refine N1 (aw h0 _ _ _ _ h) fun r hr=>?_
 split
 ·exact fX h0 (hr.perm (mirror_perm _ _ _ _))
 ·exact fX h0 hr
theorem pP {p:Array Nat} {m:Nat} (h:allLt n p):N2 n (fun r:Nat×Array Nat=>allLt n r.2) (kas_count m p):=by
 refine N1 (fq h0 h _ _) fun r hr=>?_
 split
 ·exact h
 ·split
  ·refine ⟨h.at h0 _,h.at h0 _,fun b=>?_⟩
   cases b with
   | true=>dsimp only; rw [if_pos rfl]; exact h
   | false=>dsimp only; rw [if_neg Bool.false_ne_true]; exact bp h0 (h.perm (mirror_perm _ _ _ _))
  ·exact bp h0 h
theorem bo {p:Array Nat} {k:Nat} (h:allLt n p):∀ f l m,N2 n (fun _=>True) (kas_place p k f l m)
 | 0,_,_=>trivial
 | f+1,l,m=>by
  unfold kas_place
  split
  ·trivial
  ·refine ⟨h.at h0 _,h.at h0 _,fun b=>?_⟩
   cases b with
   | true=>dsimp only; rw [if_pos rfl]; exact bo h f _ _
   | false=>dsimp only; rw [if_neg Bool.false_ne_true]; exact bo h f _ _
theorem kG:∀ (f:Nat) (p:Array Nat) (k:Nat),allLt n p->N2 n (fun _=>True) (kas_bin f p k)
 | 0,_,_,_=>trivial
 | f+1,p,k,h=>N1 (bo h0 h _ _ _) fun l _=>kG f _ _ (h.perm (bubble_perm _ _ _))
theorem sQ:N2 n (fun _=>True) (kas_sort n):=by
 refine N1 (pP h0 fun x hx=>by simpa using hx) fun r hr=>?_
 split
 ·exact kG h0 _ _ _ hr
 ·trivial
end
theorem wp_run {n:Nat} {r:Nat->Int} {cmp:Nat->Nat->(Bool->Shared->Prop)->Shared->Prop} {s:Shared} (hc:∀ i j C,i<n->j<n->C (decide (r i<r j)) s->cmp i j C s) {α:Type} {P:α->Prop} {Q:α->Shared->Prop} :
  ∀ {t:PySem.W.KasT α},N2 n P t->Q (runK r t) s->t.kasWp cmp Q s
 | .ret _,_,h=>h
 | .ask i j k,a,h=>hc i j _ a.1 a.2.1 (wp_run hc (a.2.2 _) h)
def W4 (fin:Bool):List (Int×Int)->Bool
 | []=>fin
 | (a,b)::r=>if a=b then W4 fin r else decide (a<b)
theorem fc:∀ xs ys:List Int,W4 (decide (xs.length<ys.length)) (xs.zip ys)=lexLt xs ys
 | [],[]=>rfl
 | [],_::_=>by simp [W4,lexLt]
 | _::_,[]=>by simp [W4,lexLt]
 | x::xs,y::ys=>by
  have:=fc xs ys
  simp only [List.zip_cons_cons,W4,lexLt,List.length_cons,Nat.add_lt_add_iff_right]
  rw [this]
section
open PySem.W PyProof.Rows
variable {prog:Program} {w:World} {A:Around} {E:Value->Shared->Prop} {s:Shared}
theorem oG {fin:Bool} {Q:Bool->Shared->Prop}:∀ (xs ys:List Int) (us vs:List Value) (i:Nat),Vals (xs.map V.int) us->Vals (ys.map V.int) vs->Q (W4 fin (xs.zip ys)) s->KatLex prog w A true fin Q (us.zip vs) i s
 | [],_,_,_,_,.nil,_,h=>h
 | _::_,[],_,_,_,.cons _ _,.nil,h=>h
 | x::xs,y::ys,_,_,i,.cons r1 t1,.cons r2 t2,h=>by
  obtain ⟨t,rfl⟩:=r1
  obtain ⟨u,rfl⟩:=r2
  refine kat_cons (wpAny_eqBool_int ?_)
  simp only [List.zip_cons_cons,W4] at h
  by_cases e:x=y
  ·rw [if_pos e] at h
   rw [show (x == y)=true by simpa using e]
   exact kat_yes (oG xs ys _ _ (i+1) t1 t2 h)
  ·rw [if_neg e] at h
   rw [show (x == y)=false by simpa using e]
   refine kat_no ?_
   cases i with
   | zero=>exact oneLt_int h
   | succ i=>exact kat_one _ _ (lt_int h)
def TupI (h:Heap) (v:Value) (xs:List Int):Prop:=∃ (a:Addr) (o:Obj) (its:List Value) (m:Nat),v=.ref a/\h.get? a=some o/\o.cls=.type "tuple" /\ o.data=.seq its.toArray m/\Vals (xs.map V.int) its
theorem vQ {v u:Value} {xs ys:List Int} {Q:Bool->Shared->Prop} (hv:TupI s.heap v xs) (hu:TupI s.heap u ys) (h:Q (lexLt xs ys) s):wpAny (model prog w) A (keyLt' (tuples' true) v u) Q E s:=by
 obtain ⟨a,o,its,m,rfl,ho,_,hd,rv⟩:=hv
 obtain ⟨b,o2,EY,m2,rfl,Gm,_,hd2,FJ⟩:=hu
 refine kat_lt ho hd Gm hd2 ?_
 have l1:=rv.length
 have l2:=FJ.length
 rw [List.length_map] at l1 l2
 refine oG xs ys _ _ 0 rv FJ ?_
 simp only [List.size_toArray,<- l1,<- l2]
 rw [fc]; exact h
theorem qg {h:Heap} {v:Value} {xs:List Int} (hv:TupI h v xs) (ES:xs ≠ []):∃ (a:Addr) (o:Obj) (its:Array Value) (m:Nat) (i:Int) (tk:Tok),v=.ref a/\h.get? a=some o/\o.cls=.type "tuple" /\ o.data=.seq its m/\its[0]?=some (.int i tk):=by
 obtain ⟨a,o,its,m,e,ho,hc,hd,rv⟩:=hv
 cases xs with
 | nil=>exact absurd rfl ES
 | cons x xs=>
  cases its with
  | nil=>cases rv
  | cons u its=>
   cases rv with
   | cons r1 _=>
    obtain ⟨tk,rfl⟩:=r1
    exact ⟨a,o,_,m,x,tk,e,ho,hc,hd,rfl⟩
theorem gI {h:Heap}:∀ {vs:List Value} {ss:List (List Int)},Paired (fun v xs=>TupI h v xs/\xs ≠ []) vs ss->∃ fs:List Value,KatTups h vs fs/\fs.length=ss.length/\∀ f∈fs,∃ i t,f=.int i t
 | _,_,.nil=>⟨[],trivial,rfl,fun _ h=>nomatch h⟩
 | _,_,.cons hv t=>by
  obtain ⟨fs,k,hl,hi⟩:=gI t
  obtain ⟨a,o,its,m,i,tk,e,ho,hc,hd,h0⟩:=qg hv.1 hv.2
  subst e
  refine ⟨.int i tk::fs,KatTups.cons ho hc hd h0 k,by rw [List.length_cons,List.length_cons,hl],fun f hf=>?_⟩
  rcases List.mem_cons.mp hf with q | hf
  ·exact ⟨i,tk,q⟩
  ·exact hi f hf
end
theorem u9 {α β:Type} {F:α->β->Prop} {d:α}:∀ {as:List α} {bs:List β} {i:Nat},Paired F as bs->i<as.length->∃ b,bs[i]?=some b/\F (as.getD i d) b
 | _,_,_,.nil,h=>absurd h (Nat.not_lt_zero _)
 | _,_,0,.cons r _,_=>⟨_,rfl,r⟩
 | _,_,i+1,.cons _ t,h=>by
  obtain ⟨b,e,q⟩:=u9 (d:=d) (i:=i) t (by simpa using h)
  exact ⟨b,by simpa using e,by simpa using q⟩
theorem cf {α β γ:Type} {F:α->β->Prop} {G:α->γ->Prop} {R:β->γ->Prop}:∀ {as:List α} {bs:List β} {cs:List γ},Paired F as bs->Paired G as cs->(∀ a b c,F a b->G a c->R b c)->Paired R bs cs
 | _,_,_,.nil,.nil,_=>.nil
 | _,_,_,.cons a r,.cons b t,h=>.cons (h _ _ _ a b) (cf r t h)
section
open PySem.W PyProof.Rows
variable {prog:Program} {w:World} {A:Around} {E:Value->Shared->Prop} {s:Shared}
end
theorem fW:bootBuiltins "sorted" = some (.builtin "sorted"):=by decide +kernel
section
variable {X:Cx} {K:Frag}
end
def K1:List W->Option (List (List Int))
 | []=>some []
 | .tup ws::r=>match t9 ws,K1 r with
  | some x,some xs=>some (x::xs)
  | _,_=>none
 | _=>none
theorem cA:∀ ss:List (List Int),K1 (ss.map fun x=>W.tup (x.map W.int))=some ss
 | []=>rfl
 | x::ss=>by
  show (match t9 (x.map W.int),K1 (ss.map fun x=>W.tup (x.map W.int)) with | some x,some xs=>_ | _,_=>_)=_
  rw [ints_map,cA ss]
theorem rW:∀ {ws:List W} {x:List Int},t9 ws=some x->ws=x.map W.int:=by
 intro ws
 induction ws with
 | nil=>intro x h; cases h; rfl
 | cons w ws ih=>
  intro x h
  cases w <;> first | (cases h; done) | skip
  rename_i i
  have h':(t9 ws).map (i::·)=some x:=h
  cases hw:t9 ws with
  | none=>rw [hw] at h'; cases h'
  | some bs=>rw [hw] at h'; rw [ih hw,<- Option.some.inj h']; rfl
theorem gJ:∀ {ws:List W} {ss:List (List Int)},K1 ws=some ss->ws=ss.map fun x=>W.tup (x.map W.int):=by
 intro ws
 induction ws with
 | nil=>intro ss h; cases h; rfl
 | cons w r ih=>
  intro ss h
  cases w <;> first | (cases h; done) | skip
  rename_i ws
  have h':(match t9 ws,K1 r with | some x,some xs=>some (x::xs) | _,_=>none)=some ss:=h
  cases h1:t9 ws with
  | none=>rw [h1] at h'; cases h'
  | some x=>
   cases h2:K1 r with
   | none=>rw [h1,h2] at h'; cases h'
   | some xs=>rw [h1,h2] at h'; rw [rW h1,ih h2,<- Option.some.inj h']; rfl
theorem fF:∀ ns:List Int,k9 (ns.map W.int)=true
 | []=>rfl
 | n::ns=>by rw [List.map_cons]; simp only [k9,noL,fF ns,Bool.and_self]
theorem cL:∀ ss:List (List Int),k9 (ss.map fun x=>W.tup (x.map W.int))=true
 | []=>rfl
 | x::ss=>by rw [List.map_cons]; simp only [k9,noL,fF x,cL ss,Bool.and_self]
section
variable {K:Frag}
theorem fB {F:Hp}:∀ {ys:List V} {ss:List (List Int)},Reps K F ys (ss.map fun x=>W.tup (x.map W.int))->(∀ x∈ss,x ≠ [])->Paired (fun v zs=>(∃ a,v=.ref a/\F a=some (.tup (zs.map V.int)))/\zs ≠ []) ys ss
 | _,[],.nil,_=>.nil
 | _,x::ss,.cons r t,ES=>by
  refine .cons ⟨?_,ES x List.mem_cons_self⟩ (fB t fun y hy=>ES y (List.mem_cons_of_mem _ hy))
  cases r with
  | tup ha hr=>exact ⟨_,rfl,by rw [ha,Reps.ints hr (ints_map x)]⟩
theorem eF {F:Hp}:∀ {ys:List V} {ws:List W} {i:Nat},Reps K F ys ws->i<ys.length->∃ w,ws[i]?=some w/\Rep K F (ys.getD i .non) w
 | _,_,_,.nil,h=>absurd h (Nat.not_lt_zero _)
 | _,_,0,.cons r _,_=>⟨_,rfl,r⟩
 | _,_,i+1,.cons _ t,h=>by
  obtain ⟨b,e,q⟩:=eF (i:=i) t (by simpa using h)
  exact ⟨b,by simpa using e,by simpa using q⟩
theorem cI {F:Hp} {f:Nat->V} {g:Nat->W}:∀ {l:List Nat},(∀ i∈l,Rep K F (f i) (g i))->Reps K F (l.map f) (l.map g)
 | [],_=>.nil
 | _::_,h=>.cons (h _ List.mem_cons_self) (cI fun b hb=>h b (List.mem_cons_of_mem _ hb))
end
end TP
namespace TP
open PySem L2
set_option maxHeartbeats 2000000
theorem xw (l b:Addr) (us vs:List Value) (m m2:Nat) (dd JT:Option Addr) (sl Jg:Array (Option Value)) (xs ys:List Int) (rx:Vals (xs.map V.int) us) (ry:Vals (ys.map V.int) vs) :
  Meets (Builtin.«tuple.__lt__» ⟨[.ref l,.ref b],[]⟩) (fun _ R s=>s.heap.get? l=some { cls:=.type "tuple",dict:=dd,data:=.seq us.toArray m,slots:=sl }/\s.heap.get? b=some { cls:=.type "tuple",dict:=JT,data:=.seq vs.toArray m2,slots:=Jg }/\R (.ok (.ret (.bool (lexLt xs ys)))) s):=
 .of_wp fun prog w A R s hyp=>by
  obtain ⟨hp,g,d,tk,os⟩:=s; obtain ⟨hl,hb,hyp⟩:=hyp; have g1:=AutoSeq1.sub_tuple_tuple
  have l1:=rx.length
  have l2:=ry.length
  rw [List.length_map] at l1 l2
  wp_walk using AutoSeq1.wpAny_loadPart' hl,AutoSeq1.wpAny_loadPart' hb,wpAny_forIn_list _ (fun rest b s'=>b.1=none/\s'=⟨hp,g,d,tk,os⟩/\∃ (zs ts:List Int) (us vs:List Value),rest=us.zip vs/\Vals (zs.map V.int) us/\Vals (ts.map V.int) vs/\R (.ok (.ret (.bool (W4 (decide (xs.length<ys.length)) (zs.zip ts))))) ⟨hp,g,d,tk,os⟩) _
  case turn=>
   rintro ⟨y,x⟩ rest b s' ⟨Gr,rfl,zs,ts,Fd,Gs,hz,r1,r2,hR⟩
   cases zs with
   | nil=>cases r1; cases hz
   | cons z zs=>
    cases ts with
    | nil=>cases r2; cases Fd <;> cases hz
    | cons t ts=>
     cases r1 with
     | cons a1 r1=>
      cases r2 with
      | cons a2 r2=>
       obtain ⟨k1,rfl⟩:=a1
       obtain ⟨k2,rfl⟩:=a2
       rw [List.zip_cons_cons] at hz
       injection hz with h1 h2
       injection h1 with h3 h4
       subst h3 h4 h2
       simp only [List.zip_cons_cons,W4] at hR
       refine wpAny_bind (wpAny_eqBool_int ?_)
       by_cases e:z=t
       ·rw [if_pos e] at hR
        rw [show (z == t)=true by simpa using e]
        wp_walk
        exact ⟨rfl,rfl,zs,ts,_,_,rfl,r1,r2,hR⟩
       ·rw [if_neg e] at hR
        rw [show (z == t)=false by simpa using e]
        rw [if_pos (show (!false)=true from rfl)]
        refine wpAny_bind (wpAny_rule (wpAny_bind (PyProof.Rows.lt_int ?_)))
        wp_walk
        exact ⟨_,rfl,hR⟩
  case fin=>
   rintro ⟨b1,b2⟩ s' ⟨Gr,rfl,zs,ts,Fd,Gs,hz,r1,r2,hR⟩
   simp only at Gr
   subst Gr
   have hk:W4 (decide (xs.length<ys.length)) (zs.zip ts)=decide (xs.length<ys.length):=by
    cases zs with
    | nil=>rfl
    | cons z zs=>
     cases ts with
     | nil=>rfl
     | cons t ts=>cases r1; cases r2; cases hz
   rw [hk] at hR
   wp_walk
   refine ⟨_,rfl,?_⟩
   simpa [Builtin.Tuple.tupleCompareSizes,<- l1,<- l2] using hR
  case h=>
   exact ⟨rfl,rfl,xs,ys,us,vs,rfl,rx,ry,by rw [fc]; exact hyp⟩
section
variable {X:Cx} {K:Frag}
end
section
variable {K:Frag}
end
end TP
namespace L2
open PySem PySem.Spec PyProof.Rows
section
variable {X:Cx} {pins:List (Addr×Obj)} {σ:St} {H:Hp} {s:Shared} {A:Around} {E:Value->Shared->Prop} {Q:Value->Shared->Prop} {b:Bool}
end
end L2
namespace TP
open PySem L2
section
variable {K:Frag} {d:Mode}
end
end TP
namespace HT
open PySem PyProof.Rows
section
variable {prog:Program} {w:World} {A:Around} {E:Value->Shared->Prop} {s:Shared}
end
end HT
namespace TP
open PySem L2
section
variable {X:Cx}
end
section
variable {K:Frag} {EX:EXT} {H0 G H:Hp} {ρ:Rho} {σ:St} {Q:VK}
end
section
variable {X:Cx} {K:Frag} {EX:EXT} {e:Expr} {pos:Pos} {ma:Rho->R W}
end
end TP
namespace TP
open PySem L2
section
variable {K:Frag} {EX:EXT} {H0 G H G1 H1 F:Hp} {ρ:Rho} {σ:St} {d:Mode} {D:Ends}
end
section
variable {X:Cx} {K:Frag} {EX:EXT} {d:Mode} {e k v:Expr} {pos:Pos} {mk me:Rho->R W}
end
end TP
namespace TP
open PySem L2
set_option maxHeartbeats 2000000
section
variable {X:Cx} {K:Frag}
end
section
variable {K:Frag}
end
end TP
namespace TP
open PySem L2
section
variable {X:Cx} {K:Frag} {EX:EXT} {d:Mode} {p:Pos} {es:List Expr} {mr:Rho->R (List W)}
end
end TP
namespace TB
open PySem PySem.W
end TB
namespace Att
open PySem PySem.W PySem.Calls PyProof.Rows
end Att
namespace L2
open PySem PySem.Spec PyProof.Rows
end L2
namespace TP
open PySem L2
def ud (i j:Int):Prop:=CMul i j\/Builtin.Int.intBits i+Builtin.Int.intBits j<=134217728
instance (i j:Int):Decidable (ud i j):=by unfold ud; infer_instance
section
variable {X:Cx}
end
end TP
namespace TL
open PySem
section
variable {prog:Program} {w:World} {A:Around} {E:Value->Shared->Prop} {s:Shared}
end
end TL
namespace TP
open PySem L2
section
variable {X:Cx}
end
section
variable {K:Frag} {EX:EXT} {σ:St} {H:Hp} {Q:VK}
end
section
variable {X:Cx} {K:Frag} {EX:EXT} {a:Expr} {pos:Pos} {mr:Rho->R (List W)}
end
end TP
namespace TP
open PySem L2
section
variable {X:Cx}
end
section
variable {K:Frag} {EX:EXT} {d:Mode} {σ:St} {H:Hp} {Q:VK}
end
section
variable {X:Cx} {K:Frag} {EX:EXT} {d:Mode} {o e:Expr} {apos EL:Pos} {mo me:Rho->R W}
end
end TP
namespace TP
open PySem L2
def OutW (K:Frag) (EX:EXT) (d:Mode) (H0:Hp) (r:R Fl) (D:Ends):Prop:=match r with
 | .ok (.nx ρ)=>∀ G' σ' H',PIv K H0 G' ρ σ' H'->D.nx σ' H'
 | .ok (.bk ρ)=>∀ G' σ' H',PIv K H0 G' ρ σ' H'->D.bk σ' H'
 | .ok (.ct ρ)=>∀ G' σ' H',PIv K H0 G' ρ σ' H'->D.ct σ' H'
 | .ok (.rt w)=>∀ v G' H',Same G' H'->Same H0 H'->(∀ a o,H0 a=some o->isL o=true->G' a=none)->Md K H0 H0 G' H' v w d->D.rt v H'
 | .ex e=>∀ H',Same H0 H'->EX e H'
 | .stuck=>False
def tStW (K:Frag) (EX:EXT) (d:Mode) (m:Rho->R Fl):TS:=fun D σ H=>∃ H0 G ρ,PIv K H0 G ρ σ H/\OutW K EX d H0 (m ρ) D
section
variable {K:Frag} {EX:EXT} {H0 G H G1 H1 G2 H2:Hp} {ρ:Rho} {σ:St} {d:Mode} {D:Ends}
theorem O9 {H:Hp} {a:Addr} {o:HO}:upd H a o a=some o:=by unfold upd; rw [if_pos rfl]
end
section
variable {X:Cx} {K:Frag} {EX:EXT} {d:Mode} {e:Expr} {pos:Pos} {ma:Rho->R W} {m n:Rho->R Fl} {ta:Rho->R Bool} {st:Stmt} {Ga:List Stmt}
end
end TP
namespace TP
open PySem L2
set_option maxHeartbeats 2000000
section
variable {X:Cx} {K:Frag}
end
section
variable {K:Frag}
end
end TP
namespace TP
open PySem L2
def Hx (p:Addr) (H0 H1:Hp):Prop:=(∀ a,a≠p->H1 a=H0 a)/\∃ vs,H1 p=some (.lst vs)
def OutIo (K:Frag) (EX:EXT) (p:Addr) (H0:Hp) (r:R Fl) (D:Ends):Prop:=match r with
 | .ok (.nx ρ)=>∀ FH G' σ' H',Hx p H0 FH->PIv K FH G' ρ σ' H'->D.nx σ' H'
 | .ok (.bk ρ)=>∀ FH G' σ' H',Hx p H0 FH->PIv K FH G' ρ σ' H'->D.rt .non H'
 | .ex e=>∀ H',EX e H'
 | _=>False
def tStI (K:Frag) (EX:EXT) (p:Addr) (m:Rho->R Fl):TS:=fun D σ H=>∃ H0 G ρ,PIv K H0 G ρ σ H/\(∃ vs,H0 p=some (.lst vs))/\OutIo K EX p H0 (m ρ) D
def nbR:R Fl->R Fl
 | .ok (.nx ρ)=>.ok (.nx ρ)
 | .ex e=>.ex e
 | _=>.stuck
def nb (m:Rho->R Fl):Rho->R Fl:=fun ρ=>nbR (m ρ)
section
variable {K:Frag} {EX:EXT} {H0 FH G H G1 H1 G2 H2:Hp} {ρ:Rho} {σ:St} {d:Mode} {D:Ends} {p:Addr}
theorem Hx.refl (h:∃ vs,H0 p=some (.lst vs)):Hx p H0 H0:=⟨fun _ _=>rfl,h⟩
theorem Hx.trans {A B C:Hp} (h:Hx p A B) (g:Hx p B C):Hx p A C:=⟨fun a q=>(g.1 a q).trans (h.1 a q),g.2⟩
theorem OutIo.move {r:R Fl} (s:Hx p H0 FH) (o:OutIo K EX p H0 r D):OutIo K EX p FH r D:=by
 cases r with
 | stuck=>exact o
 | ex e=>exact o
 | ok f=>
  cases f with
  | nx ρ'=>exact fun A G' σ' H' h I'=>o A G' σ' H' (s.trans h) I'
  | bk ρ'=>exact fun A G' σ' H' h I'=>o A G' σ' H' (s.trans h) I'
  | ct ρ'=>exact o
  | rt w=>exact o
theorem OutIo.bind {α β:Type} {md:α->β->Hp->Hp->Prop} {m:R α} {k:α->R Fl} {Q1:β->Hp->Prop} (o:OutIo K EX p H0 (m>>=k) D)
  (h:∀ x G1 H1 w,Ext G H G1 H1->md w x G1 H1->OutIo K EX p H0 (k w) D->Q1 x H1):Out EX G H md m Q1:=by
 cases m with
 | ok w=>exact fun v G' H' e q=>h v G' H' w e q o
 | ex e=>exact fun H' _=>o H'
 | stuck=>exact o
theorem tStI.toS {m:Rho->R Fl} (h:tStI K EX p (nb m) D σ H):tSt K EX d m D σ H:=by
 obtain ⟨H0,G,ρ,I,hp,o⟩:=h
 refine ⟨H0,G,ρ,I,?_⟩
 unfold nb at o
 revert o
 cases m ρ with
 | stuck=>exact id
 | ex e=>exact fun o H' _=>o H'
 | ok f=>
  cases f with
  | nx ρ'=>exact fun o G' σ' H' _ I'=>o H0 G' σ' H' (Hx.refl hp) I'
  | bk ρ'=>exact fun o=>o.elim
  | ct ρ'=>exact fun o=>o.elim
  | rt w=>exact fun o=>o.elim
theorem BN {m n:Rho->R Fl} (h:tStI K EX p (c8 m n) D σ H):qo (tStI K EX p m) (tStI K EX p n) D σ H:=by
 obtain ⟨H0,G,ρ,I,hp,o⟩:=h
 refine ⟨H0,G,ρ,I,hp,?_⟩
 unfold c8 at o
 revert o
 cases m ρ with
 | stuck=>exact id
 | ex e=>exact id
 | ok f=>
  cases f with
  | nx ρ'=>exact fun o A G' σ' H' s I'=>⟨A,G',ρ',I',s.2,OutIo.move s o⟩
  | _=>exact id
theorem DF {c:Rho->R Bool} {m n:Rho->R Fl} (h:tStI K EX p (mIf c m n) D σ H):qp (tT K EX c) (tStI K EX p m) (tStI K EX p n) D σ H:=by
 obtain ⟨H0,G,ρ,I,hp,o⟩:=h
 refine ⟨H0,G,ρ,I,OutIo.bind o fun x G1 H1 w e1 m1 o1=>?_⟩
 cases m1
 cases x with
 | true=>exact ⟨H0,G1,ρ,I.ext e1,hp,o1⟩
 | false=>exact ⟨H0,G1,ρ,I.ext e1,hp,o1⟩
def ll:Rho->R Fl:=fun ρ=>.ok (.bk ρ)
theorem BP (h:tStI K EX p ll D σ H):tRetN D σ H:=by
 obtain ⟨H0,G,ρ,I,hp,o⟩:=h
 exact o H0 G σ H (Hx.refl hp) I
def clI:Sl->Sl
 | .un=>.un
 | .val w=>.val w
 | .par w=>if noL w=true then .val w else .un
 | .own ws=>.own ws
 | .dic ks=>.dic ks
 | .dik ks=>.dik ks
 | .iop _ _=>.un
 | .hz _=>.un
theorem wI {s:Sl} {ws:List W} (h:clI s=.own ws):s=.own ws:=by
 cases s with
 | un=>cases h
 | val w=>cases h
 | par w=>
  by_cases c:noL w=true
  ·rw [clI,if_pos c] at h; cases h
  ·rw [clI,if_neg c] at h; cases h
 | own us=>exact h
 | dic ks=>cases h
 | dik ks=>cases h
 | iop q us=>cases h
 | hz _=>cases h
def appI (i:Nat) (p:Addr) (ws:List W) (ρ:Rho):Rho:=(ρ.map clI).set i (.iop p ws)
theorem PIv.appI {i:Nat} {ws:List W} {vs Gs:List V} (I:PIv K H0 G ρ σ H) (hi:i<ρ.length) (es:σ[i]?=some (some (.ref p))) (hp:H0 p=some (.lst vs)) (rv:Reps K G Gs ws):PIv K (upd H0 p (.lst Gs)) G (appI i p ws ρ) σ (upd H p (.lst Gs)):=by
 have gp:G p=none:=I.gl p _ hp rfl
 refine ⟨fun b o hb hl=>?_,fun b o hb hl=>?_,fun b o hb=>?_,fun b o hb=>?_,?_,fun k x o h1 h2=>?_,fun x y u1 u2 c EU h1 h2 h3 h4=>?_⟩
 ·by_cases q:b=p
  ·subst q; rw [O9] at hb; cases hb; cases hl
  ·rw [b8 q] at hb; exact I.g0 b o hb hl
 ·by_cases q:b=p
  ·subst q; exact gp
  ·rw [b8 q] at hb; exact I.gl b o hb hl
 ·have q:b≠p:=by rintro rfl; rw [gp] at hb; cases hb
  rw [b8 q]; exact I.gh b o hb
 ·by_cases q:b=p
  ·subst q; rw [O9] at hb ⊢; exact hb
  ·rw [b8 q] at hb ⊢; exact I.hh b o hb
 ·unfold TP.appI; rw [List.length_set,List.length_map]; exact I.len
 ·unfold TP.appI at h1
  by_cases q:i=k
  ·subst q
   rw [List.getElem?_set_self (by rw [List.length_map]; exact hi)] at h1
   cases h1
   rw [es] at h2; cases h2
   exact ⟨rfl,Gs,O9,rv⟩
  ·rw [List.getElem?_set_ne q,List.getElem?_map] at h1
   obtain ⟨s,hs,rfl⟩:=Option.map_eq_some_iff.mp h1
   have old:=I.sl k s o hs h2
   cases s with
   | un=>trivial
   | val w=>exact old
   | par w=>
    rw [clI]
    by_cases c:noL w=true
    ·rw [if_pos c]
     obtain ⟨v,ev,r⟩:=old
     exact ⟨v,ev,Rep.clean I r c⟩
    ·rw [if_neg c]; trivial
   | own ws=>
    obtain ⟨b,Fd,eb,hb,Fr,Fj,rb⟩:=old
    have Gq:b≠p:=by rintro rfl; rw [hp] at Fj; cases Fj
    exact ⟨b,Fd,eb,by rw [b8 Gq]; exact hb,Fr,by rw [b8 Gq]; exact Fj,rb⟩
   | dic ks=>
    obtain ⟨b,Fd,eb,hb,Fr,Fj,rb⟩:=old
    have Gq:b≠p:=by rintro rfl; rw [hp] at Fj; cases Fj
    exact ⟨b,Fd,eb,by rw [b8 Gq]; exact hb,Fr,by rw [b8 Gq]; exact Fj,rb⟩
   | dik ks=>
    obtain ⟨b,Fd,eb,hb,Fr,Fj,rb⟩:=old
    have Gq:b≠p:=by rintro rfl; rw [hp] at Fj; cases Fj
    exact ⟨b,Fd,eb,by rw [b8 Gq]; exact hb,Fr,by rw [b8 Gq]; exact Fj,rb⟩
   | iop q us=>trivial
   | hz _=>trivial
 ·have key:∀ {k:Nat} {u:List W},(TP.appI i p ws ρ)[k]?=some (.own u)->ρ[k]?=some (.own u):=fun {k u} hk=>by
   unfold TP.appI at hk
   by_cases q:i=k
   ·subst q
    rw [List.getElem?_set_self (by rw [List.length_map]; exact hi)] at hk
    cases hk
   ·rw [List.getElem?_set_ne q,List.getElem?_map] at hk
    obtain ⟨s,hs,h⟩:=Option.map_eq_some_iff.mp hk
    rw [hs,wI h]
  exact I.ne x y u1 u2 c EU (key h1) (key h2) h3 h4
def bK (p:Addr) (i:Nat) (m:Rho->R W):Rho->R Fl:=fun ρ=>match ρ[i]? with
 | some (.iop q ws)=>m ρ>>=fun w=>if q=p/\ws.length<1000 then .ok (.nx (appI i p (ws ++ [w]) ρ)) else .stuck
 | _=>.stuck
theorem BW {i:Nat} {m:Rho->R W} (h:tStI K EX p (bK p i m) D σ H):bx (qq (S3 i) (tM K EX .V m)) D σ H:=by
 obtain ⟨H0,G,ρ,I,hp,o⟩:=h
 unfold bK at o
 split at o
 ·rename_i q ws e
  have hi:=(List.getElem?_eq_some_iff.mp e).1
  have hs:i<σ.length:=by rw [<- I.len]; exact hi
  have es:σ[i]?=some σ[i]:=by simp
  obtain ⟨ev,vs,h0,r⟩:=I.sl i _ _ e es
  have hq:=I.hh q _ h0
  refine ⟨.ref q,by rw [es,ev],q,rfl,⟨vs,hq⟩,H0,G,ρ,I,OutIo.bind o fun x G1 H1 w e1 m1 o1=>?_⟩
  by_cases hl:q=p/\ws.length<1000
  ·rw [if_pos hl] at o1
   obtain ⟨rfl,hl⟩:=hl
   have h1:=e1.hh q _ hq
   dsimp only
   rw [h1]
   dsimp only
   have hlen:vs.length=ws.length:=r.length
   exact ⟨Nat.lt_of_lt_of_le (by omega:vs.length<1000) (by decide),o1 _ G1 σ _ ⟨fun a ha=>b8 ha,_,O9⟩ ((I.ext e1).appI hi (by rw [es,ev]) h0 ((r.same e1.gg).snoc m1))⟩
  ·rw [if_neg hl] at o1; exact o1.elim
 ·exact o.elim
def ioR (p:Addr) (ρ:Rho):R (List W):=match (ρ[1]?:Option Sl) with
 | some (.iop q cs)=>if q=p then .ok cs else .stuck
 | _=>.stuck
def V5 (n N:Nat) (m:Addr->Rho->R Fl) (p:Addr) (w1:W) (cs wr:List W):R (List W):=if wr.length+2=n/\k9 cs=true then (match m p (.par w1::.iop p cs::(wr.map Sl.par++List.replicate (N-n) Sl.un)) with
 | .ok (.nx ρ)=>ioR p ρ
 | .ok (.bk ρ)=>ioR p ρ
 | _=>.stuck) else .stuck
open Classical in
def D0 (n N:Nat) (m:Addr->Rho->R Fl) (w1:W) (cs wr:List W):R (List W):=if h:∃ Fc,∀ p,V5 n N m p w1 cs wr=.ok Fc then .ok (Classical.choose h) else .stuck
theorem ce {n N:Nat} {m:Addr->Rho->R Fl} {w1:W} {cs wr Fc:List W} (h:D0 n N m w1 cs wr=.ok Fc) (p:Addr):V5 n N m p w1 cs wr=.ok Fc:=by
 unfold D0 at h
 split at h
 ·rename_i q
  cases h
  exact Classical.choose_spec q p
 ·cases h
theorem nR {n N:Nat} {m:Addr->Rho->R Fl} {w1:W} {cs wr Fc:List W} (h:∀ p,V5 n N m p w1 cs wr=.ok Fc):D0 n N m w1 cs wr=.ok Fc:=by
 have hx:∃ Fc,∀ p,V5 n N m p w1 cs wr=.ok Fc:=⟨Fc,h⟩
 unfold D0
 rw [dif_pos hx]
 have:=Classical.choose_spec hx (0:Nat)
 rw [h] at this
 cases this
 rfl
theorem nS {n N:Nat} {m:Addr->Rho->R Fl} {w1:W} {cs wr:List W}:D0 n N m w1 cs wr=.stuck\/∃ Fc,D0 n N m w1 cs wr=.ok Fc:=by
 unfold D0
 split
 ·exact .inr ⟨_,rfl⟩
 ·exact .inl rfl
theorem fy {n N:Nat} {m:Addr->Rho->R Fl} {p:Addr} {w1:W} {cs wr Fc:List W} (h:V5 n N m p w1 cs wr=.ok Fc):wr.length+2=n/\k9 cs=true:=by
 unfold V5 at h
 by_cases e:wr.length+2=n/\k9 cs=true
 ·exact e
 ·rw [if_neg e] at h; cases h
def dY (K:Frag) (n:Nat) (f:W->List W->List W->R (List W)):Sp:=fun vs H Q _=>vs.length=n/\∃ v1 p vr w1 cs wr us Fc,vs=v1::.ref p::vr/\H p=some (.lst us)/\Rep K H v1 w1/\Reps K H vr wr/\Reps K H us cs/\f w1 cs wr=.ok Fc /\
 ∀ H' Fd G',(∀ a o,a≠p->H a=some o->H' a=some o)->H' p=some (.lst Fd)->Same G' H'->(∀ a o,H a=some o->isL o=true->G' a=none)->Reps K G' Fd Fc->Q .non H'
theorem PIv.toIop {i:Nat} {cs:List W} {us:List V} (I:PIv K H0 G ρ σ H) (hi:i<ρ.length) (es:σ[i]?=some (some (.ref p))) (hp:H0 p=some (.lst us)) (r:Reps K G us cs):PIv K H0 G (ρ.set i (.iop p cs)) σ H:=by
 refine ⟨I.g0,I.gl,I.gh,I.hh,by rw [List.length_set]; exact I.len,fun k x o h1 h2=>?_,fun x y u1 u2 c EU h1 h2 h3 h4=>?_⟩
 ·by_cases q:i=k
  ·subst q
   rw [List.getElem?_set_self hi] at h1
   cases h1
   rw [es] at h2; cases h2
   exact ⟨rfl,us,hp,r⟩
  ·rw [List.getElem?_set_ne q] at h1
   exact I.sl k x o h1 h2
 ·have key:∀ {k:Nat} {u:List W},(ρ.set i (.iop p cs))[k]?=some (.own u)->ρ[k]?=some (.own u):=fun {k u} hk=>by
   by_cases q:i=k
   ·subst q
    rw [List.getElem?_set_self hi] at hk
    cases hk
   ·rw [List.getElem?_set_ne q] at hk; exact hk
  exact I.ne x y u1 u2 c EU (key h1) (key h2) h3 h4
theorem wS {n:Nat} {Nl:List Str} {m:Addr->Rho->R Fl} {vs:List V} {Q:VK} {E:XK} (h:dY K n (D0 n Nl.length m) vs H Q E):∃ p,tStI K (fun _ _=>False) p (m p) { nx:=fun _ H'=>Q .non H',rt:=Q } (L2.start Nl vs) H:=by
 obtain ⟨hl,v1,p,vr,w1,cs,wr,us,Fc,rfl,hp,r1,rr,ru,hf,hq⟩:=h
 have GG:=ce hf p
 obtain ⟨hn,HL⟩:=fy GG
 have ra:Reps K H (v1::.ref p::vr) (w1::.lst cs::wr):=.cons r1 (.cons (.lst hp ru) rr)
 have I0:=PIv.begin (k:=Nl.length-n) (k':=Nl.length-n) ra rfl
 have ru':Reps K (u6 H) us cs:=Reps.clean I0 (by rw [bb]; exact ru) HL
 have I1:=I0.toIop (i:=1) (p:=p) (cs:=cs) (us:=us) (by simp) rfl hp ru'
 refine ⟨p,H,u6 H,Sl.par w1::.iop p cs::(wr.map Sl.par++List.replicate (Nl.length-n) Sl.un),?_,⟨us,hp⟩,?_⟩
 ·have e:L2.start Nl (v1::.ref p::vr)=((v1::.ref p::vr).map some++List.replicate (Nl.length-n) none):=by unfold L2.start; rw [hl]
  rw [e]
  exact I1
 ·unfold V5 at GG
  rw [if_pos ⟨hn,HL⟩] at GG
  have fin:∀ ρ,ioR p ρ=.ok Fc->∀ FH G' σ' H',Hx p H FH->PIv K FH G' ρ σ' H'->Q .non H':=fun ρ hr FH G' σ' H' hx I'=>by
   unfold ioR at hr
   split at hr
   ·rename_i q cs2 e2
    by_cases e3:q=p
    ·rw [if_pos e3] at hr
     cases hr
     subst e3
     have hi:1<σ'.length:=by rw [<- I'.len]; exact (List.getElem?_eq_some_iff.mp e2).1
     obtain ⟨_,Fd,h0',r'⟩:=I'.sl 1 _ _ e2 (show σ'[1]?=some σ'[1] by simp)
     refine hq H' Fd G' (fun a o ha hb=>I'.hh a o (by rw [hx.1 a ha]; exact hb)) (I'.hh _ _ h0') I'.gh (fun a o hb hl=>?_) r'
     by_cases e4:a=q
     ·subst e4; exact I'.gl a _ h0' rfl
     ·exact I'.gl a o (by rw [hx.1 a e4]; exact hb) hl
    ·rw [if_neg e3] at hr; cases hr
   ·cases hr
  revert GG
  cases m p (.par w1::.iop p cs::(wr.map Sl.par++List.replicate (Nl.length-n) Sl.un)) with
  | stuck=>exact fun h=>nomatch h
  | ex e=>exact fun h=>nomatch h
  | ok f=>
   cases f with
   | nx ρ'=>exact fun h FH G' σ' H' hx I'=>fin ρ' h FH G' σ' H' hx I'
   | bk ρ'=>exact fun h FH G' σ' H' hx I'=>fin ρ' h FH G' σ' H' hx I'
   | ct ρ'=>exact fun h=>nomatch h
   | rt w=>exact fun h=>nomatch h
def mIO (i:Nat) (f:W->List W->List W->R (List W)) (m1:Rho->R W) (mr:Rho->R (List W)):Rho->R Fl:=fun ρ=>match ρ[i]? with
 | some (.own cs)=>m1 ρ>>=fun w1=>mr ρ>>=fun wr=>f w1 cs wr>>=fun Fc=>.ok (.nx (ρ.set i (.own Fc)))
 | _=>.stuck
theorem wQ {i n:Nat} {f:W->List W->List W->R (List W)} {E:XK} {m1:Rho->R W} {mr:Rho->R (List W)} (hf:∀ w1 cs wr,f w1 cs wr=.stuck\/∃ Fc,f w1 cs wr=.ok Fc/\wr.length+2=n) (h:tSt K EX d (mIO i f m1 mr) D σ H) :
  bx (cW (dY K n f) [] E (V3 (tM K EX .B m1) (V3 (S3 i) (tA K EX .B mr)))) D σ H:=by
 obtain ⟨H0,G,ρ,I,o⟩:=h
 unfold mIO at o
 split at o
 ·rename_i cs e
  obtain ⟨a,vs,es,ha,hg,h0,r⟩:=I.own_at e
  refine ⟨H0,G,ρ,I,OutS.bind I o fun x G1 H1 w1 e1 m1 o1=>⟨.ref a,es,H0,G1,ρ,I.ext e1,OutS.bind (I.ext e1) o1 fun xs G2 H2 wr e2 m2 o2=>?_⟩⟩
  have I2:=(I.ext e1).ext e2
  rcases hf w1 cs wr with hs | ⟨Fc,hs,hn⟩
  ·rw [hs] at o2; exact o2.elim
  rw [hs,R.ok_bind] at o2
  have rx:=MdA.whole I2 m2
  have Iw:H2 a=some (.lst vs):=e2.hh _ _ (e1.hh _ _ ha)
  have g2a:G2 a=none:=e2.keep _ _ (e1.hh _ _ ha) rfl (e1.keep _ _ ha rfl hg)
  have r2:Reps K G2 vs cs:=(r.same e1.gg).same e2.gg
  show dY K n f ((x::.ref a::xs) ++ []) H2 (fun _ H1=>D.nx σ H1) E
  rw [List.append_nil]
  refine ⟨?_,x,a,xs,w1,cs,wr,vs,Fc,rfl,Iw,(m1.move e2).whole I2,rx,r2.same I2.gh,hs,fun H' Fd G' k1 k2 gH cl rr=>?_⟩
  ·rw [List.length_cons,List.length_cons,rx.length]; exact hn
  have ga':G' a=none:=cl a _ Iw rfl
  have hk:∀ b o,G2 b=some o->H' b=some o:=fun b o q=>k1 b o (by rintro rfl; rw [g2a] at q; cases q) (I2.gh b o q)
  have sB:Same G2 (both G2 G'):=fun b o q=>by unfold both; rw [q]
  have FE:Same G' (both G2 G'):=fun b o q=>by
   unfold both
   cases q1:G2 b with
   | none=>exact q
   | some u=>
    have a1:=hk b u q1
    rw [gH b o q] at a1
    exact a1.symm
  have HV:Same (both G2 G') H':=fun b o q=>by
   unfold both at q
   cases q1:G2 b with
   | none=>rw [q1] at q; exact gH b o q
   | some u=>rw [q1] at q; cases q; exact hk b _ q1
  have bn:∀ b o,H2 b=some o->isL o=true->G2 b=none->both G2 G' b=none:=fun b o q l g=>by unfold both; rw [g]; exact cl b o q l
  have hi:=(List.getElem?_eq_some_iff.mp e).1
  refine o2 (both G2 G') σ H' sB ⟨fun b o q l=>sB b o (I2.g0 b o q l),fun b o q l=>bn b o (I2.hh b o q) l (I2.gl b o q l),HV,fun b o q=>k1 b o (by rintro rfl; rw [h0] at q; cases q) (I2.hh b o q),by rw [List.length_set]; exact I2.len,fun k y o h1 h2=>?_,fun x1 y1 u1 u2 c EU h1 h2 h3 h4=>?_⟩
  ·by_cases q:i=k
   ·subst q
    rw [List.getElem?_set_self hi] at h1
    cases h1
    rw [es] at h2; cases h2
    exact ⟨a,Fd,rfl,k2,bn a _ Iw rfl g2a,h0,rr.same FE⟩
   ·rw [List.getElem?_set_ne q] at h1
    have old:=I2.sl k y o h1 h2
    cases y with
    | un=>trivial
    | val w=>obtain ⟨v,ev,r⟩:=old; exact ⟨v,ev,r.same sB⟩
    | par w=>obtain ⟨v,ev,r⟩:=old; exact ⟨v,ev,r.same (n9 sB)⟩
    | own ws=>
     obtain ⟨b,us2,eb,hb,Fr,Fj,rb⟩:=old
     subst eb
     have Ir:b≠a:=by
      rintro rfl
      exact I.ne i k cs ws b q e h1 es h2
     exact ⟨b,us2,rfl,k1 b _ Ir hb,bn b _ hb rfl Fr,Fj,rb.same sB⟩
    | dic ks=>
     obtain ⟨b,us2,eb,hb,Fr,Fj,rb⟩:=old
     have Ir:b≠a:=by
      rintro rfl
      rw [Iw] at hb; cases hb
     exact ⟨b,us2,eb,k1 b _ Ir hb,bn b _ hb rfl Fr,Fj,rb⟩
    | dik ks=>
     obtain ⟨b,us2,eb,hb,Fr,Fj,rb⟩:=old
     have Ir:b≠a:=by
      rintro rfl
      rw [Iw] at hb; cases hb
     exact ⟨b,us2,eb,k1 b _ Ir hb,bn b _ hb rfl Fr,Fj,rb⟩
    | iop q us=>obtain ⟨ev,HB,IB,r1⟩:=old; exact ⟨ev,HB,IB,r1.same sB⟩
    | hz w=>obtain ⟨v,ev,r⟩:=old; exact ⟨v,ev,r.same (n9 (V8 sB))⟩
  ·have key:∀ {k:Nat} {u:List W},(ρ.set i (.own Fc))[k]?=some (.own u)->∃ u',ρ[k]?=some (.own u'):=fun {k u} hk=>by
    by_cases q:i=k
    ·subst q; exact ⟨cs,e⟩
    ·rw [List.getElem?_set_ne q] at hk; exact ⟨u,hk⟩
   obtain ⟨v1,k1'⟩:=key h1
   obtain ⟨v2,k2'⟩:=key h2
   exact I.ne x1 y1 v1 v2 c EU k1' k2' h3 h4
 ·exact o.elim
end
section
variable {X:Cx} {K:Frag} {EX:EXT} {d:Mode} {e:Expr} {es:List Expr} {pos:Pos} {ma:Rho->R W} {m n:Rho->R Fl} {ta:Rho->R Bool} {st:Stmt} {Ga:List Stmt} {p:Addr} {mr:Rho->R (List W)}
theorem q_i (h:PS X st (tSt K EX d m)):PS X st (tStI K EX p (nb m)):=h.mono fun _ _ _ q=>q.toS
theorem yS (h:PSs X Ga (tSt K EX d m)):PSs X Ga (tStI K EX p (nb m)):=h.mono fun _ _ _ q=>q.toS
theorem bE (h1:PS X st (tStI K EX p m)) (h2:PSs X Ga (tStI K EX p n)):PSs X (st::Ga) (tStI K EX p (c8 m n)):=(ip h1 h2).mono fun _ _ _ q=>BN q
theorem eM (h1:PS X st (tStI K EX p m)):PSs X [st] (tStI K EX p m):=jP h1
theorem tE {c:Expr} {x y:List Stmt} (hc:PT X c (tT K EX ta)) (ha:PSs X x (tStI K EX p m)) (hb:PSs X y (tStI K EX p n)):PS X (.If c x y pos) (tStI K EX p (mIf ta m n)):=(tH hc ha hb).mono fun _ _ _ q=>DF q
theorem yQ:PS X (.Return none pos) (tStI K EX p ll):=ps_retN.mono fun _ _ _ q=>BP q
theorem yV {i:Nat} {x:Str} {p1 apos EL:Pos} (hN:X.N[i]?=some x) (hv:Vis X.env.scope x) (ha:PE X e (tM K EX .V ma)) (hd:(x == ("__debug__" : Str))=false:=by decide) (Fo:(x == ("__classdict__" : Str))=false:=by decide)
  (ET:attributeBase (.Name x p1) "append" X.env (eval (.Name x p1) X.env)=eval (.Name x p1) X.env:=by rfl)
  (FA:((backTo EL (starEach [e] X.env)).all (fun x=>!x.1)&&(backToKw EL (keywordEach [] X.env)).all (fun x=>x.1.isSome)
   && decide (([e]:List Expr).length+([]:List Keyword).length+(if ([]:List Keyword).isEmpty then 0 else 1)<30))=true:=by rfl)
  (ER:(apos.endLine == EL.line)=true:=by rfl) (hs:starEach [e] X.env=(false,eval e X.env)::starEach [] X.env:=by rfl) (FL:swapsWith (.Call (.Attribute (.Name x p1) "append" apos) [e] [] EL) none pos.line X.env=pure false:=by rfl) :
  PS X (.Expr (.Call (.Attribute (.Name x p1) "append" apos) [e] [] EL) pos) (tStI K EX p (bK p i ma)):=(X3 (fD (P4 hN hv hd Fo) ha ET FA ER hs) FL).mono fun _ _ _ q=>BW q
theorem uZ {i k:Nat} {y:Str} {p1 p2 EL:Pos} {f:Addr} {fd:FuncData} {ps:List Str} {x:Str} {n N:Nat} {m:Addr->Rho->R Fl} (hN:X.N[i]?=some y) (hv:Vis X.env.scope y)
  (F:FnOk X.prog X.w X.K X.mg X.base CX0 k f fd ps (dY K n (D0 n N m))) (hr:Room k X.A) (hg:Gl X x) (hm:X.mg x=some (.ref f)) (hk:PySem.W.keepIn X.K (.ref f)=true) (hb:Binds X.K fd ps [])
  (h1:PE X e (tM K (fun _ _=>False) .B ma)) (h2:PA X es (tA K (fun _ _=>False) .B mr)) (hd:(y == ("__debug__" : Str))=false:=by decide) (Fo:(y == ("__classdict__" : Str))=false:=by decide)
  (Fv:(x == ("__debug__" : Str))=false:=by decide) (he:starEach (e::.Name y p2::es) X.env=(false,eval e X.env)::starEach (.Name y p2::es) X.env:=by rfl) (he2:starEach (.Name y p2::es) X.env=(false,eval (.Name y p2) X.env)::starEach es X.env:=by rfl) (Fn:(backTo EL (starEach (.Name y p2::es) X.env)).any (·.1)=false:=by rfl)
  (FL:swapsWith (.Call (.Name x p1) (e::.Name y p2::es) [] EL) none pos.line X.env=pure false:=by rfl) :
  PS X (.Expr (.Call (.Name x p1) (e::.Name y p2::es) [] EL) pos) (tSt K (fun _ _=>False) d (mIO i (D0 n N m) ma mr)):=
 (X3 (bF F hr hg hm hk hb .nil dh (X4 h1 (X4 (P4 hN hv hd Fo) h2 he2) he) Fv he Fn) FL).mono fun _ _ _ q=>wQ (fun w1 cs wr=>by
  rcases nS (n:=n) (N:=N) (m:=m) (w1:=w1) (cs:=cs) (wr:=wr) with h | ⟨Fc,h⟩
  ·exact .inl h
  ·exact .inr ⟨Fc,h,(fy (ce h (0:Nat))).1⟩) q
end
end TP
namespace TP
open PySem L2
section
variable {K:Frag} {EX:EXT} {H0 G H:Hp} {ρ:Rho} {σ:St}
theorem Rep.ofNoL {v:V} {w:W} (r:Rep K H v w) (h:noL w=true):Rep K (u6 H) v w:=Rep.clean (PIv.begin (vs:=[]) (ws:=[]) (k:=0) (k':=0) .nil rfl) (by rw [bb]; exact r) h
theorem zE (K:Frag) (H:Hp):Same (u6 H) H:=(PIv.begin (K:=K) (H:=H) (vs:=[]) (ws:=[]) (k:=0) (k':=0) .nil rfl).gh
end
section
variable {X:Cx} {K:Frag} {e:Expr} {es:List Expr} {pos:Pos} {mr:Rho->R (List W)}
end
end TP
namespace TP
open PySem L2
section
variable {X:Cx}
end
section
variable {K:Frag} {EX:EXT} {H0 G H:Hp} {ρ:Rho} {σ:St} {d:Mode} {D:Ends}
end
section
variable {X:Cx} {K:Frag} {EX:EXT} {d:Mode} {e:Expr} {pos:Pos} {ma:Rho->R W}
end
end TP
namespace TP
open PySem L2
def n5:List (List Int)->List (List Int)->Bool
 | [],[]=>false
 | [],_::_=>true
 | _::_,[]=>false
 | a::as,b::bs=>if a=b then n5 as bs else lexLt a b
theorem iP:∀ a,n5 a a=false
 | []=>rfl
 | x::a=>by unfold n5; rw [if_pos rfl]; exact iP a
theorem eZ:∀ a b c,n5 a b=true->n5 b c=true->n5 a c=true
 | [],[],_,h,_=>by cases h
 | [],_::_,[],_,h=>by cases h
 | [],_::_,_::_,_,_=>rfl
 | _::_,[],_,h,_=>by cases h
 | _::_,_::_,[],_,h=>by cases h
 | x::a,y::b,z::c,h1,h2=>by
  unfold n5 at h1 h2 ⊢
  by_cases e1:x=y
  ·subst e1
   rw [if_pos rfl] at h1
   by_cases e2:x=z
   ·subst e2; rw [if_pos rfl] at h2 ⊢; exact eZ a b c h1 h2
   ·rw [if_neg e2] at h2 ⊢; exact h2
  ·rw [if_neg e1] at h1
   by_cases e2:y=z
   ·subst e2; rw [if_neg e1]; exact h1
   ·rw [if_neg e2] at h2
    have h3:=dz _ _ _ h1 h2
    by_cases e3:x=z
    ·subst e3; rw [eY] at h3; cases h3
    ·rw [if_neg e3]; exact h3
theorem af:∀ a b,n5 a b=false->n5 b a=false->a=b
 | [],[],_,_=>rfl
 | [],_::_,h,_=>by cases h
 | _::_,[],_,h=>by cases h
 | x::a,y::b,h1,h2=>by
  unfold n5 at h1 h2
  by_cases e:x=y
  ·subst e
   rw [if_pos rfl] at h1 h2
   rw [af a b h1 h2]
  ·rw [if_neg e] at h1
   rw [if_neg (fun z=>e z.symm)] at h2
   exact absurd (bL _ _ h1 h2) e
def G0 (ss:List (List (List Int))) (i:Nat):Int:=((ss.countP fun x=>n5 x (ss.getD i [])):Nat)
theorem oV {ss:List (List (List Int))} {i:Nat} (h:i<ss.length):ss.getD i []∈ss:=by
 rw [List.getD_eq_getElem?_getD]; simp [h]
theorem ik {ss:List (List (List Int))} {i j:Nat} (hi:i<ss.length) (hj:j<ss.length):decide (G0 ss i<G0 ss j)=n5 (ss.getD i []) (ss.getD j []):=by
 cases h:n5 (ss.getD i []) (ss.getD j []) with
 | true=>
  apply decide_eq_true
  unfold G0
  have:=pB (l:=ss) (p:=fun x=>n5 x (ss.getD i [])) (q:=fun x=>n5 x (ss.getD j [])) (fun x _ hx=>eZ _ _ _ hx h) ⟨_,oV hi,h,iP _⟩
  omega
 | false=>
  apply decide_eq_false
  unfold G0
  have:ss.countP (fun x=>n5 x (ss.getD j []))<=ss.countP fun x=>n5 x (ss.getD i []):=by
   apply List.countP_mono_left
   intro x _ hx
   cases h2:n5 (ss.getD j []) (ss.getD i []) with
   | true=>exact eZ _ _ _ hx h2
   | false=>rw [af _ _ h h2]; exact hx
  omega
def M1 (ss:List (List (List Int))):List Nat:=if ss.length<2 then List.range ss.length else (runK (G0 ss) (PySem.W.kas_sort ss.length)).toList
theorem J8 (ss:List (List (List Int))):(M1 ss).Perm (List.range ss.length):=by
 unfold M1
 split
 ·exact .refl _
 ·rename_i h
  have:=(bz (G0 ss) (n:=ss.length) (by omega)).1
  exact (Array.perm_iff_toList_perm.mp this).trans (by simp)
theorem vk (ss:List (List (List Int))):(M1 ss).Pairwise fun i j=>n5 (ss.getD j []) (ss.getD i [])=false:=by
 unfold M1
 split
 ·rename_i h
  have:ss.length=0\/ss.length=1:=by omega
  rcases this with e | e <;> rw [e] <;> simp
 ·rename_i h
  have k:=bz (G0 ss) (n:=ss.length) (by omega)
  have hp:=Array.perm_iff_toList_perm.mp k.1
  have hl:(runK (G0 ss) (PySem.W.kas_sort ss.length)).toList.length=ss.length:=by have:=hp.length_eq; simpa using this
  have hm:∀ x∈(runK (G0 ss) (PySem.W.kas_sort ss.length)).toList,x<ss.length:=fun x hx=>by have:=hp.mem_iff.mp hx; simpa using this
  have hu:=X0 (G0 ss) k.2
  generalize runK (G0 ss) (PySem.W.kas_sort ss.length)=p at hl hm hu
  rw [List.pairwise_iff_getElem]
  intro i j hi hj Fa
  have:=hu j i (by omega) (by omega)
  unfold ky at this
  have ei:p.getD i 0=p.toList[i]:=by rw [Array.getD_eq_getD_getElem?]; simp at hi ⊢; simp [hi]
  have ej:p.getD j 0=p.toList[j]:=by rw [Array.getD_eq_getD_getElem?]; simp at hj ⊢; simp [hj]
  rw [ei,ej] at this
  rw [<- ik (hm _ (List.getElem_mem hj)) (hm _ (List.getElem_mem hi))]
  exact decide_eq_false (by omega)
def o9 {α:Type} (ks:List (List (List Int))) (d:α) (vs:List α):List α:=((M1 ks.reverse).map fun i=>vs.reverse.getD i d).reverse
theorem ir {α:Type} (ks:List (List (List Int))) (d:α) (vs:List α):(o9 ks d vs).length=ks.length:=by
 unfold o9
 rw [List.length_reverse,List.length_map,(J8 ks.reverse).length_eq,List.length_range,List.length_reverse]
theorem fA {α:Type} (d:α) (vs:List α):(List.range vs.length).map (fun i=>vs.getD i d)=vs:=by
 apply List.ext_getElem
 ·simp
 ·intro i h1 h2; simp [h2]
theorem oo {α:Type} {ks:List (List (List Int))} {d:α} {vs:List α} (hl:vs.length=ks.length):(o9 ks d vs).Perm vs:=by
 unfold o9
 refine (List.reverse_perm _).trans ?_
 have:=(J8 ks.reverse).map fun i=>vs.reverse.getD i d
 rw [show ks.reverse.length=vs.reverse.length by rw [List.length_reverse,List.length_reverse,hl],fA] at this
 exact this.trans (List.reverse_perm _)
def cP (fin:Bool):List (List Int×List Int)->Bool
 | []=>fin
 | (a,b)::r=>if a=b then cP fin r else lexLt a b
theorem ki:∀ xs ys:List (List Int),cP (decide (xs.length<ys.length)) (xs.zip ys)=n5 xs ys
 | [],[]=>rfl
 | [],_::_=>by simp [cP,n5]
 | _::_,[]=>by simp [cP,n5]
 | x::xs,y::ys=>by
  have:=ki xs ys
  simp only [List.zip_cons_cons,cP,n5,List.length_cons,Nat.add_lt_add_iff_right]
  rw [this]
section
open PySem.W PyProof.Rows
variable {prog:Program} {w:World} {A:Around} {E:Value->Shared->Prop} {s:Shared}
theorem items_int:∀ {xs:List Int} {its:List Value},Vals (xs.map V.int) its->ItemsAre (intKind prog w) xs its:=by
 intro xs
 induction xs with
 | nil=>intro its h; cases h; exact .nil
 | cons x xs ih=>
  intro its h
  cases h with
  | cons r t=>
   obtain ⟨tk,rfl⟩:=r
   exact .cons (by simp [intKind,Value.isInt]) (ih t)
theorem wC {v u:Value} {xs ys:List Int} {Q:Bool->Shared->Prop} (hu:A.units<cLine) (hv:TupI s.heap v xs) (hw:TupI s.heap u ys) (h:Q (decide (xs=ys)) s):wpAny (model prog w) A (eqBool v u) Q E s:=by
 obtain ⟨a,o,its,m,rfl,ho,hc,hd,rv⟩:=hv
 obtain ⟨b,o2,EY,m2,rfl,Gm,IX,hd2,FJ⟩:=hw
 exact wpAny_eqBool_tuple (knd:=intKind prog w) hu ⟨o,_,m,ho,hc,hd,by simpa using items_int rv⟩ ⟨o2,_,m2,Gm,IX,hd2,by simpa using items_int FJ⟩ h
theorem vR {v u:Value} {xs ys:List Int} {Q:Bool->Shared->Prop} (hu:A.units+64<cLine) (hv:TupI s.heap v xs) (hw:TupI s.heap u ys) (h:Q (lexLt xs ys) s):wpAny (model prog w) A (compareOp .Lt v u) (PySem.W.BoolBack Q) E s:=by
 obtain ⟨a,⟨c1,d1,t1,sl1⟩,its,m,rfl,ho,hc,hd,rv⟩:=hv
 obtain ⟨b,⟨c2,d2,t2,Jg⟩,EY,m2,rfl,Gm,IX,hd2,FJ⟩:=hw
 simp only at hc hd IX hd2
 subst hc hd IX hd2
 exact richCompare_meets_room (op:=.Lt) ⟨_,ho,rfl⟩ ⟨_,Gm,rfl⟩ PySem.F.slot_tuple_lt PySem.F.entry_tuple_lt (PySem.F.args_tuple_lt_2 _ _) (xw a b its EY m m2 d1 d2 sl1 Jg xs ys rv FJ) ⟨ho,Gm,(fun x=>nomatch x),h⟩ (by omega)
theorem vT {fin:Bool} {Q:Bool->Shared->Prop} (hu:A.units+64<cLine):∀ (xs ys:List (List Int)) (us vs:List Value) (i:Nat),Paired (TupI s.heap) us xs->Paired (TupI s.heap) vs ys->Q (cP fin (xs.zip ys)) s->KatLex prog w A false fin Q (us.zip vs) i s:=by
 intro xs
 induction xs with
 | nil=>intro ys us vs i a b h; cases a; exact h
 | cons x xs ih=>
  intro ys us vs i a b h
  cases a with
  | cons r1 t1=>
   cases ys with
   | nil=>cases b; exact h
   | cons y ys=>
    cases b with
    | cons r2 t2=>
     simp only [List.zip_cons_cons,cP] at h
     refine kat_cons (wC (by omega) r1 r2 ?_)
     by_cases e:x=y
     ·rw [if_pos e] at h
      rw [decide_eq_true e]
      exact kat_yes (ih ys _ _ (i+1) t1 t2 h)
     ·rw [if_neg e] at h
      rw [decide_eq_false e]
      exact kat_no (kat_one _ _ (vR hu r1 r2 h))
def jh (h:Heap) (v:Value) (xs:List (List Int)):Prop:=∃ (a:Addr) (o:Obj) (its:List Value) (m:Nat),v=.ref a/\h.get? a=some o/\o.cls=.type "tuple" /\ o.data=.seq its.toArray m/\Paired (TupI h) its xs
theorem vS {v u:Value} {xs ys:List (List Int)} {Q:Bool->Shared->Prop} (hu:A.units+64<cLine) (hv:jh s.heap v xs) (hw:jh s.heap u ys) (h:Q (n5 xs ys) s):wpAny (model prog w) A (keyLt' (tuples' false) v u) Q E s:=by
 obtain ⟨a,o,its,m,rfl,ho,_,hd,rv⟩:=hv
 obtain ⟨b,o2,EY,m2,rfl,Gm,_,hd2,FJ⟩:=hw
 refine kat_lt ho hd Gm hd2 ?_
 have l1:=Paired.length rv
 have l2:=Paired.length FJ
 refine vT hu xs ys _ _ 0 rv FJ ?_
 simp only [List.size_toArray,l1,l2]
 rw [ki]; exact h
theorem gK {h:Heap}:∀ {vs:List Value} {ss:List (List (List Int))},Paired (fun v xs=>jh h v xs/\xs ≠ []) vs ss->∃ fs:List Value,KatTups h vs fs/\fs.length=ss.length/\∀ f∈fs,∃ x,TupI h f x
 | _,_,.nil=>⟨[],trivial,rfl,fun _ h=>nomatch h⟩
 | _,_,.cons hv t=>by
  obtain ⟨fs,k,hl,hi⟩:=gK t
  obtain ⟨⟨a,o,its,m,rfl,ho,hc,hd,rv⟩,ES⟩:=hv
  cases rv with
  | nil=>exact absurd rfl ES
  | cons r1 r2=>
   rename_i v0 x0 l1 l2
   refine ⟨v0::fs,KatTups.cons ho hc hd (by simp) k,by rw [List.length_cons,List.length_cons,hl],fun f hf=>?_⟩
   rcases List.mem_cons.mp hf with q | hf
   ·subst q; exact ⟨_,r1⟩
   ·exact hi f hf
end
end TP
namespace TP
open PySem L2
def cV (k:List (List Int)):List W:=k.map fun x=>W.tup (x.map W.int)
def kW (k:List (List Int)):W:=.tup (cV k)
def keyOf:R W->Option (List (List Int))
 | .ok (.tup us)=>(match K1 us with
  | some (a::k)=>some (a::k)
  | _=>none)
 | _=>none
def C8 (f:List W->R W):List W->Option (List (List (List Int)))
 | []=>some []
 | w::r=>match keyOf (f [w]),C8 f r with
  | some k,some ks=>some (k::ks)
  | _,_=>none
theorem fN {r:R W} {k:List (List Int)} (h:keyOf r=some k):r=.ok (kW k)/\k ≠ []:=by
 unfold keyOf at h
 split at h
 ·rename_i us
  split at h
  ·rename_i a k' e
   cases h
   rw [gJ e]
   exact ⟨rfl,by simp⟩
  ·cases h
 ·cases h
theorem ag {f:List W->R W} {w:W} {r:List W} {ks:List (List (List Int))} (h:C8 f (w::r)=some ks):∃ k GO,ks=k::GO/\f [w]=.ok (kW k)/\k ≠ []/\C8 f r=some GO:=by
 unfold C8 at h
 split at h
 ·rename_i k GO e1 e2
  cases h
  exact ⟨k,GO,rfl,(fN e1).1,(fN e1).2,e2⟩
 ·cases h
theorem ba {f:List W->R W}:∀ {ws:List W} {ks:List (List (List Int))},C8 f ws=some ks->ks.length=ws.length
 | [],_,h=>by cases h; rfl
 | w::r,_,h=>by
  obtain ⟨k,GO,rfl,_,_,e⟩:=ag h
  rw [List.length_cons,List.length_cons,ba e]
theorem iU {f:List W->R W}:∀ {ws:List W} {ks:List (List (List Int))},C8 f ws=some ks->∀ k∈ks,k ≠ []
 | [],_,h=>by cases h; simp
 | w::r,_,h=>by
  obtain ⟨k,GO,rfl,_,hn,e⟩:=ag h
  intro x hx
  rcases List.mem_cons.mp hx with rfl | hx
  ·exact hn
  ·exact iU e x hx
def inK (X:Cx):Cx:={ X with A:=X.A.in1.in1,xe:=fun _ _=>False }
section
variable {X:Cx} {pins:List (Addr×Obj)} {σ:L2.St} {H:Hp} {s:Shared}
theorem Az (I:Inv X pins σ H s):Inv (inK X) pins σ H s:=
 ⟨⟨I.ok.mod,I.ok.kind,I.ok.glob,I.ok.blt,I.ok.above,I.ok.inj,I.ok.has,I.ok.cab,I.ok.hd,I.ok.frames,I.ok.stk,I.ok.exf,I.ok.bs,I.ok.bsz,I.ok.noex,I.ok.exfs,I.ok.funs,I.ok.frf⟩,I.os,I.bare,I.base,I.loc,I.cell,I.free,I.freeC,I.pin,I.hok,I.len⟩
theorem vX (I:Inv (inK X) pins σ H s):Inv X pins σ H s:=
 ⟨⟨I.ok.mod,I.ok.kind,I.ok.glob,I.ok.blt,I.ok.above,I.ok.inj,I.ok.has,I.ok.cab,I.ok.hd,I.ok.frames,I.ok.stk,I.ok.exf,I.ok.bs,I.ok.bsz,I.ok.noex,I.ok.exfs,I.ok.funs,I.ok.frf⟩,I.os,I.bare,I.base,I.loc,I.cell,I.free,I.freeC,I.pin,I.hok,I.len⟩
theorem oR {D:Addr} {ys:List V} {its:List Value} {n:Nat} {h':Heap} {t':Nat} (I:Inv X pins σ H s) (k:∀ b o,b≠D->s.heap.get? b=some o->h'.get? b=some o) (hn:H D=none) (hL:D≠X.env.locals)
  (h1:X.s₀.heap.objs.size<=D) (h2:∀ x c,X.env.cells.lookup x=some c->c≠D) (h3:∀ p∈X.pn++pins,p.1≠D) (hz:ys.length<=sizeLine) (hv:Vals ys its) (e:h'.get? D=some { cls:=.type "list",data:=.seq its.toArray n }) :
  Inv X pins σ (upd H D (.lst ys)) { s with heap:=h',toks:=t' }:=by
 have GD:∀ b u,H b=some u->b≠D:=fun b u e z=>by rw [z,hn] at e; cases e
 refine I.step (g':=s.gens) (d':=s.drawn) (ch:=[D]) (fun b hb=>?_) (fun b o _ _ hc e _=>k b o (fun z=>hc (by simp [z])) e) (fun b o _ _ hc e _=>⟨o.slots,k b o (fun z=>hc (by simp [z])) e⟩) (fun b _ hc _ n=>by rw [b8 (fun z=>hc (by simp [z]))]; exact n)
  (fun b o hc e=>⟨o,k b o (fun z=>hc (by simp [z])) e⟩) (fun b _ e=>by rw [b8 (GD b _ e)]; exact e) (fun b _ _ e=>by rw [b8 (GD b _ e)]; exact e) (fun b ps e=>⟨#[],by rw [b8 (GD b _ e),e]; simp⟩) (fun m hm=>?_) (fun b u e1=>?_) I.bare
 ·have e:b=D:=by simpa using hb
  subst e
  exact ⟨.inr h1,hL,h2,h3⟩
 ·obtain ⟨o,es,ep,ho,r⟩:=hm
  exact ⟨o,es,ep,k _ o (Ne.symm hL) ho,r⟩
 ·by_cases q:b=D
  ·subst q
   rw [O9] at e1
   cases e1
   exact ⟨hz,its,n,hv,e⟩
  ·rw [b8 q] at e1
   refine (I.hok b u e1).stay (fun c v hc q'=>k c v ?_ q') (fun c q'=>by rw [b8 (GD c _ q')]; exact q') fun c _ q'=>by rw [b8 (GD c _ q')]; exact q'
   rcases hc with z | z
   ·rw [z]; exact q
   ·exact GD c _ z
end
section
open PySem.W PyProof.Rows
variable {Y:Cx} {K:Frag} {pn:List (Addr×Obj)} {σ:L2.St}
theorem rP {k:Nat} {f kS:Addr} {fd:FuncData} {ps:List Str} {N:Nat} {m:Rho->R Fl} {E:Value->Shared->Prop} {body:Value->PUnit->Sem (ForInStep PUnit)} (Jq:Y.xe=fun _ _=>False)
  (F:FnOk Y.prog Y.w Y.K Y.mg Y.base CX0 k f fd ps (spM K 1 .F (g8 1 N m))) (hr:Room k Y.A) (hb:Binds Y.K fd ps [])
  (FG:∀ (x:Value) (s:Shared) (P:Value->Shared->Prop) (C:Shared->Prop),wpAny (model Y.prog Y.w) Y.A (call (.ref f) [x]) P (fun _ _=>False) s ->
   (∀ u s',P u s'->∃ its n,s'.heap.get? kS=some (seqObj "list" its n)/\its.size<64/\C { s' with heap:=s'.heap.update kS (Obj.mapSeq (·.push u)) })->wpAny (model Y.prog Y.w) Y.A (body x ⟨⟩) (fun r s'=>r=.yield ⟨⟩/\C s') E s) :
  ∀ (r:List Value) (yr:List V) (wr:List W) (kr:List (List (List Int))) (EQ:List V) (kd:List (List (List Int))) (s:Shared) (H G:Hp),Inv Y pn σ H s->Vals yr r->Reps K G yr wr->C8 (g8 1 N m) wr=some kr ->
   H kS=some (.lst EQ)->Same G H->G kS=none->Reps K G EQ (kd.map kW)->EQ.length+r.length<64 ->
   wpAny (model Y.prog Y.w) Y.A (forIn r PUnit.unit body) (fun _ s'=>∃ H' G' Hj,Inv Y pn σ H' s'/\H' kS=some (.lst Hj)/\Same G G'/\Same G' H'/\G' kS=none/\Reps K G' Hj ((kd++kr).map kW)) E s
 := by
 intro r
 induction r with
 | nil=>
  intro yr wr kr EQ kd s H G I rv Ff hk hS sG gk rk hl
  cases rv
  cases Ff
  rw [List.forIn_nil]
  cases hk
  rw [List.append_nil]
  exact wpAny_pure ⟨H,G,EQ,I,hS,Same.refl G,sG,gk,rk⟩
 | cons x r ih=>
  intro yr wr kr EQ kd s H G I rv Ff hk hS sG gk rk hl
  obtain ⟨y,yr,rfl,rx,rr⟩:∃ y yr',yr=y::yr'/\RelV y x/\Vals yr' r:=by
   cases rv with
   | cons a b=>exact ⟨_,_,rfl,a,b⟩
  obtain ⟨w,wr,rfl,ry,rws⟩:∃ w wr',wr=w::wr'/\Rep K G y w/\Reps K G yr wr':=by
   cases Ff with
   | cons a b=>exact ⟨_,_,rfl,a,b⟩
  obtain ⟨key,GO,rfl,hf,ES,JE⟩:=ag hk
  rw [List.length_cons] at hl
  rw [List.forIn_cons]
  have call:=nQ (X:=Y) (us:=[x]) (vs:=[y]) (E:=fun _ _ _=>False) (Q:=fun v H2=>∃ G2,Same H H2/\Same G2 H2/\G2 kS=none/\Rep K G2 v (kW key)) F hr hb .nil dh I (.cons rx .nil) ⟨rfl,[w],.cons (ry.same sG) .nil,by
   rw [hf]
   exact fun v G2 H2 s1 s2 cl md=>⟨G2,s1,s2,cl kS _ hS rfl,md⟩⟩
  rw [Jq] at call
  refine wpAny_bind (wpAny_mono (FG x s _ (fun Gb=>∃ H3 G3 Gi,Inv Y pn σ H3 Gb/\H3 kS=some (.lst Gi)/\Gi.length=EQ.length+1/\Same G G3/\Same G3 H3/\G3 kS=none/\Reps K G3 Gi ((kd ++ [key]).map kW)) call fun u s' hp=>?_) (fun q s' hq=>?_) fun _ _ x=>x)
  ·obtain ⟨v,H2,I2,rv,G2,sH,s2,g2,r2⟩:=hp
   have hS2:=sH _ _ hS
   obtain ⟨z,its,n,rI,hlen,e⟩:=I2.lstM hS2
   refine ⟨its.toArray,n,e,by rw [List.size_toArray]; omega,?_⟩
   have sB:Same G (both G G2):=fun b o q=>by unfold both; rw [q]
   have FE:Same G2 (both G G2):=fun b o q=>by
    unfold both
    cases q1:G b with
    | none=>exact q
    | some u=>
     have a1:=sH b u (sG b u q1)
     rw [s2 b o q] at a1
     exact a1.symm
   have sBH:Same (both G G2) H2:=fun b o q=>by
    unfold both at q
    cases q1:G b with
    | none=>rw [q1] at q; exact s2 b o q
    | some u=>rw [q1] at q; cases q; exact sH b _ (sG b _ q1)
   have bk:both G G2 kS=none:=by unfold both; rw [gk]; exact g2
   refine ⟨upd H2 kS (.lst (EQ ++ [v])),both G G2,EQ ++ [v],I2.lset (t':=s'.toks) (its':=its ++ [u]) hS2 e (by simp) (rI.append (.cons rv .nil)) (by rw [List.length_append,List.length_singleton,sizeLine_eq]; omega),O9,by rw [List.length_append,List.length_singleton],sB,fun b o q=>?_,bk,?_⟩
   ·rw [b8 (c7 q bk)]; exact sBH b o q
   ·rw [List.map_append]
    exact (rk.same sB).append (.cons (r2.same FE) .nil)
  ·obtain ⟨rfl,H3,G3,Gi,I3,hS3,hl3,s3,sH3,g3,r3⟩:=hq
   show wpAny (model Y.prog Y.w) Y.A (forIn r PUnit.unit body) _ E s'
   refine wpAny_mono (ih yr wr GO Gi (kd ++ [key]) s' H3 G3 I3 rr (rws.same s3) JE hS3 sH3 g3 r3 (by omega)) (fun _ Gb hq=>?_) fun _ _ x=>x
   obtain ⟨H4,G4,kvs4,I4,hS4,s4,sH4,g4,r4⟩:=hq
   exact ⟨H4,G4,kvs4,I4,hS4,s3.trans s4,sH4,g4,by rw [List.append_assoc] at r4; exact r4⟩
theorem zU {H G:Hp} {s:Shared} {v:V} {u:Value} {k:List (List Int)} (hK:Y.K=K) (I:Inv Y pn σ H s) (sG:Same G H) (r:Rep K G v (kW k)) (ru:RelV v u):jh s.heap u k:=by
 subst hK
 obtain ⟨a0,vs0,rfl,h0,r0⟩:=r.inv
 ·cases ru
  obtain ⟨its,rv,⟨o,e,c,n,dd⟩,_⟩:=I.tuple (SqT.of (sG _ _ h0))
  refine ⟨_,o,its,n,rfl,e,c,dd,?_⟩
  have go:∀ {vs:List V} {its:List Value} {k:List (List Int)},Vals vs its->Reps Y.K G vs (k.map fun x=>W.tup (x.map W.int))->Paired (TupI s.heap) its k:=by
   intro vs its k
   induction k generalizing vs its with
   | nil=>intro a b; have b:vs = []:=b.inv; subst b; cases a; exact .nil
   | cons x k ih=>
    intro a b
    obtain ⟨v1,HB,rfl,b1,b2⟩:=b.inv
    ·cases a with
     | cons a1 a2=>
      refine .cons ?_ (ih a2 b2)
      obtain ⟨a3,vs3,rfl,h1,r1⟩:=b1.inv
      ·cases a1
       have e1:=Reps.ints r1 (ints_map x)
       subst e1
       obtain ⟨EY,FJ,⟨o2,e2,c2,n2,JT⟩,_⟩:=I.tuple (SqT.of (sG _ _ h1))
       exact ⟨_,o2,EY,n2,rfl,e2,c2,JT,FJ⟩
  exact go rv r0
theorem vU {H G:Hp} {s:Shared} (hK:Y.K=K) (I:Inv Y pn σ H s) (sG:Same G H):∀ {vs:List V} {its:List Value} {ks:List (List (List Int))},Vals vs its->Reps K G vs (ks.map kW)->(∀ k∈ks,k ≠ [])->Paired (fun v xs=>jh s.heap v xs/\xs ≠ []) its ks:=by
 intro vs its ks
 induction ks generalizing vs its with
 | nil=>intro a b _; cases b; cases a; exact .nil
 | cons x k ih=>
  intro a b hn
  cases b with
  | cons b1 b2=>
   cases a with
   | cons a1 a2=>exact .cons ⟨zU hK I sG b1 a1,hn x List.mem_cons_self⟩ (ih a2 b2 fun k hk=>hn k (List.mem_cons_of_mem _ hk))
end
end TP
namespace TP
open PySem L2
section
open PySem.W PyProof.Rows
variable {Y:Cx} {K:Frag} {pins:List (Addr×Obj)} {σ:L2.St}
theorem di {α:Type} {F:Value->α->Prop}:∀ {as as':List Value} {bs bs':List α},Paired F as bs->Paired F as' bs'->Paired F (as++as') (bs++bs')
 | _,_,_,_,.nil,h=>h
 | _,_,_,_,.cons a t,h=>.cons a (di t h)
theorem qH {α:Type} {as:List Value} {bs:List α} {F:Value->α->Prop} (h:Paired F as bs):Paired F as.reverse bs.reverse:=by
 induction h with
 | nil=>exact .nil
 | cons a _ ih=>
  rw [List.reverse_cons,List.reverse_cons]
  exact di ih (.cons a .nil)
theorem nz {D kS:Addr} {e1:Nat} {H G:Hp} {s:Shared} {vs:List Value} {ys:List V} {EQ:List V} {ks:List (List (List Int))} {P:PySem.Fin->Shared->Prop} {E:Value->Shared->Prop} (hK:Y.K=K) (hu:Y.A.units+64<cLine)
  (I:Inv Y ((D,seqObj "list" #[] e1)::pins) σ H s) (JL:Y.s₀.heap.objs.size<=D) (Iz:∀ p∈Y.pn++pins,p.1≠D) (hDk:D≠kS) (hS:H kS=some (.lst EQ)) (sG:Same G H) (gk:G kS=none) (rk:Reps K G EQ (ks.map kW)) (ES:∀ k∈ks,k ≠ [])
  (rv:Vals ys vs) (hl:ks.length=vs.length) (Fy:vs.length<64)
  (h:∀ s' H',Inv Y pins σ H' s'->Same G H'->H' D=some (.lst (o9 ks V.non ys))->P (.done (.ret .none)) s'):∀ its n,s.heap.get? kS=some (seqObj "list" its n)->wpAny (model Y.prog Y.w) Y.A (ksk_end D true vs.toArray e1 (.ref kS) its) P E s:=by
 intro its n hits
 obtain ⟨z,kl,n',rI,hlen,e⟩:=I.lstM hS
 rw [e] at hits
 cases hits
 have HM:kl.length=vs.length:=by rw [<- hlen,rk.length,List.length_map,hl]
 have hly:ys.length=vs.length:=rv.length
 obtain ⟨pD,nD,IJ,nfs,_⟩:=I.pin (D,seqObj "list" #[] e1) (List.mem_append_right _ List.mem_cons_self)
 have pD:s.heap.get? D=some (seqObj "list" #[] e1):=pD
 have nD:H D=none:=nD
 -- the tail
 have tail:∀ st:SortSt,failedOf st=none->(arrOf st).map (·.2)=(((M1 ks.reverse).map fun i=>vs.reverse.getD i Value.none)).toArray->wpAny (model Y.prog Y.w) Y.A (ksk_tail D true e1 (.ref kS) st) P E s:=fun st hf FF=>by
  have hrev:((M1 ks.reverse).map fun i=>vs.reverse.getD i Value.none).toArray.reverse=(o9 ks Value.none vs).toArray:=by unfold o9; simp
  have I1:=I.lset (t':=s.toks) (f:=fun _=>#[]) (its':=[]) (ys:=[]) hS e rfl .nil (Nat.zero_le _)
  obtain ⟨p1,n1,_⟩:=I1.pin (D,seqObj "list" #[] e1) (List.mem_append_right _ List.mem_cons_self)
  have I2:=I1.pins_of (pins':=pins) fun p hp=>I1.pin p (List.mem_append_right _ (List.mem_cons_of_mem _ hp))
  have Gx:(o9 ks Value.none vs).toArray.size<=sizeLine:=by rw [List.size_toArray,ir,sizeLine_eq]; omega
  unfold ksk_tail
  dsimp only
  rw [FF,if_pos rfl,hrev]
  refine wpAny_bind (listUpdate_at e rfl ?_ (by rw [List.size_toArray,sizeLine_eq]; omega) (Nat.zero_le _))
  refine wpAny_bind (wpAny_letGo ?_)
  refine wpAny_bind (seqEpoch_at p1 rfl ?_)
  refine wpAny_bind (listUpdate_at p1 rfl ?_ (Nat.zero_le _) (Nat.le_succ_of_le Gx))
  rw [hf]
  simp only [bne_self_eq_false,Bool.false_eq_true,if_false]
  refine wpAny_pure (h _ (upd (upd H kS (.lst [])) D (.lst (o9 ks V.non ys))) (oR (s:={ s with heap:=s.heap.update kS (Obj.mapSeq fun _=>(#[]:Array Value)) }) (t':=s.toks) (its:=o9 ks Value.none vs) (n:=_) I2 (fun b o hb q=>(Heap.get?_update_other _ _ (Ne.symm hb)).trans q) n1 IJ JL (fun x c hc=>?_) Iz (by rw [ir,sizeLine_eq]; omega) ?_ (get?_update_seq p1 fun _=>(o9 ks Value.none vs).toArray)) (fun b o q=>?_) O9)
  ·rintro rfl
   obtain ⟨v,o,ho,hd⟩:=I1.cell x _ hc
   have p1':_=some (seqObj "list" #[] e1):=p1
   rw [p1'] at ho
   cases ho
   cases hd
  ·unfold o9
   have hrr:Vals ys.reverse vs.reverse:=rv.reverse
   refine Vals.reverse (K7 fun i hi=>?_)
   have Fh:i<ys.reverse.length:=by
    have:=(J8 ks.reverse).mem_iff.mp hi
    rw [List.mem_range,List.length_reverse] at this
    rw [List.length_reverse]; omega
   obtain ⟨u,eu,q⟩:=u9 (d:=V.non) hrr Fh
   rw [show vs.reverse.getD i Value.none=u by rw [List.getD_eq_getElem?_getD,eu]; rfl]
   exact q
  ·have hbD:b≠D:=by rintro rfl; rw [sG b o q] at nD; cases nD
   have hbk:b≠kS:=by rintro rfl; rw [gk] at q; cases q
   rw [b8 hbD,b8 hbk]; exact sG b o q
 have hpairs:((List.toArray kl).zip vs.toArray).reverse=(List.toArray kl.reverse).zip (List.toArray vs.reverse):=kat_pairs true HM
 unfold ksk_end
 dsimp only
 rw [if_pos rfl,if_pos rfl,hpairs]
 refine wpAny_bind (wpAny_rule ?_)
 by_cases c2:vs.toArray.size<2
 ·rw [if_pos c2,if_pos c2]
  refine wpAny_bind (wpAny_pure ?_)
  rw [StateT.run_pure]
  refine wpAny_bind (wpAny_pure ?_)
  dsimp only
  refine tail _ rfl ?_
  have IM:vs.length<2:=by simpa using c2
  have e3:(M1 ks.reverse).map (fun i=>vs.reverse.getD i Value.none)=vs.reverse:=by
   unfold M1
   rw [if_pos (by rw [List.length_reverse]; omega),show ks.reverse.length=vs.reverse.length by rw [List.length_reverse,List.length_reverse,hl],fA]
  rw [e3]
  show Array.map (fun x=>x.snd) ((List.toArray kl.reverse).zip (List.toArray vs.reverse))=vs.reverse.toArray
  apply Array.toList_inj.mp
  rw [Array.toList_map,Array.toList_zip]
  apply List.ext_getElem
  ·simp [HM]
  ·intro i h1 h2; simp
 ·rw [if_neg c2,if_neg c2]
  have h2:2<=vs.length:=by simpa using c2
  have tt:=vU hK I sG rI rk ES
  obtain ⟨fs,kt,fl,fi⟩:=gK tt
  have ttr:=qH tt
  refine wpAny_bind (kat_kind (T:=.type "tuple") kt (by omega) (fun v hv=>?_) (by decide) ?_)
  ·obtain ⟨x,a,o,its,m,rfl,ho,hc,_⟩:=fi v hv
   rw [<- hc]
   exact (Looks.ld ho).andThen .now
  have GV:kl.reverse.length=vs.reverse.length:=by rw [List.length_reverse,List.length_reverse,HM]
  have hw:(kas_sort vs.reverse.length).kasWp (kas_ask Y.prog Y.w Y.A (tuples' (Value.type "tuple" != Value.type "tuple")) kl.reverse) (fun p s'=>s'=s/\p.toList=M1 ks.reverse) s:=by
   refine wp_run (n:=vs.reverse.length) (r:=G0 ks.reverse) (fun i j C hi hj hC=>?_) (sQ (by rw [List.length_reverse]; omega)) ⟨rfl,?_⟩
   ·rw [<- GV] at hi hj
    obtain ⟨x,hx,tx⟩:=u9 (d:=Value.none) ttr hi
    obtain ⟨y,hy,ty⟩:=u9 (d:=Value.none) ttr hj
    have hkl:ks.reverse.length=kl.reverse.length:=by rw [List.length_reverse,List.length_reverse]; omega
    rw [ik (by omega) (by omega)] at hC
    have ex:ks.reverse.getD i []=x:=by rw [List.getD_eq_getElem?_getD,hx]; rfl
    have ey:ks.reverse.getD j []=y:=by rw [List.getD_eq_getElem?_getD,hy]; rfl
    rw [ex,ey] at hC
    exact vS hu tx.1 ty.1 hC
   ·unfold M1
    rw [if_neg (by rw [List.length_reverse]; omega),show ks.reverse.length=vs.reverse.length by rw [List.length_reverse,List.length_reverse,hl]]
  refine wpAny_bind (wpAny_mono (kat_run (Q:=fun EK s'=>s'=s/\(arrOf EK).map (·.2)=((M1 ks.reverse).map fun i=>vs.reverse.getD i Value.none).toArray/\failedOf EK=none) GV (by rw [List.length_reverse]; exact h2) (by rw [List.length_reverse]; exact Fy) (fun p EK s' a1 a2 a3 a4=>⟨a4.1,by rw [kat_snds GV a2,a4.2],a3⟩) hw) ?_ fun _ _ e=>e)
  rintro ⟨⟨⟩,EK⟩ s' ⟨rfl,FM,hf'⟩
  exact tail EK hf' FM
theorem kZ {k:Nat} {f D kS:Addr} {fd:FuncData} {ps:List Str} {N:Nat} {m:Rho->R Fl} {e1:Nat} {H G:Hp} {s:Shared} {vs:List Value} {ys:List V} {ws:List W} {ks:List (List (List Int))} {P:PySem.Fin->Shared->Prop} {E:Value->Shared->Prop} (Jq:Y.xe=fun _ _=>False) (hK:Y.K=K)
  (F:FnOk Y.prog Y.w Y.K Y.mg Y.base CX0 k f fd ps (spM K 1 .F (g8 1 N m))) (hr:Room k Y.A) (hb:Binds Y.K fd ps [])
  (I:Inv Y ((D,seqObj "list" #[] e1)::pins) σ H s) (JL:Y.s₀.heap.objs.size<=D) (Iz:∀ p∈Y.pn++pins,p.1≠D) (hDk:D≠kS) (hS:H kS=some (.lst [])) (sG:Same G H) (gk:G kS=none)
  (rv:Vals ys vs) (Ff:Reps K G ys ws) (Hu:C8 (g8 1 N m) ws=some ks) (Fy:vs.length<64)
  (h:∀ s' H',Inv Y pins σ H' s'->Same G H'->H' D=some (.lst (o9 ks V.non ys))->P (.done (.ret .none)) s'):wpAny (model Y.prog Y.w) Y.A (ksk_rest D (.ref f) true vs.toArray e1 (.ref kS)) P E s:=by
 have hl:ks.length=vs.length:=by rw [ba Hu,<- Ff.length,rv.length]
 unfold ksk_rest
 refine wpAny_bind (wpAny_rule ?_)
 first
  | rw [List.forIn_toArray]
  | (rw [<- Array.forIn_toList]; simp only [List.toList_toArray])
  | rw [<- Array.forIn_toList]
 refine wpAny_bind (wpAny_mono (rP (kS:=kS) (E:=E) Jq F hr hb (fun x s' Pc C hc hP=>?_) vs ys ws ks [] [] s H G I rv Ff Hu hS sG gk .nil (by simpa using Fy)) (fun _ s' hd=>?_) fun _ _ x=>x)
 ·refine wpAny_bind (wpAny_attempt (wpAny_mono hc (fun u Gb hk=>?_) fun _ _ hF=>hF.elim))
  obtain ⟨its,n,hk1,hz,hC⟩:=hP u Gb hk
  dsimp only
  refine wpAny_bind (listUpdate_at hk1 rfl ?_ (by rw [sizeLine_eq]; omega) (Nat.le_trans (Nat.le_of_eq (Array.size_push ..)) (by rw [sizeLine_eq]; omega)))
  exact wpAny_pure ⟨rfl,hC⟩
 ·obtain ⟨H',G',Hj,I',hS',s1,s2,g',r'⟩:=hd
  obtain ⟨z,kl,n',rI,hlen,e⟩:=I'.lstM hS'
  refine wpAny_bind (listItems_at e rfl ?_)
  exact nz hK (by have:=hr.units; omega) I' JL Iz hDk hS' s2 g' (by simpa using r') (iU Hu) rv hl Fy (fun Gb H'' I'' q1 q2=>h Gb H'' I'' (s1.trans q1) q2) _ _ e
end
section
open PySem.W PyProof.Rows
variable {X:Cx} {K:Frag}
theorem mz {k:Nat} {f:Addr} {fd:FuncData} {ps:List Str} {N:Nat} {m:Rho->R Fl} (F:FnOk X.prog X.w X.K X.mg X.base CX0 k f fd ps (spM K 1 .F (g8 1 N m))) (hr:Room (k+2) X.A) (hb:Binds X.K fd ps []) (hK:X.K=K) {pins:List (Addr×Obj)} {s:Shared} {σ:L2.St} {H:Hp} {p:Addr} {ys:List V} {ws:List W} {ks:List (List (List Int))} {Q:VK}
  (I:Inv X pins σ H s) (hq:SqL K H p ys) (Ff:Reps K H ys ws) (Hu:C8 (g8 1 N m) ws=some ks) (Fy:ws.length<64)
  (h:∀ l H',H l=none->Same H H'->H' l=some (.lst (o9 ks V.non ys))->Q (.ref l) H') :
  wpAny (model X.prog X.w) X.A (call (.builtin "sorted") [.ref p] [(Str.ofString "key",.ref f),(Str.ofString "reverse",.bool true)]) (EP X pins σ Q) X.xe s:=by
 subst hK
 obtain ⟨vs,rv,pl,hz⟩:=I.list hq
 have hlen:ys.length=vs.length:=rv.length
 have hlw:ys.length=ws.length:=Ff.length
 refine call_function_entry_kw kind_sorted plain_sorted entry_sorted (ksk_s2 _ _ _) ?_
 unfold Builtin.«sorted»
 refine wpAny_bind (m:=checkCount "sorted" 1 1 _) (wpAny_pure ?_)
 refine wpAny_bind (collect_list pl.isList ?_ (by rw [sizeLine_eq]; omega))
 refine wpAny_bind (wpAny_newList ?_ (by rw [sizeLine_eq]; omega))
 generalize hg:(s.heap.push (seqObj "list" #[] 0)).update s.heap.objs.size (Obj.mapSeq (·++vs.toArray))=g
 have gz:g.objs.size=s.heap.objs.size+1:=by rw [<- hg,Heap.size_update,size_push']
 have gk:∀ b o,s.heap.get? b=some o->g.get? b=some o:=fun b o e=>by
  have Fe:=Heap.lt_size e
  rw [<- hg,Heap.get?_update_ne _ _ _ _ (Nat.ne_of_lt Fe)]; exact Heap.get?_push_of_some _ e
 have go:(g.push (seqObj "list" vs.toArray 0)).get? (s.heap.objs.size+1)=some (seqObj "list" vs.toArray 0):=by rw [<- gz]; exact Heap.get?_push_size _ rfl
 show wpAny _ _ _ _ _ { s with heap:=g.push (seqObj "list" vs.toArray 0) }
 rw [gz]
 refine wpAny_bind (wpAny_holding (wpAny_call_entry_kw slot_list_sort ⟨_,go,rfl⟩ entry_list_sort ?body (ksk_l2 _ _ _)))
 case body=>
  generalize hDe:s.heap.objs.size+1=D at *
  show wpAny (model X.prog X.w) X.A.in1.in1 (Builtin.«list.sort» ⟨[.ref D],[(Str.ofString "key",.ref f),(Str.ofString "reverse",.bool true)]⟩) _ _ _
  rw [ksk_t2]
  generalize hg2:g.push (seqObj "list" vs.toArray 0)=g2 at *
  have g2z:g2.objs.size=D+1:=by rw [<- hg2,size_push',gz]
  have g2k:∀ b o,s.heap.get? b=some o->g2.get? b=some o:=fun b o e=>by rw [<- hg2]; exact Heap.get?_push_of_some _ (gk b o e)
  obtain ⟨e1,ho1⟩:∃ e1,(g2.update D (Obj.mapSeq fun _=>(#[]:Array Value))).get? D=some (seqObj "list" #[] e1):=⟨_,get?_update_seq go fun _=>#[]⟩
  unfold ksk_tree
  refine wpAny_bind (listItems_at go rfl ?_)
  refine wpAny_bind (listUpdate_at go rfl ?_ (by rw [List.size_toArray,sizeLine_eq]; omega) (Nat.zero_le _))
  refine wpAny_bind (seqEpoch_at ho1 rfl ?_)
  refine wpAny_bind (wpAny_newTuple ?_ (by show vs.length<=_; rw [sizeLine_eq]; omega))
  refine wpAny_bind (wpAny_newList ?_ (Nat.zero_le _))
  refine wpAny_holding ?_
  have HQ:s.heap.objs.size<=D:=by omega
  have hHD:H D=none:=I.hok.fresh HQ
  generalize hg3:(g2.update D (Obj.mapSeq fun _=>(#[]:Array Value))).push (seqObj "tuple" vs.toArray 0)=g3
  have g3z:g3.objs.size=D+2:=by rw [<- hg3,size_push',Heap.size_update,g2z]
  have g3k:∀ b o,s.heap.get? b=some o->g3.get? b=some o:=fun b o e=>by
   rw [<- hg3]
   exact Heap.get?_push_of_some _ (by rw [Heap.get?_update_ne _ _ _ _ (Nat.ne_of_lt (Nat.lt_of_lt_of_le (Heap.lt_size e) HQ))]; exact g2k b o e)
  have g3D:g3.get? D=some (seqObj "list" #[] e1):=by rw [<- hg3]; exact Heap.get?_push_of_some _ ho1
  have I3:=I.kept (t':=s.toks) g3k
  have hDL:D≠X.env.locals:=Nat.ne_of_gt (Nat.lt_of_lt_of_le I.lt HQ)
  have I4:=I3.pins_of (pins':=(D,seqObj "list" #[] e1)::pins) fun q hq=>by
   rcases List.mem_cons.mp hq with rfl | hq
   ·exact ⟨g3D,hHD,hDL,I.nofs HQ,fun v z=>by cases z⟩
   ·exact I3.pin q (List.mem_append_right _ hq)
  have hkS:H g3.objs.size=none:=I.hok.fresh (by omega)
  have I5:=I4.lnew (t':=s.toks) (its:=[]) (ys:=[]) .nil (Nat.zero_le _)
  refine kZ (Y:=inK X) (K:=X.K) (G:=H) (ys:=ys) (ws:=ws) (ks:=ks) (kS:=g3.objs.size) rfl rfl F (hr.in1.in1) hb (Az I5) ?_ ?_ ?_ O9 (fun b o q=>?_) hkS rv Ff Hu (by omega) fun s' H' I' sH hD'=>?_
  ·exact Nat.le_trans I.sz HQ
  ·intro q hq
   exact Nat.ne_of_lt (Nat.lt_of_lt_of_le (Heap.lt_size (I.pin q hq).1) HQ)
  ·rw [g3z]; exact Nat.ne_of_lt (Nat.lt_add_of_pos_right (by decide))
  ·rw [b8 (c7 q hkS)]; exact q
  ·exact ⟨_,rfl,wpAny_pure ⟨_,rfl,.ref D,H',vX I',rfl,h D H' hHD sH hD'⟩⟩
end
def bf (c:Bool) (f:List W->R W):List W->R W
 | [w]=>(match lstOf w with
  | some ws=>(match C8 f ws with
   | some ks=>if ws.length<64 then chks c (o9 ks W.non ws) else .stuck
   | none=>.stuck)
  | none=>.stuck)
 | _=>.stuck
section
variable {K:Frag}
theorem nU {F:Hp} {ys:List V} {ws:List W} {ks:List (List (List Int))} (r:Reps K F ys ws) (hl:ks.length=ws.length):Reps K F (o9 ks V.non ys) (o9 ks W.non ws):=by
 unfold o9
 refine Reps.reverse (cI fun i hi=>?_)
 have Fh:i<ys.reverse.length:=by
  have:=(J8 ks.reverse).mem_iff.mp hi
  have:=r.length
  rw [List.mem_range,List.length_reverse] at *
  omega
 obtain ⟨w,e,q⟩:=eF (i:=i) r.reverse Fh
 rw [show ws.reverse.getD i W.non=w by rw [List.getD_eq_getElem?_getD,e]; rfl]
 exact q
def nW (K:Frag) (f:List W->R W):List V->Hp->VK->Prop:=fun xs H Q=>∃ p ys ws ks,xs = [.ref p]/\SqL K H p ys/\Reps K H ys ws/\C8 f ws=some ks/\ws.length<64/\∀ l H',H l=none->Same H H'->H' l=some (.lst (o9 ks V.non ys))->Q (.ref l) H'
theorem wV {c:Bool} {f:List W->R W}:Cal K (cb c) .F (nW K f) (bf c f):=by
 intro EX H0 Hs G H ρ σ Ha vs ws Q I s m o
 cases m with
 | nil=>exact o.elim
 | cons a t=>
  cases t with
  | cons _ _=>exact o.elim
  | nil=>
   rename_i w v
   unfold bf at o
   cases hl:lstOf w with
   | none=>simp only [hl] at o; exact o.elim
   | some us=>
    simp only [hl] at o
    cases ht:C8 f us with
    | none=>simp only [ht] at o; exact o.elim
    | some ks=>
     simp only [ht] at o
     by_cases hc:us.length<64
     ·rw [if_pos hc] at o
      obtain ⟨p,ys,rfl,hs,r⟩:=Md.lstOf I a hl
      have sm:Same (if c then G else join H0 G) H:=by
       cases c with
       | true=>rw [if_pos rfl]; exact I.gh
       | false=>rw [if_neg Bool.false_ne_true]; exact I.join_H
      refine ⟨p,ys,us,ks,rfl,hs,r.same sm,ht,hc,fun l H' hn sH Ht=>?_⟩
      unfold TP.chks at o
      by_cases n:(c||k9 (o9 ks W.non us))=true
      ·rw [if_pos n] at o
       have ro:=nU r (ba ht)
       have r':Reps K G (o9 ks V.non ys) (o9 ks W.non us):=by
        cases c with
        | true=>rw [if_pos rfl] at ro; exact ro
        | false=>rw [if_neg Bool.false_ne_true] at ro; exact Reps.clean I ro (by simpa using n)
       exact o _ G H' ⟨Same.refl G,sH,I.gh.trans sH,fun _ _ _ _ e=>e⟩ ⟨l,_,rfl,Ht,I.gh.free hn,s.free hn,r'⟩
      ·rw [if_neg n] at o; exact o.elim
     ·rw [if_neg hc] at o; exact o.elim
end
section
variable {X:Cx} {K:Frag} {EX:EXT} {e:Expr} {pos:Pos} {mr:Rho->R (List W)}
theorem CI {f:Addr} {x:Str} {p HE HD p2:Pos} {n1 n2:Option Str} {kt:Nat} (hg:Gl X x) (hm:X.mg x=some (.ref f)) (Fv:(x == ("__debug__" : Str))=false:=by decide):PK X [⟨n1,.Name x p,HE⟩,⟨n2,.Constant (.bool true) kt p2,HD⟩] (V3 (tC (.ref f)) (V3 (tC (.bl true)) tNil)):=
 jQ (fun pins s σ H Q I h=>kh I hg hm ⟨.ref f,H,I,rfl,h⟩ Fv) (jQ pe_bl zf)
theorem uW {k:Nat} {f:Addr} {fd:FuncData} {ps:List Str} {x y:Str} {p p1 p2 HE HD:Pos} {kt:Nat} {N:Nat} {m:Rho->R Fl} {c:Bool} (F:FnOk X.prog X.w X.K X.mg X.base CX0 k f fd ps (spM K 1 .F (g8 1 N m))) (hr:Room (k+2) X.A) (hg:Gl X x) (hm:X.mg x=some (.ref f)) (hb:Binds X.K fd ps [])
  (hgs:Gl X y) (GI:X.mg y=none) (hvs:bootBuiltins y=some (.builtin "sorted")) (ha:PA X [e] (tA K EX (cb c) mr)) (hK:X.K=K:=by rfl) (Fv:(x == ("__debug__" : Str))=false:=by decide) (hn:y ≠ "__name__" := by decide) (hdb2:(y == ("__debug__" : Str))=false:=by decide)
  (he:backTo pos (starEach [e] X.env)=(false,eval e X.env)::backTo pos (starEach [] X.env):=by rfl) (Fq:(backTo pos (starEach [e] X.env)).any (·.1)=false:=by rfl)
  (EN:(backToKw pos (keywordEach [⟨some "key",.Name x p1,HE⟩,⟨some "reverse",.Constant (.bool true) kt p2,HD⟩] X.env)).all (·.1.isSome)=true:=by rfl)
  (hkw:(backToKw pos (keywordEach [⟨some "key",.Name x p1,HE⟩,⟨some "reverse",.Constant (.bool true) kt p2,HD⟩] X.env)).any (·.1.isNone)=false:=by rfl)
  (Hu:(backToKw pos (keywordEach [⟨some "key",.Name x p1,HE⟩,⟨some "reverse",.Constant (.bool true) kt p2,HD⟩] X.env)).filterMap (·.1) = [Str.ofString "key",Str.ofString "reverse"]:=by rfl) :
  PE X (.Call (.Name y p) [e] [⟨some "key",.Name x p1,HE⟩,⟨some "reverse",.Constant (.bool true) kt p2,HD⟩] pos) (tM K EX .F (bA (bf c (g8 1 N m)) mr)):=by
 intro pins s σ H Q I h
 have h:=sL (wV (c:=c) (f:=g8 1 N m)) h
 refine wpAny_Call_Name_kw (P6 I hgs GI hvs ?_ hn hdb2)
 refine PyProof.Rows.callWith_kw (thn (ha pos pins s σ H _ I h) fun us s1 zz85=>?_) he Fq EN hkw
 obtain ⟨vs,H1,I1,r1,q1⟩:=zz85
 refine thn (CI hg hm Fv pos pins s1 σ H1 (fun zs H2=>zs = [.ref f,.bl true]/\nW K (g8 1 N m) vs H2 Q) I1 ⟨rfl,q1⟩) fun us2 s2 zz86=>?_
 obtain ⟨zs,H2,I2,rz,hz,q2⟩:=zz86
 subst hz
 obtain ⟨p0,ys,ws,ks,rfl,hq,Ff,hks',Fy,hQ⟩:=q2
 obtain ⟨u,rfl,ru⟩:=L8 r1
 cases ru
 rw [Hu]
 cases rz with
 | cons r2 rz=>
  cases r2
  obtain ⟨u2,rfl,ru2⟩:=L8 rz
  cases ru2
  exact mz F hr hb hK I2 hq Ff hks' Fy hQ
end
end TP
namespace TP
open PySem L2
section
open PySem.W PyProof.Rows
variable {X:Cx} {e:Expr} {te:TE} {st:Expr} {tk:TO} {pos p2:Pos}
end
section
variable {K:Frag} {EX:EXT} {σ:St} {H:Hp} {Q:VK}
end
section
variable {X:Cx} {K:Frag} {EX:EXT} {e:Expr} {pos:Pos} {ma:Rho->R W}
end
end TP
namespace TP
open PySem L2
section
variable {K:Frag} {EX:EXT} {H0 G H:Hp} {ρ:Rho} {σ:St} {d:Mode} {D:Ends}
end
section
variable {X:Cx} {K:Frag} {EX:EXT} {d:Mode} {e:Expr} {pos:Pos} {ma:Rho->R W}
end
end TP
namespace TP
open PySem L2
section
variable {K:Frag} {EX:EXT} {H0 G H G1 H1 F:Hp} {ρ:Rho} {σ:St} {d:Mode} {D:Ends}
end
section
variable {X:Cx} {K:Frag} {EX:EXT} {d:Mode} {e k v:Expr} {pos:Pos} {mk me:Rho->R W}
end
end TP
namespace TP
open PySem PyProof.Rows
def kk (rk:Keyed->Int) (xs:Array Keyed) (i:Nat):Int:=match xs[i]? with
 | some p=>rk p
 | none=>0
theorem lO {l r:Nat} (h:l<=r):l<=(l+r)/2:=(Nat.le_div_iff_mul_le (by decide)).mpr (by rw [Nat.mul_two]; exact Nat.add_le_add_left h _)
theorem gj {l r:Nat} (h:¬ l≥r):(l+r)/2<r:=(Nat.div_lt_iff_lt_mul (by decide)).mpr (by rw [Nat.mul_two]; exact Nat.add_lt_add_right (Nat.lt_of_not_le h) _)
theorem bJ {lo hi:Nat} (h:¬ lo≥hi):lo+(hi-lo)/2<hi:=Nat.add_lt_of_lt_sub' (Nat.div_lt_self (Nat.sub_pos_of_lt (Nat.lt_of_not_le h)) (by decide))
theorem xR {r m l n x:Nat} (h1:l<=m) (hf:r-l<=n-x):r-(m+1)<=n-(x+1):=Nat.le_trans (Nat.sub_le_sub_left (Nat.succ_le_succ h1) r) (Nat.pred_le_pred hf)
theorem xS {r m l n x:Nat} (h1:l<=m) (h2:m<r) (hf:r-l<=n-x):m-l<=n-(x+1):=Nat.le_pred_of_lt (Nat.lt_of_lt_of_le (Nat.sub_lt_sub_right h1 h2) hf)
theorem sb1 {A n:Nat} (h0:0<n) (h:n<=A):A-(n-1)=A-n+1:=by
 cases n with
 | zero=>exact absurd h0 (Nat.lt_irrefl _)
 | succ m=>exact (Nat.succ_pred_eq_of_pos (Nat.sub_pos_of_lt h)).symm
theorem sb2 {A n k:Nat} (h:n<=A) (hk:k<=n):A-k=A-n+(n-k):=(Nat.sub_add_sub_cancel h hk).symm
theorem sb3 {lo x q k:Nat} (hq:q<=x) (h:lo+x-q<=k):x-q<=k-lo:=by rw [Nat.add_sub_assoc hq] at h; exact Nat.le_sub_of_add_le' h
theorem sb4 {lo x q k:Nat} (hq:q<=x) (h:lo+x-q<=k):lo+(k-lo)=k:=Nat.add_sub_cancel' (Nat.le_trans (by rw [Nat.add_sub_assoc hq]; exact Nat.le_add_right _ _) h)
theorem sb5 {lo j:Nat} (h:0<j):lo+(j-1)=lo+j-1:=(Nat.add_sub_assoc h lo).symm
theorem mr1 {lo m i:Nat} (h:i<m):lo+(lo+m)-1-(lo+i)=lo+(m-1-i):=by omega
theorem ms0 {n m x y T:Nat} (h:n+1+m+x+min y 1<=T):n+m+x+1<=T:=Nat.le_trans (Nat.le_trans (Nat.le_of_eq (show n+1+m+x=n+m+x+1 by rw [Nat.add_right_comm n 1 m,Nat.add_right_comm (n+m) 1 x]).symm) (Nat.le_add_right _ _)) h
theorem rB {n m x y T:Nat} (h:n+m+x+min y 1<=T) (h0:0<n):n-1+m+x+1<=T:=by
 cases n with
 | zero=>exact absurd h0 (Nat.lt_irrefl _)
 | succ n=>exact ms0 h
theorem ms1 {n m x y T:Nat} (h:n+m+x+min y 1<=T) (h0:0<n):n-1+m+x+min (y+1) 1<=T:=Nat.le_trans (Nat.add_le_add_left (Nat.min_le_right (y+1) 1) _) (rB h h0)
theorem zH {n m x y T:Nat} (h:n+m+x+min y 1<=T) (h0:0<m):n+(m-1)+x+1<=T:=by rw [Nat.add_comm n (m-1)]; exact rB (by rw [Nat.add_comm m n]; exact h) h0
theorem ms2 {n m x y T:Nat} (h:n+m+x+min y 1<=T) (h0:0<m):n+(m-1)+x+min (y+1) 1<=T:=Nat.le_trans (Nat.add_le_add_left (Nat.min_le_right (y+1) 1) _) (zH h h0)
theorem ms3 {x y s:Nat} (h:x+min y 1+1<=s):x+min (y+1) 1+1<=s+1:=Nat.succ_le_succ (Nat.le_trans (Nat.add_le_add_left (Nat.min_le_right (y+1) 1) x) (Nat.le_trans (Nat.succ_le_succ (Nat.le_add_right x _)) h))
theorem zJ {i j k:Nat} (h:i<=k/\k<j):i<=i+j-1-k/\i+j-1-k<j:=by
 have hk:k<=j-1:=Nat.le_pred_of_lt h.2
 have e:i+j-1-k=i+(j-1-k):=by rw [Nat.add_sub_assoc (Nat.lt_of_le_of_lt (Nat.zero_le k) h.2),Nat.add_sub_assoc hk]
 rw [e]
 exact ⟨Nat.le_add_right _ _,Nat.lt_of_le_of_lt (Nat.le_trans (Nat.add_le_add_right h.1 _) (Nat.le_of_eq (Nat.add_sub_cancel' hk))) (Nat.sub_lt (Nat.lt_of_le_of_lt (Nat.zero_le k) h.2) (by decide))⟩
theorem sb6 {lo x A:Nat} (hx:0<x) (h:lo+x<=A):lo+x-1<A:=Nat.lt_of_lt_of_le (Nat.sub_lt (Nat.lt_of_lt_of_le hx (Nat.le_add_left _ _)) (by decide)) h
theorem BX {f g:Nat->Int} {k l:Nat} (hl:l<=k) (hg:∀ i,g i=if i=l then f k else if l<i/\i<=k then f (i-1) else f i) (u:∀ i j,i<=j->j<k->f i<=f j) (GB:∀ i,i<l->f i<=f k) (GX:∀ i,l<=i->i<k->f k<f i) (i j:Nat) (Fa:i<=j) (hj:j<k+1):g i<=g j:=by
 have lt:∀ i,i<l->g i=f i:=fun i h=>by rw [hg,if_neg (Nat.ne_of_lt h),if_neg fun z=>Nat.lt_asymm z.1 h]
 have eq:g l=f k:=by rw [hg,if_pos rfl]
 have gt:∀ i,l<i->i<=k->g i=f (i-1):=fun i h h2=>by rw [hg,if_neg (Nat.ne_of_gt h),if_pos ⟨h,h2⟩]
 have hj:=Nat.le_of_lt_succ hj
 rcases Nat.lt_trichotomy j l with c | rfl | c
 ·rw [lt j c,lt i (Nat.lt_of_le_of_lt Fa c)]; exact u i j Fa (Nat.lt_of_lt_of_le c hl)
 ·rcases Nat.lt_or_eq_of_le Fa with d | rfl
  ·rw [lt i d,eq]; exact GB i d
  ·exact Int.le_refl _
 ·rw [gt j c hj]
  cases j with
  | zero=>exact absurd c (Nat.not_lt_zero _)
  | succ j=>
   have cj:=Nat.le_of_lt_succ c
   rcases Nat.lt_trichotomy i l with d | rfl | d
   ·rw [lt i d]; exact u i j (Nat.le_trans (Nat.le_of_lt d) cj) hj
   ·rw [eq]; exact Int.le_of_lt (GX j cj hj)
   ·rw [gt i d (Nat.le_trans Fa hj)]; exact u (i-1) j (Nat.pred_le_pred Fa) hj
theorem dB {rk:Keyed->Int} {xs ys:Array Keyed} {i j:Nat} (h:xs[i]?=ys[j]?):kk rk xs i=kk rk ys j:=by unfold kk; rw [h]
theorem W0 {rk:Keyed->Int} {xs:Array Keyed} {i:Nat} {p:Keyed} (h:xs[i]?=some p):kk rk xs i=rk p:=by unfold kk; rw [h]
def Cmp (prog:Program) (w:World) (A:Around) (s:Shared) (κ:SortKind) (rk:Keyed->Int) (a₀:Array Keyed):Prop:=∀ x∈a₀,∀ y∈a₀,∀ Q:Bool->Shared->Prop,Q (decide (rk x<rk y)) s->wpAny (model prog w) A (keyLt' κ x.1 y.1) Q (fun _ _=>False) s
section
variable {prog:Program} {w:World} {A:Around} {E:Value->Shared->Prop} {s:Shared} {a₀:Array Keyed} {κ:SortKind} {rk:Keyed->Int}
theorem cS {st:SortSt} {x y:Keyed} {Q:Option Bool->SortSt->Prop} (hc:Cmp prog w A s κ rk a₀) (hx:x∈a₀) (hy:y∈a₀) (hk:kindOf st=κ) (h:Q (some (decide (rk x<rk y))) st):wpS (model prog w) A E s (lt' x y) Q st:=by
 rw [lt'_eq]
 refine wpS_bind (wpS_get ?_)
 rw [hk]
 refine wpS_bind (wpS_lift (wpAny_attempt (wpAny_mono (hc x hx y hy (fun c s'=>c=decide (rk x<rk y)/\s'=s) ⟨rfl,rfl⟩) (fun c s' hcs=>?_) fun _ _ hF=>hF.elim)))
 obtain ⟨rfl,rfl⟩:=hcs
 exact ⟨rfl,wpS_pure h⟩
theorem k6 {st:SortSt} {arr:Array Keyed} {i:Nat} {x:Keyed} {Q:Keyed->SortSt->Prop} (h:arr[i]?=some x) (q:Q x st):wpS (model prog w) A E s (elem' arr i) Q st:=by
 rw [elem'_eq,h]
 exact wpS_pure q
def we:Bool->Keyed->Array Keyed->Nat->Nat->Nat->StateT SortSt Sem (Option Nat):=sortPriv% PySem.Builtin.gallop
def bey (left:Bool) (key z:Int):Bool:=if left then decide (z<key) else !decide (key<z)
theorem au {left:Bool} {key z y:Int} (h:z<=y) (hb:bey left key y=true):bey left key z=true:=by
 unfold bey at hb ⊢
 cases left
 ·simp at hb ⊢; omega
 ·simp at hb ⊢; omega
theorem bm {left:Bool} {key z y:Int} (h:z<=y) (hb:bey left key z=false):bey left key y=false:=by
 cases q:bey left key y with
 | false=>rfl
 | true=>rw [au h q] at hb; cases hb
theorem az {st:SortSt} {left:Bool} {key:Keyed} {arr:Array Keyed} {j:Nat} {Q:Option Bool->SortSt->Prop} (hc:Cmp prog w A s κ rk a₀) (hk:kindOf st=κ) (Fu:key∈a₀) (FN:∃ x∈a₀,arr[j]?=some x)
  (h:Q (some (bey left (rk key) (kk rk arr j))) st):wpS (model prog w) A E s (elem' arr j>>=fun x=>if left=true then lt' x key else lt' key x>>=fun r=>pure (r.map (!·))) Q st:=by
 obtain ⟨x,hx,e⟩:=FN
 rw [W0 e] at h
 refine wpS_bind (k6 e ?_)
 cases left
 ·exact wpS_bind (cS hc Fu hx hk (wpS_pure h))
 ·exact cS hc hx Fu hk h
theorem J4 {st:SortSt} {left:Bool} {key:Keyed} {arr:Array Keyed} {base n hint:Nat} {Q:Option Nat->SortSt->Prop} (hc:Cmp prog w A s κ rk a₀) (hk:kindOf st=κ) (Fu:key∈a₀) (FN:∀ i,i<n->∃ x∈a₀,arr[base+i]?=some x)
  (hs:∀ i j,i<=j->j<n->kk rk arr (base+i)<=kk rk arr (base+j)) (hh:hint<n)
  (h:∀ k,k<=n->(∀ i,i<k->bey left (rk key) (kk rk arr (base+i))=true)->(∀ i,k<=i->i<n->bey left (rk key) (kk rk arr (base+i))=false)->Q (some k) st):wpS (model prog w) A E s (we left key arr base n hint) Q st:=by
 have last:∀ lo hi,hi<=n->lo<=hi->(∀ i,i<lo->bey left (rk key) (kk rk arr (base+i))=true)->(∀ i,hi<=i->i<n->bey left (rk key) (kk rk arr (base+i))=false) ->
   ∀ {R:Option (Option Nat)×Nat×Nat->SortSt->Prop} {body:Nat->Option (Option Nat)×Nat×Nat->StateT SortSt Sem (ForInStep (Option (Option Nat)×Nat×Nat))},
   (∀ x lo hi R',lo≥hi->R' (.done (none,lo,hi)) st->wpS (model prog w) A E s (body x (none,lo,hi)) R' st) ->
   (∀ x lo hi R',lo<hi->hi<=n->R' (if bey left (rk key) (kk rk arr (base+(lo+(hi-lo)/2)))=true then .yield (none,lo+(hi-lo)/2+1,hi) else .yield (none,lo,lo+(hi-lo)/2)) st->wpS (model prog w) A E s (body x (none,lo,hi)) R' st) ->
   (∀ lo hi,Q (some hi) st->R (none,lo,hi) st)->wpS (model prog w) A E s (forIn [0:n] (none,lo,hi) body) R st:=by
  intro lo hi hn hl h1 h2 R body Iu hb2 hR
  refine wpS_forRange (fun x c EK=>EK=st/\∃ lo hi,c=(none,lo,hi)/\hi<=n/\lo<=hi/\hi-lo<=n-x/\(∀ i,i<lo->bey left (rk key) (kk rk arr (base+i))=true)/\(∀ i,hi<=i->i<n->bey left (rk key) (kk rk arr (base+i))=false)) ?_ ?_ ⟨rfl,lo,hi,rfl,hn,hl,by omega,h1,h2⟩
  ·rintro x c EK _ hx ⟨rfl,lo,hi,rfl,hn,hl,hd,h1,h2⟩
   by_cases Fi:lo≥hi
   ·refine Iu x lo hi _ Fi ?_
    have:lo=hi:=by omega
    subst this
    exact hR _ _ (h lo hn h1 h2)
   ·refine hb2 x lo hi _ (Nat.lt_of_not_le Fi) hn ?_
    cases q:bey left (rk key) (kk rk arr (base+(lo+(hi-lo)/2))) with
    | true=>
     rw [if_pos rfl]
     exact ⟨rfl,_,_,rfl,hn,bJ Fi,xR (Nat.le_add_right _ _) hd,fun i Fh=>au (hs i _ (Nat.le_of_lt_succ Fh) (Nat.lt_of_lt_of_le (bJ Fi) hn)) q,h2⟩
    | false=>
     rw [if_neg Bool.false_ne_true]
     exact ⟨rfl,_,_,rfl,Nat.le_of_lt (Nat.lt_of_lt_of_le (bJ Fi) hn),Nat.le_add_right _ _,xS (Nat.le_add_right _ _) (bJ Fi) hd,h1,fun i a b=>bm (hs _ i a b) q⟩
  ·rintro c EK ⟨rfl,lo,hi,rfl,hn,hl,hd,h1,h2⟩
   have:lo=hi:=by omega
   subst this
   exact hR _ _ (h lo hn h1 h2)
 refine wpS_bind (az hc hk Fu (FN hint hh) ?_)
 dsimp only
 cases q0:bey left (rk key) (kk rk arr (base+hint)) with
 | true=>
  rw [if_pos rfl]
  refine wpS_bind (wpS_mono (wpS_forRange (fun x c EK=>EK=st/\∃ lo ofs,c=(none,lo,ofs)/\lo<ofs/\x<ofs/\hint+lo<n/\bey left (rk key) (kk rk arr (base+(hint+lo)))=true)
   (Q:=fun c EK=>EK=st/\∃ lo ofs,c=(none,lo,ofs)/\lo<ofs/\hint+lo<n/\bey left (rk key) (kk rk arr (base+(hint+lo)))=true/\(hint+ofs<n->bey left (rk key) (kk rk arr (base+(hint+ofs)))=false)) ?_ ?_ ⟨rfl,0,1,rfl,by omega,by omega,by omega,q0⟩) ?_)
  ·rintro x c EK _ hx ⟨rfl,lo,ofs,rfl,h1,h2,h3,h4⟩
   dsimp only
   by_cases Fi:ofs≥n-hint
   ·rw [if_pos Fi]
    exact wpS_pure ⟨rfl,lo,ofs,rfl,h1,h3,h4,fun _=>by omega⟩
   ·rw [if_neg Fi]
    refine wpS_bind (az hc hk Fu (FN _ (by omega)) ?_)
    dsimp only
    cases q:bey left (rk key) (kk rk arr (base+(hint+ofs))) with
    | true=>exact wpS_pure ⟨rfl,_,_,rfl,by omega,by omega,by omega,q⟩
    | false=>exact wpS_pure ⟨rfl,lo,ofs,rfl,h1,h3,h4,fun _=>q⟩
  ·rintro c EK ⟨rfl,lo,ofs,rfl,h1,h2,h3,h4⟩
   exact ⟨rfl,lo,ofs,rfl,h1,h3,h4,fun _=>by omega⟩
  ·rintro c EK ⟨rfl,lo,ofs,rfl,h1,h3,h4,h5⟩
   dsimp only
   refine wpS_bind (last _ _ (Nat.le_trans (Nat.add_le_add_left (Nat.min_le_right _ _) hint) (Nat.le_of_eq (Nat.add_sub_cancel' (Nat.le_of_lt hh)))) (Nat.add_le_add_left (Nat.le_min.mpr ⟨h1,Nat.lt_sub_iff_add_lt'.mpr h3⟩) hint) (fun i hi=>au (hs i (hint+lo) (Nat.le_of_lt_succ hi) h3) h4) (fun i a b=>?_) ?_ ?_ fun lo hi hq=>?_)
   ·have:hint+ofs<n:=by omega
    exact bm (hs (hint+ofs) i (by omega) b) (h5 this)
   ·intro x lo hi R' Fi hR
    dsimp only
    rw [if_pos Fi]
    exact wpS_pure hR
   ·intro x lo hi R' Fi Fb hR
    dsimp only
    rw [if_neg (Nat.not_le_of_lt Fi)]
    refine wpS_bind (az hc hk Fu (FN _ (Nat.lt_of_lt_of_le (bJ (Nat.not_le_of_lt Fi)) Fb)) ?_)
    dsimp only
    cases q:bey left (rk key) (kk rk arr (base+(lo+(hi-lo)/2))) with
    | true=>rw [q,if_pos rfl] at hR; exact wpS_pure hR
    | false=>rw [q,if_neg Bool.false_ne_true] at hR; exact wpS_pure hR
   ·exact wpS_pure hq
 | false=>
  rw [if_neg Bool.false_ne_true]
  refine wpS_bind (wpS_mono (wpS_forRange (fun x c EK=>EK=st/\∃ lo ofs,c=(none,lo,ofs)/\lo<ofs/\x<ofs/\lo<=hint/\bey left (rk key) (kk rk arr (base+(hint-lo)))=false)
   (Q:=fun c EK=>EK=st/\∃ lo ofs,c=(none,lo,ofs)/\lo<ofs/\lo<=hint/\bey left (rk key) (kk rk arr (base+(hint-lo)))=false/\(ofs<=hint->bey left (rk key) (kk rk arr (base+(hint-ofs)))=true)) ?_ ?_ ⟨rfl,0,1,rfl,by omega,by omega,by omega,q0⟩) ?_)
  ·rintro x c EK _ hx ⟨rfl,lo,ofs,rfl,h1,h2,h3,h4⟩
   dsimp only
   by_cases Fi:ofs≥hint+1
   ·rw [if_pos Fi]
    exact wpS_pure ⟨rfl,lo,ofs,rfl,h1,h3,h4,fun _=>by omega⟩
   ·rw [if_neg Fi]
    refine wpS_bind (az hc hk Fu (FN _ (by omega)) ?_)
    dsimp only
    cases q:bey left (rk key) (kk rk arr (base+(hint-ofs))) with
    | false=>exact wpS_pure ⟨rfl,_,_,rfl,by omega,by omega,by omega,q⟩
    | true=>exact wpS_pure ⟨rfl,lo,ofs,rfl,h1,h3,h4,fun _=>q⟩
  ·rintro c EK ⟨rfl,lo,ofs,rfl,h1,h2,h3,h4⟩
   exact ⟨rfl,lo,ofs,rfl,h1,h3,h4,fun _=>by omega⟩
  ·rintro c EK ⟨rfl,lo,ofs,rfl,h1,h3,h4,h5⟩
   dsimp only
   refine wpS_bind (last _ _ (Nat.le_of_lt (Nat.lt_of_le_of_lt (Nat.sub_le _ _) hh)) (Nat.le_trans (Nat.sub_le_sub_left (Nat.le_min.mpr ⟨h1,Nat.succ_le_succ h3⟩) (hint+1)) (Nat.le_of_eq (Nat.add_sub_add_right hint 1 lo))) (fun i hi=>?_) (fun i a b=>bm (hs (hint-lo) i a b) h4) ?_ ?_ fun lo hi hq=>?_)
   ·have:ofs<=hint:=Nat.le_of_not_lt fun q=>by rw [Nat.min_eq_right q,Nat.sub_self] at hi; exact absurd hi (Nat.not_lt_zero _)
    rw [Nat.min_eq_left (Nat.le_succ_of_le this),Nat.succ_sub this] at hi
    exact au (hs i (hint-ofs) (Nat.le_of_lt_succ hi) (Nat.lt_of_le_of_lt (Nat.sub_le _ _) hh)) (h5 this)
   ·intro x lo hi R' Fi hR
    dsimp only
    rw [if_pos Fi]
    exact wpS_pure hR
   ·intro x lo hi R' Fi Fb hR
    dsimp only
    rw [if_neg (Nat.not_le_of_lt Fi)]
    refine wpS_bind (az hc hk Fu (FN _ (Nat.lt_of_lt_of_le (bJ (Nat.not_le_of_lt Fi)) Fb)) ?_)
    dsimp only
    cases q:bey left (rk key) (kk rk arr (base+(lo+(hi-lo)/2))) with
    | true=>rw [q,if_pos rfl] at hR; exact wpS_pure hR
    | false=>rw [q,if_neg Bool.false_ne_true] at hR; exact wpS_pure hR
   ·exact wpS_pure hq
end
def upL (rk:Keyed->Int) (l:List Keyed):Prop:=l.Pairwise fun x y=>rk x<=rk y
structure Mg (rk:Keyed->Int) (t:List Keyed) (out ra rb:List Keyed):Prop where
 perm:(out++(ra++rb)).Perm t
 up:upL rk out
 le:∀ x∈out,∀ y∈ra++rb,rk x<=rk y
def Gd (rk:Keyed->Int) (t res:List Keyed):Prop:=res.Perm t/\upL rk res
section
variable {rk:Keyed->Int} {t out p ra rb:List Keyed}
theorem Mg.a (h:Mg rk t out (p++ra) rb) (hu:upL rk (p++ra)) (hl:∀ x∈p,∀ y∈rb,rk x<=rk y):Mg rk t (out++p) ra rb where
 perm:=by
  have:=h.perm
  rw [List.append_assoc] at this ⊢
  exact this
 up:=by
  rw [upL,List.pairwise_append]
  exact ⟨h.up,(List.pairwise_append.mp hu).1,fun x hx y hy=>h.le x hx y (by simp [hy])⟩
 le x hx y hy:=by
  rcases List.mem_append.mp hx with q | q
  ·refine h.le x q y ?_
   rcases List.mem_append.mp hy with r | r <;> simp [r]
  ·rcases List.mem_append.mp hy with r | r
   ·exact (List.pairwise_append.mp hu).2.2 x q y r
   ·exact hl x q y r
theorem Mg.swap (h:Mg rk t out ra rb):Mg rk t out rb ra where
 perm:=(List.Perm.append_left out List.perm_append_comm).trans h.perm
 up:=h.up
 le x hx y hy:=h.le x hx y (by rcases List.mem_append.mp hy with r | r <;> simp [r])
theorem Mg.fin (h:Mg rk t out ra rb) (ha:upL rk ra) (hb:upL rk rb) (hl:∀ x∈ra,∀ y∈rb,rk x<=rk y):Gd rk t (out++ra++rb):=by
 rw [List.append_assoc]
 refine ⟨h.perm,?_⟩
 rw [upL,List.pairwise_append]
 exact ⟨h.up,List.pairwise_append.mpr ⟨ha,hb,hl⟩,h.le⟩
theorem Mg.finB (h:Mg rk t out ra rb) (ha:upL rk ra) (hb:upL rk rb) (hl:∀ x∈rb,∀ y∈ra,rk x<=rk y):Gd rk t (out++rb++ra):=h.swap.fin hb ha hl
end
section
variable {prog:Program} {w:World} {A:Around} {E:Value->Shared->Prop} {s:Shared} {a₀:Array Keyed} {κ:SortKind} {rk:Keyed->Int}
theorem mP {α:Type} {c:Prop} [Decidable c] {X T:StateT SortSt Sem α} {Q:α->SortSt->Prop} {st:SortSt} {M:Model} (P:SortSt->Prop) (key:∀ EK,P EK->wpS M A E s T Q EK) (h1:c->(∀ EK,P EK->wpS M A E s T Q EK)->wpS M A E s X Q st) (h2:¬c->P st):wpS M A E s (if c then X else T) Q st:=by
 by_cases q:c
 ·rw [if_pos q]; exact h1 q key
 ·rw [if_neg q]; exact key _ (h2 q)
theorem mS {α:Type} {c c1:Prop} [Decidable c] [Decidable c1] {R1 T T':StateT SortSt Sem α} {Q:α->SortSt->Prop} {st:SortSt} {M:Model} (hT:¬c->T'=T) (h1:c->c1->wpS M A E s R1 Q st) (h3:(c->¬c1)->wpS M A E s T Q st):wpS M A E s (if c then (if c1 then R1 else T) else T') Q st:=by
 by_cases q:c
 ·rw [if_pos q]
  by_cases q1:c1
  ·rw [if_pos q1]; exact h1 q q1
  ·rw [if_neg q1]; exact h3 fun _=>q1
 ·rw [if_neg q,hT q]; exact h3 fun r=>absurd r q
theorem mR {α:Type} {c c1 c2:Prop} [Decidable c] [Decidable c1] [Decidable c2] {R1 R2 T T':StateT SortSt Sem α} {Q:α->SortSt->Prop} {st:SortSt} {M:Model} (hT:¬c->T'=T) (h1:c->c1->wpS M A E s R1 Q st) (h2:c->¬c1->c2->wpS M A E s R2 Q st) (h3:(c->¬c1/\¬c2)->wpS M A E s T Q st):wpS M A E s (if c then (if c1 then R1 else if c2 then R2 else T) else T') Q st:=by
 by_cases q:c
 ·rw [if_pos q]
  by_cases q1:c1
  ·rw [if_pos q1]; exact h1 q q1
  ·rw [if_neg q1]
   by_cases q2:c2
   ·rw [if_pos q2]; exact h2 q q1 q2
   ·rw [if_neg q2]; exact h3 fun _=>⟨q1,q2⟩
 ·rw [if_neg q,hT q]; exact h3 fun r=>absurd r q
theorem Bm (out a:Array Keyed) (i:Nat):out++(a.extract i i).reverse=out:=by
 have:a.extract i i=#[]:=by simp; omega
 rw [this]; simp
theorem Bl (out a:Array Keyed) (i:Nat):out++a.extract i i=out:=by
 have:a.extract i i=#[]:=by simp; omega
 rw [this]; simp
def rE:Array Keyed->Array Keyed->StateT SortSt Sem (Array Keyed):=sortPriv% PySem.Builtin.mergeLo
def rF:Array Keyed->Array Keyed->StateT SortSt Sem (Array Keyed):=sortPriv% PySem.Builtin.mergeHi
theorem kq {l:List Keyed} {i:Nat} {x:Keyed} (h:l[i]?=some x):l.drop i = [x]++l.drop (i+1):=by
 obtain ⟨hi,e⟩:=List.getElem?_eq_some_iff.mp h
 rw [List.drop_eq_getElem_cons hi,e]; rfl
theorem Y4 (l:List Keyed) (i k:Nat):l.drop i=(l.drop i).take k++l.drop (i+k):=by rw [<- List.drop_drop,List.take_append_drop]
theorem B3 {l:List Keyed} (h:upL rk l) (i:Nat):upL rk (l.drop i):=List.Pairwise.sublist (List.drop_sublist i l) h
theorem gD {l:List Keyed} {i:Nat} {x:Keyed} (hu:upL rk l) (h:l[i]?=some x):∀ y∈l.drop i,rk x<=rk y:=fun y hy=>by
 have:=B3 hu i
 rw [kq h] at this hy
 rcases List.mem_append.mp hy with q | q
 ·rw [List.mem_singleton.mp q]; exact Int.le_refl _
 ·exact (List.pairwise_append.mp this).2.2 x (List.mem_singleton.mpr rfl) y q
theorem S0 {l:List Keyed} {i k:Nat} {x:Keyed} (h:x∈(l.drop i).take k):∃ j,j<k/\l[i+j]?=some x:=by
 obtain ⟨j,hj⟩:=List.mem_iff_getElem?.mp h
 by_cases c:j<k
 ·rw [List.getElem?_take_of_lt c,List.getElem?_drop] at hj
  exact ⟨j,c,hj⟩
 ·rw [List.getElem?_take_eq_none (by omega)] at hj; cases hj
theorem Mg.pa {t out l rb:List Keyed} {i:Nat} {x:Keyed} (m:Mg rk t out (l.drop i) rb) (hu:upL rk l) (h:l[i]?=some x) (hl:∀ y∈rb,rk x<=rk y):Mg rk t (out ++ [x]) (l.drop (i+1)) rb:=by
 have u:=B3 hu i
 rw [kq h] at m u
 exact m.a u fun z hz y hy=>by rw [List.mem_singleton.mp hz]; exact hl y hy
theorem Mg.pb {t out l ra:List Keyed} {i:Nat} {x:Keyed} (m:Mg rk t out ra (l.drop i)) (hu:upL rk l) (h:l[i]?=some x) (hl:∀ y∈ra,rk x<=rk y):Mg rk t (out ++ [x]) ra (l.drop (i+1)):=(m.swap.pa hu h hl).swap
theorem Mg.ka {t out l rb:List Keyed} {i k:Nat} (m:Mg rk t out (l.drop i) rb) (hu:upL rk l) (hl:∀ x∈(l.drop i).take k,∀ y∈rb,rk x<=rk y):Mg rk t (out++(l.drop i).take k) (l.drop (i+k)) rb:=by
 have u:=B3 hu i
 have m2:Mg rk t out ((l.drop i).take k++l.drop (i+k)) rb:=by rw [<- Y4]; exact m
 exact m2.a (by rw [<- Y4]; exact u) hl
theorem Mg.kb {t out l ra:List Keyed} {i k:Nat} (m:Mg rk t out ra (l.drop i)) (hu:upL rk l) (hl:∀ x∈(l.drop i).take k,∀ y∈ra,rk x<=rk y):Mg rk t (out++(l.drop i).take k) ra (l.drop (i+k)):=(m.swap.ka hu hl).swap
theorem Y3 (a:Array Keyed) (i k:Nat):(a.extract i (i+k)).toList=(a.toList.drop i).take k:=by
 rw [Array.toList_extract,List.extract_eq_take_drop]; congr 1; omega
theorem Y2 (a:Array Keyed) (i:Nat):(a.extract i a.size).toList=a.toList.drop i:=by
 rw [Array.toList_extract,List.extract_eq_take_drop,List.take_of_length_le (by simp)]
theorem V2 {a:Array Keyed} {i:Nat} (h:i<a.size):∃ x,x∈a.toList/\a[i]?=some x/\a.toList[i]?=some x:=⟨a[i],by simp,by simp,by simp [h]⟩
theorem o6 {a:Array Keyed} {i:Nat} {x:Keyed} (h:a.toList[i]?=some x):kk rk a i=rk x:=W0 (by rw [<- Array.getElem?_toList]; exact h)
theorem bv {a:Array Keyed} (hu:upL rk a.toList) {i j:Nat} (h:i<=j) (hj:j<a.size):kk rk a i<=kk rk a j:=by
 obtain ⟨x,hx,ex,lx⟩:=V2 (a:=a) (i:=i) (by omega)
 obtain ⟨y,hy,ey,ly⟩:=V2 (a:=a) (i:=j) hj
 rw [W0 ex,W0 ey]
 refine gD hu lx y (List.mem_iff_getElem?.mpr ⟨j-i,?_⟩)
 rw [List.getElem?_drop,show i+(j-i)=j by omega]; exact ly
theorem U1 {a:Array Keyed} (hu:upL rk a.toList) {i:Nat} {x:Keyed} (hx:x∈a.toList.drop i):kk rk a i<=rk x:=by
 obtain ⟨j,hj⟩:=List.mem_iff_getElem?.mp hx
 rw [List.getElem?_drop] at hj
 have hl:=(List.getElem?_eq_some_iff.mp hj).1
 rw [<- o6 (rk:=rk) hj]
 exact bv hu (by omega) (by simp at hl; omega)
structure Js (rk:Keyed->Int) (a b:Array Keyed) (out:Array Keyed) (ia ib:Nat):Prop where
 mg:Mg rk (a.toList++b.toList) out.toList (a.toList.drop ia) (b.toList.drop ib)
 ha:ia+1<a.size
 hb:ib<b.size
abbrev gS (st:SortSt) (g:Nat):SortSt:=SortSt.mk' (kindOf st) (arrOf st) (pendingOf st) g (failedOf st)
theorem gs {a b out:Array Keyed} {ia ib:Nat} (m:Mg rk (a.toList++b.toList) out.toList (a.toList.drop ia) (b.toList.drop ib)) (ua:upL rk a.toList) (h:ib=b.size):Gd rk (a.toList++b.toList) (out++a.extract ia a.size++b.extract ib b.size).toList:=by
 rw [Array.toList_append,Array.toList_append,Y2,Y2]
 have e:b.toList.drop ib = []:=List.drop_eq_nil_of_le (by simp; omega)
 rw [e] at m ⊢
 exact m.fin (B3 ua _) .nil fun x hx y hy=>nomatch hy
theorem Dk {a b out:Array Keyed} {ia ib:Nat} (m:Mg rk (a.toList++b.toList) out.toList (a.toList.drop ia) (b.toList.drop ib)) (ub:upL rk b.toList) (h:ia=a.size):Gd rk (a.toList++b.toList) (out++a.extract ia a.size++b.extract ib b.size).toList:=by
 rw [Array.toList_append,Array.toList_append,Y2,Y2]
 have e:a.toList.drop ia = []:=List.drop_eq_nil_of_le (by simp; omega)
 rw [e] at m ⊢
 exact m.fin .nil (B3 ub _) fun x hx y hy=>nomatch hx
theorem gn {a b out:Array Keyed} {ia ib:Nat} (m:Mg rk (a.toList++b.toList) out.toList (a.toList.drop ia) (b.toList.drop ib)) (ua:upL rk a.toList) (ub:upL rk b.toList) (hl:∀ x∈b.toList,rk x<=kk rk a (a.size-1)) (h:ia+1=a.size):Gd rk (a.toList++b.toList) (out++b.extract ib b.size++a.extract ia a.size).toList:=by
 rw [Array.toList_append,Array.toList_append,Y2,Y2]
 refine m.finB (B3 ua _) (B3 ub _) fun x hx y hy=>?_
 have h1:=hl x (List.mem_of_mem_drop hx)
 have h2:=U1 ua hy
 rw [show a.size-1=ia by omega] at h1
 omega
@[elab_as_elim] theorem mm {A1 A2 A3 A4 A5 C S:Type} {f:A1->A2->A3->A4->A5->C} {k:A1->A2->A3->A4->A5->S} {J:A1->A2->A3->A4->A5->Prop} {G:C->S->Prop} {c:C} {t:S} (h:∃ x1 x2 x3 x4 x5,c=f x1 x2 x3 x4 x5/\t=k x1 x2 x3 x4 x5/\J x1 x2 x3 x4 x5) (g:∀ x1 x2 x3 x4 x5,J x1 x2 x3 x4 x5->G (f x1 x2 x3 x4 x5) (k x1 x2 x3 x4 x5)):G c t:=by
 obtain ⟨_,_,_,_,_,rfl,rfl,j⟩:=h
 exact g _ _ _ _ _ j
@[elab_as_elim] theorem Bx {A1 A2 A3 A4 A5 A6 A7 C S:Type} {f:A1->A2->A3->A4->A5->A6->A7->C} {k:A1->A2->A3->A4->A5->A6->A7->S} {J:A1->A2->A3->A4->A5->A6->A7->Prop} {G:C->S->Prop} {c:C} {t:S} (h:∃ x1 x2 x3 x4 x5 x6 x7,c=f x1 x2 x3 x4 x5 x6 x7/\t=k x1 x2 x3 x4 x5 x6 x7/\J x1 x2 x3 x4 x5 x6 x7) (g:∀ x1 x2 x3 x4 x5 x6 x7,J x1 x2 x3 x4 x5 x6 x7->G (f x1 x2 x3 x4 x5 x6 x7) (k x1 x2 x3 x4 x5 x6 x7)):G c t:=by
 obtain ⟨_,_,_,_,_,_,_,rfl,rfl,j⟩:=h
 exact g _ _ _ _ _ _ _ j
@[elab_as_elim] theorem Bu {A1 A2 A3 A4 A5 R D S:Type} {f:A1->A2->A3->A4->A5->Option R×D} {J:A1->A2->A3->A4->A5->Prop} {L:R->Prop} {G:Option R×D->S->Prop} {c:Option R×D} {t t0:S} (h:t=t0/\((∃ r,c.1=some r/\L r)\/∃ x1 x2 x3 x4 x5,c=f x1 x2 x3 x4 x5/\J x1 x2 x3 x4 x5)) (g1:∀ r d,L r->G (some r,d) t0) (g2:∀ x1 x2 x3 x4 x5,J x1 x2 x3 x4 x5->G (f x1 x2 x3 x4 x5) t0):G c t:=by
 obtain ⟨c1,c2⟩:=c
 obtain ⟨rfl,⟨r,e,l⟩ | ⟨_,_,_,_,_,e,j⟩⟩:=h
 ·cases e; exact g1 _ _ l
 ·rw [e]; exact g2 _ _ _ _ _ j
@[elab_as_elim] theorem Bv {A1 A2 A3 A4 A5 A6 R D S N:Type} {k:N->S} {f:A1->A2->A3->A4->A5->A6->Option R×D} {J:A1->A2->A3->A4->A5->A6->Prop} {L:R->Prop} {G:Option R×D->S->Prop} {c:Option R×D} {t:S} (h:∃ g,t=k g/\((∃ r,c.1=some r/\L r)\/∃ x1 x2 x3 x4 x5 x6,c=f x1 x2 x3 x4 x5 x6/\J x1 x2 x3 x4 x5 x6)) (g1:∀ g r d,L r->G (some r,d) (k g)) (g2:∀ g x1 x2 x3 x4 x5 x6,J x1 x2 x3 x4 x5 x6->G (f x1 x2 x3 x4 x5 x6) (k g)):G c t:=by
 obtain ⟨c1,c2⟩:=c
 obtain ⟨g,rfl,⟨r,e,l⟩ | ⟨_,_,_,_,_,_,e,j⟩⟩:=h
 ·cases e; exact g1 _ _ _ l
 ·rw [e]; exact g2 _ _ _ _ _ _ _ j
theorem L5 {G:Prop} {a:Array Keyed} {i:Nat} (h:i<a.size) (g:∀ x,x∈a.toList->a[i]?=some x->a.toList[i]?=some x->G):G:=let ⟨x,h1,h2,h3⟩:=V2 h; g x h1 h2 h3
theorem mQ {α β:Type} {c:Prop} [Decidable c] {jp:Unit->β->StateT SortSt Sem α} {x y:β} {Q:α->SortSt->Prop} {st:SortSt} {M:Model} (h:∀ z,wpS M A E s (jp () z) Q st):wpS M A E s (if c then jp () x else jp () y) Q st:=by
 split
 ·exact h _
 ·exact h _
theorem E4 {α:Type} {m n:Nat} {X Y:StateT SortSt Sem α} {Q:α->SortSt->Prop} {st:SortSt} {M:Model} (h1:m=n->wpS M A E s X Q st) (h2:¬ m=n->wpS M A E s Y Q st):wpS M A E s (if (m == n)=true then X else Y) Q st:=by
 by_cases c:m=n
 ·rw [if_pos (by simpa using c)]; exact h1 c
 ·rw [if_neg (by simpa using c)]; exact h2 c
theorem O8 {α:Type} {c:Prop} [Decidable c] {X Y:StateT SortSt Sem α} {Q:α->SortSt->Prop} {st:SortSt} {M:Model} (h1:c->wpS M A E s X Q st) (h2:¬ c->wpS M A E s Y Q st):wpS M A E s (if decide c=true then X else Y) Q st:=by
 by_cases q:c
 ·rw [if_pos (by simpa using q)]; exact h1 q
 ·rw [if_neg (by simpa using q)]; exact h2 q
@[elab_as_elim] theorem cpsA {A1 C S:Type} {f:A1->C} {J:A1->Prop} {G:C->S->Prop} {c:C} {t t0:S} (h:t=t0/\∃ x,c=f x/\J x) (g:∀ x,J x->G (f x) t0):G c t:=by
 obtain ⟨rfl,_,rfl,j⟩:=h
 exact g _ j
@[elab_as_elim] theorem Dr {A1 A2 C S:Type} {f:A1->A2->C} {J:A1->A2->Prop} {G:C->S->Prop} {c:C} {t t0:S} (h:t=t0/\∃ x y,c=f x y/\J x y) (g:∀ x y,J x y->G (f x y) t0):G c t:=by
 obtain ⟨rfl,_,_,rfl,j⟩:=h
 exact g _ _ j
@[elab_as_elim] theorem Bw {A1 S:Type} {k:A1->S} {J:A1->Prop} {G:S->Prop} {t:S} (h:∃ x,t=k x/\J x) (g:∀ x,J x->G (k x)):G t:=by
 obtain ⟨_,rfl,j⟩:=h
 exact g _ j
@[elab_as_elim] theorem cpsC {A1 A2 C S:Type} {k:A1->A2->S} {f:A1->A2->C} {J:A1->A2->Prop} {G:C->S->Prop} {c:C} {t:S} (h:∃ x y,t=k x y/\c=f x y/\J x y) (g:∀ x y,J x y->G (f x y) (k x y)):G c t:=by
 obtain ⟨_,_,rfl,rfl,j⟩:=h
 exact g _ _ j
@[elab_as_elim] theorem cpsD {A1 A2 A3 C S:Type} {k:A1->A2->A3->S} {f:A1->A2->A3->C} {J:A1->A2->A3->Prop} {G:C->S->Prop} {c:C} {t:S} (h:∃ x y z,t=k x y z/\c=f x y z/\J x y z) (g:∀ x y z,J x y z->G (f x y z) (k x y z)):G c t:=by
 obtain ⟨_,_,_,rfl,rfl,j⟩:=h
 exact g _ _ _ j
@[elab_as_elim] theorem Dq {A1 C S:Type} {k:A1->S} {c0:C} {J:A1->Prop} {G:C->S->Prop} {c:C} {t:S} (h:∃ x,t=k x/\c=c0/\J x) (g:∀ x,J x->G c0 (k x)):G c t:=by
 obtain ⟨_,rfl,rfl,j⟩:=h
 exact g _ j
theorem kI {st:SortSt} {a b:Array Keyed} {Q:Array Keyed->SortSt->Prop} (hc:Cmp prog w A s κ rk a₀) (hk:kindOf st=κ) (ha:∀ x∈a.toList,x∈a₀) (hb:∀ x∈b.toList,x∈a₀) (ua:upL rk a.toList) (ub:upL rk b.toList)
  (Iy:0<a.size) (IY:0<b.size) (hf:∀ x∈a.toList,kk rk b 0<=rk x) (hl:∀ x∈b.toList,rk x<=kk rk a (a.size-1))
  (h:∀ res g,Gd rk (a.toList++b.toList) res.toList->Q res (gS st g)):wpS (model prog w) A E s (rE a b) Q st:=by
 refine wpS_bind (wpS_lift (wpAny_rule ⟨rfl,?_⟩))
 refine L5 IY fun y0 hy0 JP HZ=>?_
 refine wpS_bind (k6 JP ?_)
 dsimp (zeta:=false) only
 have m0:Mg rk (a.toList++b.toList) #[y0].toList (a.toList.drop 0) (b.toList.drop 1):=by
  have:Mg rk (a.toList++b.toList) [] (a.toList.drop 0) (b.toList.drop 0):=⟨by simp,.nil,fun x hx=>nomatch hx⟩
  exact this.pb ub HZ fun y hy=>by rw [<- o6 (rk:=rk) HZ]; exact hf y (List.mem_of_mem_drop hy)
 refine E4 (fun c1=>wpS_pure (h _ (gallopOf st) (gs m0 ua c1))) fun c1=>?_
 by_cases c2:0+1=a.size
 ·rw [if_pos (by simpa using c2)]
  exact wpS_pure (h _ (gallopOf st) (gn m0 ua ub hl c2))
 rw [if_neg (by simpa using c2)]
 refine wpS_bind (wpS_get ?_)
 have j0:Js rk a b #[y0] 0 1:=⟨m0,by omega,by omega⟩
 refine wpS_bind (wpS_mono (wpS_forRange (fun x c EK=>∃ out ia ib g g',c=(none,out,ia,ib,g)/\EK=gS st g'/\Js rk a b out ia ib/\x+1<=ia+ib)
  (Q:=fun c EK=>∃ res g,c.1=some res/\EK=gS st g/\Gd rk (a.toList++b.toList) res.toList) ?step ?fin ⟨_,_,_,_,gallopOf st,rfl,rfl,j0,by omega⟩) ?post)
 case fin=>
  rintro c EK ⟨out,ia,ib,g,g',rfl,rfl,j,hm⟩
  have:=j.ha
  have:=j.hb
  omega
 case post=>
  rintro ⟨c1,c2⟩ EK ⟨res,g,e,rfl,hg⟩
  cases e
  exact wpS_pure (h res g hg)
 case step=>
  intro x c EK _ _ hI
  refine mm (c:=c) (t:=EK) hI fun out ia ib g g' jm=>?_
  have j:=jm.1
  have hm:=jm.2
  clear hI jm c EK
  clear c1 c2 j0 m0
  dsimp (zeta:=false) only
  refine wpS_bind (wpS_mono (wpS_forRange (fun y c EK=>∃ out ia ib ac bc,c=(none,out,ia,ib,ac,bc)/\EK=gS st g'/\Js rk a b out ia ib/\x+min y 1+1<=ia+ib)
   (Q:=fun c EK=>EK=gS st g'/\((∃ res,c.1=some res/\Gd rk (a.toList++b.toList) res.toList)\/∃ out ia ib ac bc,c=(none,out,ia,ib,ac,bc)/\Js rk a b out ia ib/\x+2<=ia+ib)) ?istep ?ifin ⟨out,ia,ib,0,0,rfl,rfl,j,by omega⟩) ?ipost)
  case ifin=>
   rintro c EK ⟨out,ia,ib,ac,bc,rfl,rfl,j,hm⟩
   have:=j.ha
   exact ⟨rfl,.inr ⟨_,_,_,_,_,rfl,j,by omega⟩⟩
  case istep=>
   clear j hm
   intro y c EK _ _ hI
   refine mm (c:=c) (t:=EK) hI fun out ia ib ac bc jm=>?_
   have j:=jm.1
   have hm:=jm.2
   clear hI jm c EK
   dsimp only
   have GQ:=j.ha
   have GE:=j.hb
   refine L5 (a:=b) (i:=ib) j.hb fun u hu eu lu=>?_
   refine L5 (a:=a) (i:=ia) (by omega) fun v hv ev lv=>?_
   refine wpS_bind (k6 eu (wpS_bind (k6 ev (wpS_bind (cS hc (hb u hu) (ha v hv) hk ?_)))))
   dsimp only
   refine O8 (fun q=>?_) fun q=>?_
   ·skip
    refine wpS_bind (k6 eu ?_)
    have m:=j.mg.pb ub lu fun z hz=>by
     have:=U1 ua hz
     rw [o6 (rk:=rk) lv] at this
     omega
    rw [<- Array.toList_push] at m
    refine E4 (fun c=>wpS_pure ⟨rfl,.inl ⟨_,rfl,gs m ua c⟩⟩) fun c=>?_
    ·skip
     have j2:Js rk a b (out.push u) ia (ib+1):=⟨m,GQ,by omega⟩
     have JC:x+2<=ia+ib+1:=Nat.succ_le_succ (Nat.le_trans (Nat.succ_le_succ (Nat.le_add_right x _)) hm)
     split
     ·exact wpS_pure ⟨rfl,.inr ⟨_,_,_,_,_,rfl,j2,JC⟩⟩
     ·exact wpS_pure ⟨_,_,_,_,_,rfl,rfl,j2,ms3 hm⟩
   ·skip
    refine wpS_bind (k6 ev ?_)
    have m:=j.mg.pa ua lv fun z hz=>by
     have:=U1 ub hz
     rw [o6 (rk:=rk) lu] at this
     omega
    rw [<- Array.toList_push] at m
    refine E4 (fun c=>wpS_pure ⟨rfl,.inl ⟨_,rfl,gn m ua ub hl c⟩⟩) fun c=>?_
    ·skip
     have j2:Js rk a b (out.push v) (ia+1) ib:=⟨m,by omega,GE⟩
     have JC:x+2<=ia+ib+1:=Nat.succ_le_succ (Nat.le_trans (Nat.succ_le_succ (Nat.le_add_right x _)) hm)
     split
     ·exact wpS_pure ⟨rfl,.inr ⟨_,_,_,_,_,rfl,j2,Nat.add_right_comm ia ib 1 ▸ JC⟩⟩
     ·exact wpS_pure ⟨_,_,_,_,_,rfl,rfl,j2,Nat.add_right_comm ia ib 1 ▸ ms3 hm⟩
  case ipost=>
   clear j hm
   intro c EK hI
   refine Bu (c:=c) (t:=EK) hI (fun res _ hg=>wpS_pure ⟨res,g',rfl,rfl,hg⟩) fun out ia ib ac bc jm=>?_
   have j:=jm.1
   have hm:=jm.2
   clear hI jm c EK
   dsimp (zeta:=false) only
   refine wpS_bind (wpS_lift (wpAny_rule ⟨rfl,?_⟩))
   refine wpS_bind (wpS_mono (wpS_forRange (fun y c EK=>∃ out ia ib mg ac bc g,c=(none,out,ia,ib,mg,ac,bc)/\EK=gS st g/\Js rk a b out ia ib/\x+2<=ia+ib)
    (Q:=fun c EK=>∃ g,EK=gS st g/\((∃ res,c.1=some res/\Gd rk (a.toList++b.toList) res.toList)\/∃ out ia ib mg ac bc,c=(none,out,ia,ib,mg,ac,bc)/\Js rk a b out ia ib/\x+2<=ia+ib)) ?gstep ?gfin ⟨out,ia,ib,_,ac,bc,g',rfl,rfl,j,hm⟩) ?gpost)
   case gfin=>
    rintro c EK ⟨out,ia,ib,mg,ac,bc,g,rfl,rfl,j,hm⟩
    exact ⟨g,rfl,.inr ⟨_,_,_,_,_,_,rfl,j,hm⟩⟩
   case gpost=>
    clear j hm
    intro c EK hI
    refine Bv (c:=c) (t:=EK) hI (fun g res _ hg=>wpS_pure ⟨res,g,rfl,rfl,hg⟩) fun g out ia ib mg ac bc jm=>?_
    have j:=jm.1
    have hm:=jm.2
    clear hI jm c EK
    try dsimp (zeta:=false) only
    exact wpS_bind (wpS_modify (wpS_pure ⟨_,_,_,_,_,rfl,rfl,j,by omega⟩))
   case gstep=>
    clear j hm
    intro y c EK _ _ hI
    refine Bx (c:=c) (t:=EK) hI fun out ia ib mg ac bc g jm=>?_
    have j:=jm.1
    have hm:=jm.2
    clear hI jm c EK
    try dsimp (zeta:=false) only
    have GQ:=j.ha
    have GE:=j.hb
    refine L5 (a:=b) (i:=ib) j.hb fun u hu eu lu=>?_
    extract_lets s0 o0 s1 i0 s2 i1 s3 m0 s4 a0 b0 ib1 jp mg1
    refine mQ (jp:=jp) fun mg2=>?_
    dsimp (zeta:=false) only [jp]
    clear jp
    subst s0 o0 s1 i0 s2 i1 s3 m0 s4 a0 b0 ib1 mg1
    try dsimp (zeta:=false) only
    refine wpS_bind (wpS_modify ?_)
    refine wpS_bind (k6 eu (wpS_bind (J4 hc hk (hb u hu) (fun i hi=>?ga) (fun i j Fa hj=>bv ua (by omega) (by omega)) (by omega) fun k k1 k2 k3=>?_)))
    case ga=>
     refine L5 (a:=a) (i:=ia+i) (by omega) fun v hv ev lv=>?_
     exact ⟨v,ha v hv,ev⟩
    try dsimp (zeta:=false) only
    extract_lets acnt jp2 out1 ia1
    subst acnt out1 ia1
    have hia:ia<=ia+k/\ia+k<=a.size:=by omega
    have m1:Mg rk (a.toList++b.toList) (out++a.extract ia (ia+k)).toList (a.toList.drop (ia+k)) (b.toList.drop ib):=by
     rw [Array.toList_append,Y3]
     refine j.mg.ka ua fun z hz y hy=>?_
     obtain ⟨i,hi,li⟩:=S0 hz
     have h1:=k2 i hi
     rw [o6 (rk:=rk) li] at h1
     have h2:=U1 ub hy
     rw [o6 (rk:=rk) lu] at h2
     simp [bey] at h1
     omega
    have b1:∀ z∈a.toList.drop (ia+k),rk u<=rk z:=fun z hz=>by
     by_cases c:ia+k<a.size
     ·have h1:=k3 k (Nat.le_refl _) (by omega)
      have h2:=U1 ua hz
      simp [bey] at h1
      omega
     ·rw [List.drop_eq_nil_of_le (by simp; omega)] at hz; cases hz
    refine mR (fun q=>?e1) (fun _ c=>wpS_pure ⟨_,rfl,.inl ⟨_,rfl,gn m1 ua ub hl (by simpa using c)⟩⟩) (fun _ _ c=>wpS_pure ⟨_,rfl,.inl ⟨_,rfl,Dk m1 ub (by simpa using c)⟩⟩) fun q0=>?_
    case e1=>
     have k0:k=0:=by omega
     rw [k0,Nat.add_zero,Bl]
    have q1:ia+k+1<a.size:=by
     by_cases kz:k>0
     ·have:=q0 kz
      simp at this
      omega
     ·omega
    generalize out++a.extract ia (ia+k)=out1 at m1 ⊢
    generalize ia+k=ia1 at m1 b1 hia q1 ⊢
    dsimp (zeta:=false) only [jp2]
    clear jp2
    refine wpS_bind (k6 eu ?_)
    extract_lets out3
    have m2:=m1.pb ub lu b1
    rw [<- Array.toList_push] at m2
    refine E4 (fun c3=>wpS_pure ⟨_,rfl,.inl ⟨_,rfl,gs m2 ua c3⟩⟩) fun c3=>?_
    refine L5 (a:=a) (i:=ia1) (by omega) fun v hv ev lv=>?_
    refine wpS_bind (k6 ev (wpS_bind (J4 hc hk (ha v hv) (fun i hi=>?gb) (fun i j Fa hj=>bv ub (by omega) (by omega)) (by omega) fun l l1 l2 l3=>?_)))
    case gb=>
     refine L5 (a:=b) (i:=ib+1+i) (Nat.add_lt_of_lt_sub' hi) fun v hv ev lv=>?_
     exact ⟨v,hb v hv,ev⟩
    try dsimp (zeta:=false) only
    extract_lets bcnt jp3 out4 ib4
    subst out3 bcnt out4 ib4
    have hib:ib+1<=ib+1+l/\ib+1+l<=b.size:=⟨Nat.le_add_right _ _,Nat.le_trans (Nat.add_le_add_left l1 _) (Nat.le_of_eq (Nat.add_sub_cancel' GE))⟩
    have m3:Mg rk (a.toList++b.toList) (out1.push u++b.extract (ib+1) (ib+1+l)).toList (a.toList.drop ia1) (b.toList.drop (ib+1+l)):=by
     rw [Array.toList_append,Y3]
     refine m2.kb ub fun z hz y hy=>?_
     obtain ⟨i,hi,li⟩:=S0 hz
     have h1:=l2 i hi
     rw [o6 (rk:=rk) li] at h1
     have h2:=U1 ua hy
     rw [o6 (rk:=rk) lv] at h2
     simp [bey] at h1
     omega
    have b2:∀ z∈b.toList.drop (ib+1+l),rk v<=rk z:=fun z hz=>by
     by_cases c:ib+1+l<b.size
     ·have h1:=l3 l (Nat.le_refl _) (Nat.lt_sub_iff_add_lt'.mpr c)
      have h2:=U1 ub hz
      simp [bey] at h1
      omega
     ·rw [List.drop_eq_nil_of_le (by simp; omega)] at hz; cases hz
    refine mS (fun q=>?e2) (fun _ c=>wpS_pure ⟨_,rfl,.inl ⟨_,rfl,gs m3 ua (by simpa using c)⟩⟩) fun q0=>?_
    case e2=>
     have k0:l=0:=by omega
     rw [k0,Nat.add_zero,Bl]
    have q2:ib+1+l<b.size:=by
     by_cases kz:l>0
     ·have:=q0 kz
      simp at this
      omega
     ·omega
    generalize out1.push u++b.extract (ib+1) (ib+1+l)=out2 at m3 ⊢
    generalize ib+1+l=ib2 at m3 b2 hib q2 ⊢
    dsimp (zeta:=false) only [jp3]
    clear jp3
    refine wpS_bind (k6 ev ?_)
    dsimp only
    have m4:=m3.pa ua lv b2
    rw [<- Array.toList_push] at m4
    refine E4 (fun c4=>wpS_pure ⟨_,rfl,.inl ⟨_,rfl,gn m4 ua ub hl c4⟩⟩) fun c4=>?_
    have j4:Js rk a b (out2.push v) (ia1+1) ib2:=⟨m4,by omega,q2⟩
    split
    ·exact wpS_pure ⟨_,rfl,.inr ⟨_,_,_,_,_,_,rfl,j4,by omega⟩⟩
    ·exact wpS_pure ⟨_,_,_,_,_,_,_,rfl,rfl,j4,by omega⟩
end
section
variable {prog:Program} {w:World} {A:Around} {E:Value->Shared->Prop} {s:Shared} {a₀:Array Keyed} {κ:SortKind} {rk:Keyed->Int}
abbrev rn (rk:Keyed->Int) (x:Keyed):Int:=-rk x
abbrev rv (a:Array Keyed):List Keyed:=a.toList.reverse
theorem bu {l:List Keyed} (h:upL rk l):upL (rn rk) l.reverse:=by
 unfold upL at h ⊢
 rw [List.pairwise_reverse]
 exact h.imp fun q=>by show -_ <= -_; omega
theorem tq {a:Array Keyed} {k:Nat} {x:Keyed} (h0:0<k) (hk:k<=a.size) (h:a.toList[k-1]?=some x):(rv a)[a.size-k]?=some x:=by
 cases k with
 | zero=>exact absurd h0 (Nat.lt_irrefl _)
 | succ m=>
  have e:a.toList.length-1-(a.size-(m+1))=m:=by rw [Array.length_toList,show a.size-(m+1)=a.size-1-m by rw [Nat.sub_sub,Nat.add_comm],Nat.sub_sub_self (show m<=a.size-1 from Nat.le_pred_of_lt hk)]
  rw [List.getElem?_reverse (by rw [Array.length_toList]; exact Nat.sub_lt (Nat.lt_of_lt_of_le h0 hk) h0),e,<- h]; rfl
theorem R9 {a:Array Keyed} {k:Nat}:(rv a).drop (a.size-k)=(a.toList.take k).reverse:=by
 rw [List.reverse_take]; simp
theorem Z8 {a:Array Keyed} (hu:upL rk a.toList) {k:Nat} {x:Keyed} (h0:k<=a.size) (hx:x∈(rv a).drop (a.size-k)):rk x<=kk rk a (k-1):=by
 rw [R9,List.mem_reverse] at hx
 obtain ⟨j,hj,lj⟩:=S0 (i:=0) (k:=k) (l:=a.toList) (by simpa using hx)
 rw [Nat.zero_add] at lj
 rw [<- o6 (rk:=rk) lj]
 exact bv hu (by omega) (by omega)
theorem cZ {a:Array Keyed} {i k:Nat} (h:i<=k) (hk:k<=a.size):(a.extract i k).reverse.toList=((rv a).drop (a.size-k)).take (k-i):=by
 rw [R9,Array.toList_reverse,Array.toList_extract,List.extract_eq_take_drop,List.take_reverse,List.length_take]
 congr 1
 rw [List.drop_take]
 simp
 have:min k a.size-(k-i)=i:=by omega
 rw [this]
theorem Gd.rv {a b:Array Keyed} {res:List Keyed} (h:Gd (rn rk) (rv a++rv b) res.reverse):Gd rk (a.toList++b.toList) res:=by
 refine ⟨?_,?_⟩
 ·refine (List.reverse_perm res).symm.trans (h.1.trans ?_)
  exact List.Perm.append (List.reverse_perm _) (List.reverse_perm _)
 ·have:=h.2
  unfold upL at this ⊢
  rw [List.pairwise_reverse] at this
  exact this.imp fun q=>by
   have q:-_ <= -_:=q
   omega
theorem iW {a b out:Array Keyed} {na nb:Nat} (h:Gd (rn rk) (rv a++rv b) (out.toList++(rv b).drop (b.size-nb)++(rv a).drop (a.size-na))):Gd rk (a.toList++b.toList) (a.extract 0 na++b.extract 0 nb++out.reverse).toList:=by
 refine Gd.rv ?_
 rw [R9,R9] at h
 have e:(a.extract 0 na++b.extract 0 nb++out.reverse).toList.reverse=out.toList++(b.toList.take nb).reverse++(a.toList.take na).reverse:=by
  simp [List.extract_eq_take_drop]
 rw [e]; exact h
theorem dE {a b out:Array Keyed} {na nb:Nat} (m:Mg (rn rk) (rv a++rv b) out.toList ((rv a).drop (a.size-na)) ((rv b).drop (b.size-nb))) (ub:upL rk b.toList) (h:na=0):Gd rk (a.toList++b.toList) (a.extract 0 na++b.extract 0 nb++out.reverse).toList:=by
 refine iW ?_
 have e:(rv a).drop (a.size-na) = []:=List.drop_eq_nil_of_le (by simp; omega)
 rw [e] at m ⊢
 exact m.finB .nil (B3 (bu ub) _) fun x hx y hy=>nomatch hy
theorem AF {a b out:Array Keyed} {na nb:Nat} (m:Mg (rn rk) (rv a++rv b) out.toList ((rv a).drop (a.size-na)) ((rv b).drop (b.size-nb))) (ua:upL rk a.toList) (h:nb=0):Gd rk (a.toList++b.toList) (a.extract 0 na++b.extract 0 nb++out.reverse).toList:=by
 refine iW ?_
 have e:(rv b).drop (b.size-nb) = []:=List.drop_eq_nil_of_le (by simp; omega)
 rw [e] at m ⊢
 exact m.finB (B3 (bu ua) _) .nil fun x hx y hy=>nomatch hx
theorem dD {a b out:Array Keyed} {na nb:Nat} (m:Mg (rn rk) (rv a++rv b) out.toList ((rv a).drop (a.size-na)) ((rv b).drop (b.size-nb))) (ua:upL rk a.toList) (ub:upL rk b.toList) (hf:∀ x∈a.toList,kk rk b 0<=rk x) (hn:nb<=b.size) (h:nb=1):Gd rk (a.toList++b.toList) (b.extract 0 nb++a.extract 0 na++out.reverse).toList:=by
 refine Gd.rv ?_
 have e:(b.extract 0 nb++a.extract 0 na++out.reverse).toList.reverse=out.toList++(rv a).drop (a.size-na)++(rv b).drop (b.size-nb):=by
  rw [R9,R9]
  simp [List.extract_eq_take_drop]
 rw [e]
 refine m.fin (B3 (bu ua) _) (B3 (bu ub) _) fun x hx y hy=>?_
 have h1:=hf x (List.mem_reverse.mp (List.mem_of_mem_drop hx))
 have h2:=Z8 ub hn hy
 rw [h] at h2
 show -_ <= -_
 have h2:rk y<=kk rk b 0:=h2
 omega
structure Jh (rk:Keyed->Int) (a b:Array Keyed) (out:Array Keyed) (na nb:Nat):Prop where
 mg:Mg (rn rk) (rv a++rv b) out.toList ((rv a).drop (a.size-na)) ((rv b).drop (b.size-nb))
 ha:0<na
 hb:1<nb
 la:na<=a.size
 lb:nb<=b.size
theorem kJ {st:SortSt} {a b:Array Keyed} {Q:Array Keyed->SortSt->Prop} (hc:Cmp prog w A s κ rk a₀) (hk:kindOf st=κ) (ha:∀ x∈a.toList,x∈a₀) (hb:∀ x∈b.toList,x∈a₀) (ua:upL rk a.toList) (ub:upL rk b.toList)
  (Iy:0<a.size) (IY:0<b.size) (hf:∀ x∈a.toList,kk rk b 0<=rk x) (hl:∀ x∈b.toList,rk x<=kk rk a (a.size-1))
  (h:∀ res g,Gd rk (a.toList++b.toList) res.toList->Q res (gS st g)):wpS (model prog w) A E s (rF a b) Q st:=by
 have uA:=bu ua
 have uB:=bu ub
 refine wpS_bind (wpS_lift (wpAny_rule ⟨rfl,?_⟩))
 refine L5 (a:=a) (i:=a.size-1) (by omega) fun y0 hy0 JP HZ=>?_
 refine wpS_bind (k6 JP ?_)
 dsimp (zeta:=false) only
 have FK:∀ {out:Array Keyed} {na nb:Nat} {x:Keyed},Mg (rn rk) (rv a++rv b) out.toList ((rv a).drop (a.size-na)) ((rv b).drop (b.size-nb))->0<na->na<=a.size->nb<=b.size->a.toList[na-1]?=some x->(∀ y∈(rv b).drop (b.size-nb),rk y<=rk x) ->
   Mg (rn rk) (rv a++rv b) (out.push x).toList ((rv a).drop (a.size-(na-1))) ((rv b).drop (b.size-nb)):=fun {out na nb x} m h1 h2 h3 lx hle=>by
  have:=m.pa uA (tq h1 h2 lx) fun y hy=>by show -_ <= -_; have:=hle y hy; omega
  rw [Array.toList_push,sb1 h1 h2]
  exact this
 have Gh:∀ {out:Array Keyed} {na nb:Nat} {x:Keyed},Mg (rn rk) (rv a++rv b) out.toList ((rv a).drop (a.size-na)) ((rv b).drop (b.size-nb))->0<nb->nb<=b.size->b.toList[nb-1]?=some x->(∀ y∈(rv a).drop (a.size-na),rk y<=rk x) ->
   Mg (rn rk) (rv a++rv b) (out.push x).toList ((rv a).drop (a.size-na)) ((rv b).drop (b.size-(nb-1))):=fun {out na nb x} m h1 h2 lx hle=>by
  have:=m.pb uB (tq h1 h2 lx) fun y hy=>by show -_ <= -_; have:=hle y hy; omega
  rw [Array.toList_push,sb1 h1 h2]
  exact this
 have m0:Mg (rn rk) (rv a++rv b) #[y0].toList ((rv a).drop (a.size-(a.size-1))) ((rv b).drop (b.size-b.size)):=by
  have m:Mg (rn rk) (rv a++rv b) (#[]:Array Keyed).toList ((rv a).drop (a.size-a.size)) ((rv b).drop (b.size-b.size)):=⟨by simp,.nil,fun x hx=>nomatch hx⟩
  exact FK m Iy (Nat.le_refl _) (Nat.le_refl _) HZ fun y hy=>by
   rw [<- o6 (rk:=rk) HZ]; exact hl y (List.mem_reverse.mp (List.mem_of_mem_drop hy))
 refine E4 (fun c1=>wpS_pure (h _ (gallopOf st) (dE m0 ub c1))) fun c1=>?_
 by_cases c2:b.size=1
 ·rw [if_pos (by simpa using c2)]
  exact wpS_pure (h _ (gallopOf st) (dD m0 ua ub hf (Nat.le_refl _) c2))
 rw [if_neg (by simpa using c2)]
 refine wpS_bind (wpS_get ?_)
 have j0:Jh rk a b #[y0] (a.size-1) b.size:=⟨m0,by omega,by omega,by omega,by omega⟩
 refine wpS_bind (wpS_mono (wpS_forRange (fun x c EK=>∃ out na nb g g',c=(none,na,nb,out,g)/\EK=gS st g'/\Jh rk a b out na nb/\na+nb+x<=a.size+b.size)
  (Q:=fun c EK=>∃ res g,c.1=some res/\EK=gS st g/\Gd rk (a.toList++b.toList) res.toList) ?step ?fin ⟨_,_,_,_,gallopOf st,rfl,rfl,j0,by omega⟩) ?post)
 case fin=>
  rintro c EK ⟨out,na,nb,g,g',rfl,rfl,j,hm⟩
  have:=j.ha
  omega
 case post=>
  rintro ⟨c1,c2⟩ EK ⟨res,g,e,rfl,hg⟩
  cases e
  exact wpS_pure (h res g hg)
 case step=>
  intro x c EK _ _ hI
  refine mm (c:=c) (t:=EK) hI fun out na nb g g' jm=>?_
  have j:=jm.1
  have hm:=jm.2
  clear hI jm c EK
  clear c1 c2 j0 m0
  dsimp (zeta:=false) only
  refine wpS_bind (wpS_mono (wpS_forRange (fun y c EK=>∃ out na nb ac bc,c=(none,na,nb,out,ac,bc)/\EK=gS st g'/\Jh rk a b out na nb/\na+nb+x+min y 1<=a.size+b.size)
   (Q:=fun c EK=>EK=gS st g'/\((∃ res,c.1=some res/\Gd rk (a.toList++b.toList) res.toList)\/∃ out na nb ac bc,c=(none,na,nb,out,ac,bc)/\Jh rk a b out na nb/\na+nb+x+1<=a.size+b.size)) ?istep ?ifin ⟨out,na,nb,0,0,rfl,rfl,j,by omega⟩) ?ipost)
  case ifin=>
   rintro c EK ⟨out,na,nb,ac,bc,rfl,rfl,j,hm⟩
   have:=j.ha
   exact ⟨rfl,.inr ⟨_,_,_,_,_,rfl,j,by omega⟩⟩
  case istep=>
   clear j hm
   intro y c EK _ _ hI
   refine mm (c:=c) (t:=EK) hI fun out na nb ac bc jm=>?_
   have j:=jm.1
   have hm:=jm.2
   clear hI jm c EK
   dsimp only
   have GQ:=j.ha
   have GE:=j.hb
   have Ge:=j.la
   have FU:=j.lb
   refine L5 (a:=b) (i:=nb-1) (by omega) fun u hu eu lu=>?_
   refine L5 (a:=a) (i:=na-1) (by omega) fun v hv ev lv=>?_
   refine wpS_bind (k6 eu (wpS_bind (k6 ev (wpS_bind (cS hc (hb u hu) (ha v hv) hk ?_)))))
   dsimp only
   refine O8 (fun q=>?_) fun q=>?_
   ·skip
    refine wpS_bind (k6 ev ?_)
    have m:=FK j.mg GQ Ge FU lv fun z hz=>by
     have:=Z8 ub FU hz
     rw [o6 (rk:=rk) lu] at this
     omega
    refine E4 (fun c=>wpS_pure ⟨rfl,.inl ⟨_,rfl,dE m ub c⟩⟩) fun c=>?_
    ·skip
     have j2:Jh rk a b (out.push v) (na-1) nb:=⟨m,by omega,GE,Nat.le_trans (Nat.sub_le _ _) Ge,FU⟩
     split
     ·exact wpS_pure ⟨rfl,.inr ⟨_,_,_,_,_,rfl,j2,rB hm GQ⟩⟩
     ·exact wpS_pure ⟨_,_,_,_,_,rfl,rfl,j2,ms1 hm GQ⟩
   ·skip
    refine wpS_bind (k6 eu ?_)
    have m:=Gh j.mg (by omega) FU lu fun z hz=>by
     have:=Z8 ua Ge hz
     rw [o6 (rk:=rk) lv] at this
     omega
    refine E4 (fun c=>wpS_pure ⟨rfl,.inl ⟨_,rfl,dD m ua ub hf (by omega) c⟩⟩) fun c=>?_
    ·skip
     have j2:Jh rk a b (out.push u) na (nb-1):=⟨m,GQ,by omega,Ge,Nat.le_trans (Nat.sub_le _ _) FU⟩
     split
     ·exact wpS_pure ⟨rfl,.inr ⟨_,_,_,_,_,rfl,j2,zH hm (Nat.lt_of_succ_lt GE)⟩⟩
     ·exact wpS_pure ⟨_,_,_,_,_,rfl,rfl,j2,ms2 hm (Nat.lt_of_succ_lt GE)⟩
  case ipost=>
   clear j hm
   intro c EK hI
   refine Bu (c:=c) (t:=EK) hI (fun res _ hg=>wpS_pure ⟨res,g',rfl,rfl,hg⟩) fun out na nb ac bc jm=>?_
   have j:=jm.1
   have hm:=jm.2
   clear hI jm c EK
   dsimp (zeta:=false) only
   refine wpS_bind (wpS_lift (wpAny_rule ⟨rfl,?_⟩))
   refine wpS_bind (wpS_mono (wpS_forRange (fun y c EK=>∃ out na nb mg ac bc g,c=(none,na,nb,out,mg,ac,bc)/\EK=gS st g/\Jh rk a b out na nb/\na+nb+x+1<=a.size+b.size)
    (Q:=fun c EK=>∃ g,EK=gS st g/\((∃ res,c.1=some res/\Gd rk (a.toList++b.toList) res.toList)\/∃ out na nb mg ac bc,c=(none,na,nb,out,mg,ac,bc)/\Jh rk a b out na nb/\na+nb+x+1<=a.size+b.size)) ?gstep ?gfin ⟨out,na,nb,_,ac,bc,g',rfl,rfl,j,hm⟩) ?gpost)
   case gfin=>
    rintro c EK ⟨out,na,nb,mg,ac,bc,g,rfl,rfl,j,hm⟩
    exact ⟨g,rfl,.inr ⟨_,_,_,_,_,_,rfl,j,hm⟩⟩
   case gpost=>
    clear j hm
    intro c EK hI
    refine Bv (c:=c) (t:=EK) hI (fun g res _ hg=>wpS_pure ⟨res,g,rfl,rfl,hg⟩) fun g out na nb mg ac bc jm=>?_
    have j:=jm.1
    have hm:=jm.2
    clear hI jm c EK
    try dsimp (zeta:=false) only
    exact wpS_bind (wpS_modify (wpS_pure ⟨_,_,_,_,_,rfl,rfl,j,by omega⟩))
   case gstep=>
    clear j hm
    intro y c EK _ _ hI
    refine Bx (c:=c) (t:=EK) hI fun out na nb mg ac bc g jm=>?_
    have j:=jm.1
    have hm:=jm.2
    clear hI jm c EK
    try dsimp (zeta:=false) only
    have GQ:=j.ha
    have GE:=j.hb
    have Ge:=j.la
    have FU:=j.lb
    refine L5 (a:=b) (i:=nb-1) (by omega) fun u hu eu lu=>?_
    extract_lets s0 o0 s1 i0 s2 i1 s3 m0 s4 a0 b0 ib1 jp mg1
    refine mQ (jp:=jp) fun mg2=>?_
    dsimp (zeta:=false) only [jp]
    clear jp
    subst s0 o0 s1 i0 s2 i1 s3 m0 s4 a0 b0 ib1 mg1
    try dsimp (zeta:=false) only
    refine wpS_bind (wpS_modify ?_)
    refine wpS_bind (k6 eu (wpS_bind (J4 hc hk (hb u hu) (fun i hi=>?ga) (fun i j Fa hj=>bv ua (by omega) (by omega)) (by omega) fun k k1 k2 k3=>?_)))
    case ga=>
     refine L5 (a:=a) (i:=0+i) (by omega) fun v hv ev lv=>?_
     exact ⟨v,ha v hv,ev⟩
    try dsimp (zeta:=false) only
    simp only [Nat.zero_add] at k2 k3
    extract_lets kc acnt jp2 out1 na1
    subst kc acnt out1 na1
    have m1:Mg (rn rk) (rv a++rv b) (out++(a.extract k na).reverse).toList ((rv a).drop (a.size-k)) ((rv b).drop (b.size-nb)):=by
     rw [Array.toList_append,cZ k1 Ge]
     have:a.size-k=a.size-na+(na-k):=sb2 Ge k1
     rw [this]
     refine j.mg.ka uA fun z hz y hy=>?_
     rw [<- cZ k1 Ge] at hz
     have hz:z∈(a.extract k na).toList:=by simpa using hz
     rw [show na=k+(na-k) from (Nat.add_sub_cancel' k1).symm,Y3] at hz
     obtain ⟨i,hi,li⟩:=S0 hz
     have h1:=k3 (k+i) (Nat.le_add_right _ _) (Nat.add_lt_of_lt_sub' hi)
     rw [o6 (rk:=rk) li] at h1
     have h2:=Z8 ub FU hy
     rw [o6 (rk:=rk) lu] at h2
     simp [bey] at h1
     show -_ <= -_
     omega
    have b1:∀ z∈(rv a).drop (a.size-k),rk z<=rk u:=fun z hz=>by
     by_cases c:0<k
     ·have h1:=k2 (k-1) (Nat.sub_lt c (by decide))
      have h2:=Z8 ua (Nat.le_trans k1 Ge) hz
      simp [bey] at h1
      omega
     ·rw [List.drop_eq_nil_of_le (by simp; omega)] at hz; cases hz
    refine mS (fun q=>?e1) (fun _ c=>wpS_pure ⟨_,rfl,.inl ⟨_,rfl,dE m1 ub (by simpa using c)⟩⟩) fun q0=>?_
    case e1=>
     have k0:k=na:=Nat.le_antisymm k1 (Nat.le_of_sub_eq_zero (Nat.eq_zero_of_not_pos q))
     rw [k0,Bm]
    have q1:0<k:=by
     by_cases kz:na-k>0
     ·have:=q0 kz
      simp at this
      omega
     ·omega
    generalize out++(a.extract k na).reverse=out1 at m1 ⊢
    dsimp (zeta:=false) only [jp2]
    clear jp2
    refine wpS_bind (k6 eu ?_)
    extract_lets out3
    have m2:=Gh m1 (Nat.lt_of_succ_lt GE) FU lu b1
    refine E4 (fun c3=>wpS_pure ⟨_,rfl,.inl ⟨_,rfl,dD m2 ua ub hf (by omega) c3⟩⟩) fun c3=>?_
    refine L5 (a:=a) (i:=k-1) (Nat.lt_of_le_of_lt (Nat.sub_le_sub_right (Nat.le_trans k1 Ge) 1) (Nat.sub_lt Iy (by decide))) fun v hv ev lv=>?_
    refine wpS_bind (k6 ev (wpS_bind (J4 hc hk (ha v hv) (fun i hi=>?gb) (fun i j Fa hj=>bv ub (by omega) (by omega)) (by omega) fun l l1 l2 l3=>?_)))
    case gb=>
     refine L5 (a:=b) (i:=0+i) (by omega) fun v hv ev lv=>?_
     exact ⟨v,hb v hv,ev⟩
    try dsimp (zeta:=false) only
    simp only [Nat.zero_add] at l2 l3
    extract_lets lc bcnt jp3 out4 nb4
    subst out3 lc bcnt out4 nb4
    have m3:Mg (rn rk) (rv a++rv b) (out1.push u++(b.extract l (nb-1)).reverse).toList ((rv a).drop (a.size-k)) ((rv b).drop (b.size-l)):=by
     rw [Array.toList_append,cZ l1 (Nat.le_trans (Nat.sub_le _ _) FU)]
     have:b.size-l=b.size-(nb-1)+(nb-1-l):=sb2 (Nat.le_trans (Nat.sub_le _ _) FU) l1
     rw [this]
     refine m2.kb uB fun z hz y hy=>?_
     rw [<- cZ l1 (Nat.le_trans (Nat.sub_le _ _) FU)] at hz
     have hz:z∈(b.extract l (nb-1)).toList:=by simpa using hz
     rw [show nb-1=l+(nb-1-l) from (Nat.add_sub_cancel' l1).symm,Y3] at hz
     obtain ⟨i,hi,li⟩:=S0 hz
     have h1:=l3 (l+i) (Nat.le_add_right _ _) (Nat.add_lt_of_lt_sub' hi)
     rw [o6 (rk:=rk) li] at h1
     have h2:=Z8 ua (Nat.le_trans k1 Ge) hy
     rw [o6 (rk:=rk) lv] at h2
     simp [bey] at h1
     show -_ <= -_
     omega
    have b2:∀ z∈(rv b).drop (b.size-l),rk z<=rk v:=fun z hz=>by
     by_cases c:0<l
     ·have h1:=l2 (l-1) (Nat.sub_lt c (by decide))
      have h2:=Z8 ub (Nat.le_trans l1 (Nat.le_trans (Nat.sub_le _ _) FU)) hz
      simp [bey] at h1
      omega
     ·rw [List.drop_eq_nil_of_le (by simp; omega)] at hz; cases hz
    refine mR (fun q=>?e2) (fun _ c=>wpS_pure ⟨_,rfl,.inl ⟨_,rfl,dD m3 ua ub hf (by omega) (by simpa using c)⟩⟩) (fun _ _ c=>wpS_pure ⟨_,rfl,.inl ⟨_,rfl,AF m3 ua (by simpa using c)⟩⟩) fun q0=>?_
    case e2=>
     have k0:l=nb-1:=Nat.le_antisymm l1 (Nat.le_of_sub_eq_zero (Nat.eq_zero_of_not_pos q))
     rw [k0,Bm]
    have q2:1<l:=by
     by_cases kz:nb-1-l>0
     ·have:=q0 kz
      simp at this
      omega
     ·omega
    generalize out1.push u++(b.extract l (nb-1)).reverse=out2 at m3 ⊢
    dsimp only [jp3]
    clear jp3
    refine wpS_bind (k6 ev ?_)
    try dsimp only
    have hkA:=Nat.le_trans k1 Ge
    have hlB:=Nat.le_trans l1 (Nat.le_trans (Nat.sub_le _ _) FU)
    have m4:=FK m3 q1 hkA hlB lv b2
    refine E4 (fun c4=>wpS_pure ⟨_,rfl,.inl ⟨_,rfl,dE m4 ub c4⟩⟩) fun c4=>?_
    have j4:Jh rk a b (out2.push v) (k-1) l:=⟨m4,by omega,q2,Nat.le_trans (Nat.sub_le _ _) hkA,hlB⟩
    have hm4:k-1+l+x+1<=a.size+b.size:=Nat.le_trans (Nat.succ_le_succ (Nat.add_le_add_right (Nat.add_le_add (Nat.le_trans (Nat.sub_le _ _) k1) (Nat.le_trans l1 (Nat.sub_le _ _))) x)) hm
    split
    ·exact wpS_pure ⟨_,rfl,.inr ⟨_,_,_,_,_,_,rfl,j4,hm4⟩⟩
    ·exact wpS_pure ⟨_,_,_,_,_,_,_,rfl,rfl,j4,hm4⟩
end
section
variable {prog:Program} {w:World} {A:Around} {E:Value->Shared->Prop} {s:Shared} {a₀:Array Keyed} {κ:SortKind} {rk:Keyed->Int}
theorem jG (sa:Nat):∀ (ms:List Keyed) (j:Nat) (arr:Array Keyed),sa+j+ms.length<=arr.size->((ms.zipIdx j).foldl (fun a x=>a.setIfInBounds (sa+x.2) x.1) arr).toList=arr.toList.take (sa+j)++ms++arr.toList.drop (sa+j+ms.length)
 | [],j,arr,_=>by simp
 | m::ms,j,arr,h=>by
  rw [List.zipIdx_cons,List.foldl_cons]
  rw [List.length_cons] at h
  have hj:sa+j<arr.toList.length:=by simp; omega
  rw [jG sa ms (j+1) _ (by simp; omega),Array.toList_setIfInBounds]
  have e1:(arr.toList.set (sa+j) m).take (sa+(j+1))=arr.toList.take (sa+j) ++ [m]:=by
   rw [<- Nat.add_assoc,List.take_succ,List.take_set_of_le (Nat.le_refl _),List.getElem?_set_self hj]; rfl
  rw [e1,List.drop_set_of_lt (by omega),List.length_cons,show sa+(j+1)+ms.length=sa+j+(ms.length+1) by omega]
  simp
abbrev rn_ (L:List Keyed) (i n:Nat):List Keyed:=(L.drop i).take n
theorem Bt {L:List Keyed} {i n m:Nat}:L=L.take i++(rn_ L i n++rn_ L (i+n) m)++L.drop (i+n+m):=by
 have e1:L.drop i=rn_ L i n++L.drop (i+n):=Y4 L i n
 have e2:L.drop (i+n)=rn_ L (i+n) m++L.drop (i+n+m):=Y4 L (i+n) m
 rw [List.append_assoc,List.append_assoc,<- e2,<- e1,List.take_append_drop]
theorem bC {L:List Keyed} {i n j:Nat} (h:j<n):(rn_ L i n)[j]?=L[i+j]?:=by
 rw [List.getElem?_take_of_lt h,List.getElem?_drop]
theorem tu {a:Array Keyed} {i n:Nat} (hu:upL rk (rn_ a.toList i n)) (hn:i+n<=a.size):∀ u v,u<=v->v<n->kk rk a (i+u)<=kk rk a (i+v):=fun u v huv hv=>by
 have h1:u<(rn_ a.toList i n).length:=by simp; omega
 obtain ⟨x,hx,ex,lx⟩:=V2 (a:=a) (i:=i+u) (by omega)
 obtain ⟨y,hy,ey,ly⟩:=V2 (a:=a) (i:=i+v) (by omega)
 rw [W0 ex,W0 ey]
 refine gD hu (i:=u) (by rw [bC (by omega)]; exact lx) y (List.mem_iff_getElem?.mpr ⟨v-u,?_⟩)
 rw [List.getElem?_drop,show u+(v-u)=v by omega,bC hv]; exact ly
theorem ii (L:List Keyed) (i n k:Nat) (h:k<=n):rn_ L i n=rn_ L i k++rn_ L (i+k) (n-k):=by
 unfold rn_
 rw [show n=k+(n-k) from (Nat.add_sub_cancel' h).symm,List.take_add,List.drop_drop,Nat.add_sub_cancel_left]
theorem uf {σ:Type} {M:Model} {x:σ} {Q:PUnit->σ->Prop} {st:σ} (h:Q ⟨⟩ x):wpS M A E s (set x:StateT σ Sem PUnit) Q st:=by
 unfold wpS; rw [StateT.run_set]; exact wpAny_pure ⟨rfl,h⟩
abbrev sS (κ:SortKind) (arr:Array Keyed) (pd:Array (Nat×Nat×Nat)) (g:Nat):SortSt:=SortSt.mk' κ arr pd g none
theorem kK {arr:Array Keyed} {pd:Array (Nat×Nat×Nat)} {g0 i sa na pw sb nb pw2:Nat} {Q:Bool->SortSt->Prop} (hc:Cmp prog w A s κ rk a₀) (Fb:∀ x∈arr.toList,x∈a₀) (e1:pd[i]?=some (sa,na,pw)) (e2:pd[i+1]?=some (sb,nb,pw2))
  (HI:sb=sa+na) (hz:sb+nb<=arr.size) (IL:0<na) (nb0:0<nb) (ux:upL rk (rn_ arr.toList sa na)) (uy:upL rk (rn_ arr.toList sb nb))
  (h:∀ M g,Gd rk (rn_ arr.toList sa na++rn_ arr.toList sb nb) M->Q true (sS κ (arr.toList.take sa++M++arr.toList.drop (sb+nb)).toArray ((pd.setIfInBounds i (sa,na+nb,pw)).eraseIdxIfInBounds (i+1)) g)) :
  wpS (model prog w) A E s (mergeAt' i) Q (sS κ arr pd g0):=by
 refine wpS_bind (wpS_get ?_)
 dsimp only
 rw [e1,e2]
 dsimp only
 refine wpS_bind (uf ?_)
 obtain ⟨u,hu,eu,lu⟩:=V2 (a:=arr) (i:=sb) (by omega)
 have kx:=tu ux (by omega)
 have ky:=tu uy (by omega)
 have ID:∀ g,upL rk (rn_ arr.toList sa na++rn_ arr.toList sb nb)->Q true (sS κ arr ((pd.setIfInBounds i (sa,na+nb,pw)).eraseIdxIfInBounds (i+1)) g):=fun g hu=>by
  have:=h _ g ⟨List.Perm.refl _,hu⟩
  have e:=Bt (L:=arr.toList) (i:=sa) (n:=na) (m:=nb)
  rw [<- HI] at e
  rw [<- e] at this
  exact this
 have mx:∀ {x:Keyed} {i n:Nat},x∈rn_ arr.toList i n->∃ j,j<n/\arr.toList[i+j]?=some x:=fun h=>S0 h
 have Fz:∀ {p q:List Keyed},upL rk p->upL rk q->(∀ x∈p,∀ y∈q,rk x<=rk y)->upL rk (p++q):=fun a b c=>List.pairwise_append.mpr ⟨a,b,c⟩
 refine wpS_bind (k6 eu (wpS_bind (J4 hc rfl (Fb u hu) (fun i hi=>?ga) kx IL fun k k1 k2 k3=>?_)))
 case ga=>
  obtain ⟨v,hv,ev,lv⟩:=V2 (a:=arr) (i:=sa+i) (by omega)
  exact ⟨v,Fb v hv,ev⟩
 dsimp only
 have FI:∀ y∈rn_ arr.toList sb nb,rk u<=rk y:=fun y hy=>by
  obtain ⟨j,hj,lj⟩:=mx hy
  have:=ky 0 j (by omega) hj
  rw [Nat.add_zero,o6 (rk:=rk) lu,o6 (rk:=rk) lj] at this
  exact this
 by_cases c1:na-k=0
 ·rw [if_pos (by simpa using c1)]
  refine wpS_pure (ID _ (Fz ux uy fun x hx y hy=>?_))
  obtain ⟨j,hj,lj⟩:=mx hx
  have h1:=k2 j (by omega)
  rw [o6 (rk:=rk) lj] at h1
  have h2:=FI y hy
  simp [bey] at h1
  omega
 rw [if_neg (by simpa using c1)]
 rw [show sa+k+(na-k)-1=sa+na-1 by rw [Nat.add_assoc,Nat.add_sub_cancel' k1]]
 obtain ⟨v,hv,ev,lv⟩:=V2 (a:=arr) (i:=sa+na-1) (Nat.lt_of_lt_of_le (Nat.sub_lt (Nat.lt_of_lt_of_le IL (Nat.le_add_left _ _)) (by decide)) (Nat.le_trans (Nat.le_of_eq HI.symm) (Nat.le_trans (Nat.le_add_right _ _) hz)))
 refine wpS_bind (k6 ev (wpS_bind (J4 hc rfl (Fb v hv) (fun i hi=>?gb) ky (by omega) fun l l1 l2 l3=>?_)))
 case gb=>
  obtain ⟨v,hv,ev,lv⟩:=V2 (a:=arr) (i:=sb+i) (by omega)
  exact ⟨v,Fb v hv,ev⟩
 dsimp only
 have xlast:∀ x∈rn_ arr.toList sa na,rk x<=rk v:=fun x hx=>by
  obtain ⟨j,hj,lj⟩:=mx hx
  have:=kx j (na-1) (Nat.le_pred_of_lt hj) (Nat.sub_lt IL (by decide))
  rw [sb5 IL,o6 (rk:=rk) lv,o6 (rk:=rk) lj] at this
  exact this
 by_cases c2:l=0
 ·rw [if_pos (by simpa using c2)]
  refine wpS_pure (ID _ (Fz ux uy fun x hx y hy=>?_))
  obtain ⟨j,hj,lj⟩:=mx hy
  have h1:=l3 j (by omega) (by omega)
  rw [o6 (rk:=rk) lj] at h1
  have h2:=xlast x hx
  simp [bey] at h1
  omega
 rw [if_neg (by simpa using c2)]
 have sx:=ii arr.toList sa na k k1
 have sy:=ii arr.toList sb nb l l1
 have ex:(arr.extract (sa+k) sb).toList=rn_ arr.toList (sa+k) (na-k):=by
  rw [show sb=sa+k+(na-k) by rw [Nat.add_assoc,Nat.add_sub_cancel' k1]; exact HI,Y3]
 have ey:(arr.extract sb (sb+l)).toList=rn_ arr.toList sb l:=Y3 _ _ _
 have zx:(arr.extract (sa+k) sb).size=na-k:=by rw [Array.size_extract,Nat.min_eq_left (Nat.le_trans (Nat.le_add_right _ _) hz),HI,Nat.add_sub_add_left]
 have zy:(arr.extract sb (sb+l)).size=l:=by rw [Array.size_extract,Nat.min_eq_left (Nat.le_trans (Nat.add_le_add_left l1 sb) hz),Nat.add_sub_cancel_left]
 rw [sx] at ux xlast
 rw [sy] at uy FI
 have IF:=(List.pairwise_append.mp ux)
 have IE:=(List.pairwise_append.mp uy)
 have k0x:kk rk (arr.extract (sa+k) sb) ((arr.extract (sa+k) sb).size-1)=rk v:=by
  refine o6 ?_
  rw [ex,zx,bC (Nat.sub_lt (Nat.pos_of_ne_zero c1) (by decide)),sb5 (Nat.pos_of_ne_zero c1),Nat.add_assoc,Nat.add_sub_cancel' k1]; exact lv
 have k0y:kk rk (arr.extract sb (sb+l)) 0=rk u:=by
  refine o6 ?_
  rw [ey,bC (Nat.pos_of_ne_zero c2)]; exact lu
 have p1:∀ x∈(arr.extract (sa+k) sb).toList,kk rk (arr.extract sb (sb+l)) 0<=rk x:=fun x hx=>by
  rw [k0y]
  rw [ex] at hx
  obtain ⟨j,hj,lj⟩:=mx hx
  have h1:=k3 (k+j) (by omega) (by omega)
  rw [<- Nat.add_assoc,o6 (rk:=rk) lj] at h1
  simp [bey] at h1
  omega
 have p2:∀ x∈(arr.extract sb (sb+l)).toList,rk x<=kk rk (arr.extract (sa+k) sb) ((arr.extract (sa+k) sb).size-1):=fun x hx=>by
  rw [k0x]
  rw [ey] at hx
  obtain ⟨j,hj,lj⟩:=mx hx
  have h1:=l2 j hj
  rw [o6 (rk:=rk) lj] at h1
  simp [bey] at h1
  omega
 have i1:∀ x∈(arr.extract (sa+k) sb).toList,x∈a₀:=fun x hx=>by
  rw [ex] at hx; exact Fb x (List.mem_of_mem_drop (List.mem_of_mem_take hx))
 have i2:∀ x∈(arr.extract sb (sb+l)).toList,x∈a₀:=fun x hx=>by
  rw [ey] at hx; exact Fb x (List.mem_of_mem_drop (List.mem_of_mem_take hx))
 have fin:∀ (res:Array Keyed) (g:Nat),Gd rk ((arr.extract (sa+k) sb).toList++(arr.extract sb (sb+l)).toList) res.toList->Q true (sS κ (res.toList.zipIdx.foldl (fun a x=>a.setIfInBounds (sa+k+x.2) x.1) arr) ((pd.setIfInBounds i (sa,na+nb,pw)).eraseIdxIfInBounds (i+1)) g):=fun res g hg=>by
  have hlen:res.toList.length=(na-k)+l:=by
   rw [hg.1.length_eq,List.length_append,Array.length_toList,Array.length_toList,zx,zy]
  have e:=jG (sa+k) res.toList 0 arr (by omega)
  rw [hlen,Nat.add_zero] at e
  have e':res.toList.zipIdx.foldl (fun a x=>a.setIfInBounds (sa+k+x.2) x.1) arr=(arr.toList.take sa++(rn_ arr.toList sa k++res.toList++rn_ arr.toList (sb+l) (nb-l))++arr.toList.drop (sb+nb)).toArray:=by
   apply Array.toList_inj.mp
   rw [e]
   have t1:arr.toList.take (sa+k)=arr.toList.take sa++rn_ arr.toList sa k:=List.take_add
   have t2:arr.toList.drop (sb+l)=rn_ arr.toList (sb+l) (nb-l)++arr.toList.drop (sb+l+(nb-l)):=Y4 _ _ _
   rw [t1,show sa+k+(na-k+l)=sb+l by rw [<- Nat.add_assoc,Nat.add_assoc sa,Nat.add_sub_cancel' k1,HI],t2,show sb+l+(nb-l)=sb+nb by rw [Nat.add_assoc,Nat.add_sub_cancel' l1]]
   simp
  rw [e']
  refine h _ g ⟨?_,?_⟩
  ·rw [sx,sy]
   have:=hg.1
   rw [ex,ey] at this
   rw [List.append_assoc,List.append_assoc (rn_ arr.toList sa k)]
   refine List.Perm.append_left _ ?_
   rw [<- List.append_assoc]
   exact List.Perm.append_right _ this
  ·have hm:∀ x∈res.toList,x∈rn_ arr.toList (sa+k) (na-k)\/x∈rn_ arr.toList sb l:=fun x hx=>by
    have:=hg.1.mem_iff.mp hx
    rw [ex,ey] at this
    exact List.mem_append.mp this
   refine Fz (Fz IF.1 hg.2 fun x hx y hy=>?_) IE.2.1 fun x hx y hy=>?_
   ·rcases hm y hy with q | q
    ·exact IF.2.2 x hx y q
    ·obtain ⟨j,hj,lj⟩:=mx hx
     have h1:=k2 j hj
     rw [o6 (rk:=rk) lj] at h1
     have h2:=FI y (List.mem_append_left _ q)
     simp [bey] at h1
     omega
   ·have IN:∀ z,z∈rn_ arr.toList sa k++rn_ arr.toList (sa+k) (na-k)->rk z<=rk y:=fun z hz=>by
     obtain ⟨j,hj,lj⟩:=mx hy
     have h1:=l3 (l+j) (Nat.le_add_right _ _) (Nat.add_lt_of_lt_sub' hj)
     rw [<- Nat.add_assoc,o6 (rk:=rk) lj] at h1
     have h2:=xlast z hz
     simp [bey] at h1
     omega
    rcases List.mem_append.mp hx with q | q
    ·exact IN x (List.mem_append_left _ q)
    ·rcases hm x q with r | r
     ·exact IN x (List.mem_append_right _ r)
     ·exact IE.2.2 x r y hy
 by_cases c3:na-k<=l
 ·rw [if_pos c3]
  refine wpS_bind (kI hc rfl i1 i2 (by rw [ex]; exact IF.2.1) (by rw [ey]; exact IE.1) (by omega) (by omega) p1 p2 fun res g hg=>?_)
  refine wpS_bind (wpS_modify (wpS_bind (wpS_get (wpS_pure (fin res g hg)))))
 ·rw [if_neg c3]
  refine wpS_bind (kJ hc rfl i1 i2 (by rw [ex]; exact IF.2.1) (by rw [ey]; exact IE.1) (by omega) (by omega) p1 p2 fun res g hg=>?_)
  refine wpS_bind (wpS_modify (wpS_bind (wpS_get (wpS_pure (fin res g hg)))))
end
section
variable {prog:Program} {w:World} {A:Around} {E:Value->Shared->Prop} {s:Shared} {a₀:Array Keyed} {κ:SortKind} {rk:Keyed->Int} {arr:Array Keyed} {pd:Array (Nat×Nat×Nat)} {g lo:Nat}
theorem iT {xs:Array Keyed} {i j:Nat} (hj:j<=xs.size) (k:Nat):kk rk (mirror xs i j ((j-i)/2)) k=if i<=k/\k<j then kk rk xs (i+j-1-k) else kk rk xs k:=by
 have e:=getElem?_mirror_all (i:=i) hj k
 split
 ·rename_i h; rw [if_pos h] at e; exact dB e
 ·rename_i h; rw [if_neg h] at e; exact dB e
theorem fb {xs:Array Keyed} {i j:Nat} (hj:j<=xs.size) (heq:∀ k,i<=k->k<j->kk rk xs k=kk rk xs (j-1)) (k:Nat):kk rk (mirror xs i j ((j-i)/2)) k=kk rk xs k:=by
 rw [iT hj]
 by_cases c:i<=k/\k<j
 ·rw [if_pos c,heq _ (zJ c).1 (zJ c).2,heq k c.1 c.2]
 ·rw [if_neg c]
theorem zP {xs:Array Keyed} {src d:Nat} (hs:src<xs.size) (hd:d<=src) (k:Nat):kk rk (bubble xs src d) k=if k=src-d then kk rk xs src else if src-d<k/\k<=src then kk rk xs (k-1) else kk rk xs k:=by
 have e:=getElem?_bubble hs d hd k
 split
 ·rename_i h; rw [if_pos h] at e; exact dB e
 ·rename_i h
  rw [if_neg h] at e
  split
  ·rename_i h2; rw [if_pos h2] at e; exact dB e
  ·rename_i h2; rw [if_neg h2] at e; exact dB e
structure Rl (lo:Nat) (arr EV:Array Keyed):Prop where
 perm:EV.toList.Perm arr.toList
 same:∀ k,k<lo->EV[k]?=arr[k]?
theorem Rl.refl:Rl lo arr arr:=⟨.refl _,fun _ _=>rfl⟩
theorem Rl.trans {a b c:Array Keyed} (h1:Rl lo a b) (h2:Rl lo b c):Rl lo a c:=⟨h2.perm.trans h1.perm,fun k hk=>(h2.same k hk).trans (h1.same k hk)⟩
theorem Rl.size {a b:Array Keyed} (h:Rl lo a b):b.size=a.size:=by
 have:=h.perm.length_eq
 simpa using this
theorem Rl.mem {a b:Array Keyed} (h:Rl lo a b) (Fb:∀ x∈a.toList,x∈a₀):∀ x∈b.toList,x∈a₀:=fun x hx=>Fb x (h.perm.mem_iff.mp hx)
theorem Rl.mir {i j:Nat} (hi:lo<=i) (hj:j<=arr.size):Rl lo arr (mirror arr i j ((j-i)/2)):=⟨Array.perm_iff_toList_perm.mp (mirror_perm _ _ _ _),fun k hk=>by
 rw [getElem?_mirror_all hj,if_neg (by omega)]⟩
theorem Rl.bub {src d:Nat} (hs:src<arr.size) (hd:lo+d<=src):Rl lo arr (bubble arr src d):=⟨Array.perm_iff_toList_perm.mp (bubble_perm _ _ _),fun k hk=>by
 rw [getElem?_bubble hs d (by omega),if_neg (by omega),if_neg (by omega)]⟩
def upA (rk:Keyed->Int) (xs:Array Keyed) (lo m:Nat):Prop:=∀ i j,i<=j->j<m->kk rk xs (lo+i)<=kk rk xs (lo+j)
def dnA (rk:Keyed->Int) (xs:Array Keyed) (lo m:Nat):Prop:=∀ i j,i<=j->j<m->kk rk xs (lo+j)<=kk rk xs (lo+i)
theorem R7 {i j:Nat} {Q:Option Bool->SortSt->Prop} (hc:Cmp prog w A s κ rk a₀) (Fb:∀ x∈arr.toList,x∈a₀) (hi:i<arr.size) (hj:j<arr.size) (h:Q (some (decide (kk rk arr i<kk rk arr j))) (sS κ arr pd g)):wpS (model prog w) A E s (ltAt' i j) Q (sS κ arr pd g):=by
 obtain ⟨x,hx,ex,lx⟩:=V2 hi
 obtain ⟨y,hy,ey,ly⟩:=V2 hj
 rw [W0 ex,W0 ey] at h
 rw [ltAt'_eq]
 exact wpS_bind (wpS_get (wpS_bind (k6 ex (wpS_bind (k6 ey (cS hc (Fb x hx) (Fb y hy) rfl h))))))
theorem ng {m:Nat} (h:upA rk arr lo m) (hm:¬ kk rk arr (lo+m)<kk rk arr (lo+m-1)) (h0:0<m):upA rk arr lo (m+1):=fun i j Fa hj=>by
 by_cases hjx:j<m
 ·exact h i j Fa hjx
 ·have Hv:j=m:=by omega
  subst Hv
  by_cases Fh:i=j
  ·subst Fh; exact Int.le_refl _
  ·have:=h i (j-1) (Nat.le_pred_of_lt (Nat.lt_of_le_of_ne Fa Fh)) (Nat.sub_lt h0 (by decide))
   rw [sb5 h0] at this
   exact Int.le_trans this (Int.not_lt.mp hm)
theorem pX {nrem:Nat} {Q:Option Nat->SortSt->Prop} (hc:Cmp prog w A s κ rk a₀) (Fb:∀ x∈arr.toList,x∈a₀) (h1:1<=nrem) (hz:lo+nrem<=arr.size)
  (h:∀ m EV,Rl lo arr EV->1<=m->m<=nrem->upA rk EV lo m->Q (some m) (sS κ EV pd g)):wpS (model prog w) A E s (countRun' lo nrem) Q (sS κ arr pd g):=by
 refine wpS_bind (wpS_mono (wpS_forRange (fun x c EK=>EK=sS κ arr pd g/\c=(none,x)/\upA rk arr lo x)
  (Q:=fun c EK=>EK=sS κ arr pd g/\∃ n,c=(none,n)/\1<=n/\n<=nrem/\upA rk arr lo n/\(n=nrem\/kk rk arr (lo+n)<kk rk arr (lo+n-1))) ?step ?fin ⟨rfl,rfl,fun i j a b=>by rw [show i=j by omega]; exact Int.le_refl _⟩) ?post)
 case fin=>
  rintro c EK ⟨rfl,rfl,hu⟩
  rw [show max 1 nrem=nrem by omega] at hu ⊢
  exact ⟨rfl,nrem,rfl,h1,Nat.le_refl _,hu,.inl rfl⟩
 case step=>
  rintro x c EK Id hx ⟨rfl,rfl,hu⟩
  dsimp only
  refine wpS_bind (R7 hc Fb (Nat.lt_of_lt_of_le (Nat.add_lt_add_left hx lo) hz) (sb6 Id (Nat.le_trans (Nat.add_le_add_left (Nat.le_of_lt hx) lo) hz)) ?_)
  refine O8 (fun q=>?_) fun q=>?_
  ·skip
   exact wpS_pure ⟨rfl,x,rfl,Id,by omega,hu,.inr q⟩
  ·skip
   exact wpS_pure ⟨rfl,rfl,ng hu q (by omega)⟩
 case post=>
  intro c EK hI
  refine cpsA (c:=c) (t:=EK) hI fun n jn=>?_
  have n1:=jn.1
  have n2:=jn.2.1
  have hu:=jn.2.2.1
  have hor:=jn.2.2.2
  clear hI jn c EK
  dsimp only
  refine E4 (fun cn=>wpS_pure (h n arr .refl n1 n2 hu)) fun cn=>?_
  have Fe:=hor.resolve_left cn
  refine mP (fun EK=>∃ EO,EK=sS κ EO pd g/\Rl lo arr EO/\dnA rk EO lo (n+1)) ?key (fun cg key=>?pos) (fun cg=>⟨arr,rfl,.refl,?neg⟩)
  case pos=>
   refine wpS_bind (R7 hc Fb (by omega) (by omega) ?_)
   refine O8 (fun q=>wpS_pure (h n arr .refl n1 n2 hu)) fun q=>?_
   have EN:∀ k,lo<=k->k<lo+n->kk rk arr k=kk rk arr (lo+n-1):=fun k a b=>by
    have a1:=hu 0 (k-lo) (Nat.zero_le _) (Nat.sub_lt_left_of_lt_add a b)
    have a2:=hu (k-lo) (n-1) (Nat.le_pred_of_lt (Nat.sub_lt_left_of_lt_add a b)) (Nat.sub_lt n1 (by decide))
    rw [Nat.add_sub_cancel' a] at a1 a2
    rw [sb5 n1] at a2
    rw [Nat.add_zero] at a1
    omega
   refine wpS_bind (wpS_modify ?_)
   have kE:=fb (rk:=rk) (xs:=arr) (i:=lo) (j:=lo+n) (by omega) EN
   refine key _ ⟨mirror arr lo (lo+n) ((lo+n-lo)/2),rfl,Rl.mir (Nat.le_refl _) (by omega),fun i j Fa hj=>?_⟩
   rw [kE,kE]
   by_cases hjn:j<n
   ·rw [EN (lo+i) (by omega) (by omega),EN (lo+j) (by omega) (by omega)]; exact Int.le_refl _
   ·have Hv:j=n:=by omega
    subst Hv
    by_cases Fh:i=j
    ·subst Fh; exact Int.le_refl _
    ·rw [EN (lo+i) (by omega) (by omega)]; exact Int.le_of_lt Fe
  case neg=>
   intro i j Fa hj
   by_cases Fh:i=j
   ·subst Fh; exact Int.le_refl _
   ·have hi0:i=0:=by omega
    have hj1:j=n:=by omega
    subst hi0; subst hj1
    rw [show lo+j-1=lo+0 by omega] at Fe
    exact Int.le_of_lt Fe
  intro EK hI
  refine Bw (t:=EK) hI fun EO jn=>?_
  have r1:=jn.1
  have d1:=jn.2
  clear hI jn EK
  refine wpS_bind (wpS_lift (wpAny_rule ⟨rfl,?_⟩))
  have z1:EO.size=arr.size:=r1.size
  refine wpS_bind (wpS_mono (wpS_forRange (fun x c EK=>∃ EM Fs,EK=sS κ EM pd g/\c=(none,x,Fs)/\Rl lo arr EM/\dnA rk EM lo x/\Fs+1<=x/\∀ i,x-(Fs+1)<=i->i<x->kk rk EM (lo+i)=kk rk EM (lo+x-1))
   (Q:=fun c EK=>∃ EM m Fs,EK=sS κ EM pd g/\c=(none,m,Fs)/\n+1<=m/\m<=nrem/\Rl lo arr EM/\dnA rk EM lo m/\Fs+1<=m/\∀ i,m-(Fs+1)<=i->i<m->kk rk EM (lo+i)=kk rk EM (lo+m-1)) ?dstep ?dfin ⟨EO,0,rfl,rfl,r1,d1,by omega,fun i a b=>by congr 1; omega⟩) ?dpost)
  case dfin=>
   rintro c EK ⟨EM,Fs,rfl,rfl,r2,d2,q2,e2⟩
   rw [show max (n+1) nrem=nrem by omega] at d2 q2 e2 ⊢
   exact ⟨EM,nrem,Fs,rfl,rfl,by omega,Nat.le_refl _,r2,d2,q2,e2⟩
  case dstep=>
   intro x c EK Id hx hI
   refine cpsC (c:=c) (t:=EK) hI fun EM Fs jn=>?_
   have r2:=jn.1
   have d2:=jn.2.1
   have q2:=jn.2.2.1
   have e2:=jn.2.2.2
   clear hI jn c EK
   dsimp only
   have z2:=r2.size
   have FW:=r2.mem Fb
   have HS:∀ k,lo+x-(Fs+1)<=k->k<lo+x->kk rk EM k=kk rk EM (lo+x-1):=fun k a b=>by
    have:=e2 (k-lo) (sb3 q2 a) (Nat.sub_lt_left_of_lt_add (Nat.le_trans (by rw [Nat.add_sub_assoc q2]; exact Nat.le_add_right _ _) a) b)
    rw [sb4 q2 a] at this; exact this
   refine wpS_bind (R7 hc FW (by omega) (by omega) ?_)
   refine O8 (fun q=>?_) fun q=>?_
   ·skip
    have GM:∀ xs:Array Keyed,(∀ k,kk rk xs k=kk rk EM k)->dnA rk xs lo (x+1):=by
     intro xs hk i j Fa hj
     rw [hk,hk]
     by_cases hjx:j<x
     ·exact d2 i j Fa hjx
     ·have Hv:j=x:=by omega
      subst Hv
      by_cases Fh:i=j
      ·subst Fh; exact Int.le_refl _
      ·have:=d2 i (j-1) (by omega) (by omega)
       rw [sb5 (by omega)] at this
       omega
    by_cases hneq:Fs>0
    ·rw [if_pos hneq]
     refine wpS_bind (wpS_modify (wpS_pure ⟨mirror EM (lo+x-(Fs+1)) (lo+x) ((lo+x-(lo+x-(Fs+1)))/2),0,rfl,rfl,r2.trans (Rl.mir (arr:=EM) (by omega) (by omega)),GM _ (fb (xs:=EM) (by omega) HS),by omega,fun i a b=>by congr 1; omega⟩))
    ·rw [if_neg hneq]
     exact wpS_pure ⟨_,0,rfl,rfl,r2,GM _ (fun _=>rfl),by omega,fun i a b=>by congr 1; omega⟩
   ·skip
    refine wpS_bind (R7 hc FW (by omega) (by omega) ?_)
    refine O8 (fun q'=>?_) fun q'=>?_
    ·skip
     exact wpS_pure ⟨EM,x,Fs,rfl,rfl,Id,by omega,r2,d2,q2,e2⟩
    ·skip
     have heqx:kk rk EM (lo+x)=kk rk EM (lo+x-1):=by omega
     refine wpS_pure ⟨EM,Fs+1,rfl,rfl,r2,fun i j Fa hj=>?_,by omega,fun i a b=>?_⟩
     ·by_cases hjx:j<x
      ·exact d2 i j Fa hjx
      ·have Hv:j=x:=by omega
       subst Hv
       by_cases Fh:i=j
       ·subst Fh; exact Int.le_refl _
       ·have:=d2 i (j-1) (by omega) (by omega)
        rw [sb5 (by omega)] at this
        omega
     ·rw [show lo+(x+1)-1=lo+x by omega]
      by_cases hix:i=x
      ·subst hix; rfl
      ·rw [heqx]; exact e2 i (by omega) (by omega)
  case dpost=>
   intro c EK hI
   refine cpsD (c:=c) (t:=EK) hI fun EM m Fs jn=>?_
   have m1:=jn.1
   have m2:=jn.2.1
   have r2:=jn.2.2.1
   have d2:=jn.2.2.2.1
   have q2:=jn.2.2.2.2.1
   have e2:=jn.2.2.2.2.2
   clear hI jn c EK
   dsimp only
   have z2:=r2.size
   have HS:∀ k,lo+m-(Fs+1)<=k->k<lo+m->kk rk EM k=kk rk EM (lo+m-1):=fun k a b=>by
    have:=e2 (k-lo) (sb3 q2 a) (Nat.sub_lt_left_of_lt_add (Nat.le_trans (by rw [Nat.add_sub_assoc q2]; exact Nat.le_add_right _ _) a) b)
    rw [sb4 q2 a] at this; exact this
   refine mP (fun EK=>∃ Fm,EK=sS κ Fm pd g/\Rl lo arr Fm/\dnA rk Fm lo m) ?key2 (fun _ key=>?pos2) (fun _=>⟨EM,rfl,r2,d2⟩)
   case pos2=>
    refine wpS_bind (wpS_modify ?_)
    have kE:=fb (rk:=rk) (xs:=EM) (i:=lo+m-(Fs+1)) (j:=lo+m) (by omega) HS
    exact key _ ⟨mirror EM (lo+m-(Fs+1)) (lo+m) ((lo+m-(lo+m-(Fs+1)))/2),rfl,r2.trans (Rl.mir (arr:=EM) (by omega) (by omega)),fun i j Fa hj=>by rw [kE,kE]; exact d2 i j Fa hj⟩
   intro EK hI
   refine Bw (t:=EK) hI fun Fm jn=>?_
   have r3:=jn.1
   have d3:=jn.2
   clear hI jn EK
   have z3:=r3.size
   refine wpS_bind (wpS_modify ?_)
   have r4:Rl lo arr (mirror Fm lo (lo+m) ((lo+m-lo)/2)):=r3.trans (Rl.mir (Nat.le_refl _) (by omega))
   have u4:upA rk (mirror Fm lo (lo+m) ((lo+m-lo)/2)) lo m:=fun i j Fa hj=>by
    rw [iT (by omega),iT (by omega),if_pos (by omega),if_pos (by omega)]
    have:=d3 (m-1-j) (m-1-i) (Nat.sub_le_sub_left Fa _) (Nat.lt_of_le_of_lt (Nat.sub_le _ _) (Nat.sub_lt (Nat.lt_of_le_of_lt (Nat.zero_le j) hj) (by decide)))
    rw [mr1 (Nat.lt_of_le_of_lt Fa hj),mr1 hj]
    exact this
   show wpS _ _ _ _ _ _ (sS κ (mirror Fm lo (lo+m) ((lo+m-lo)/2)) pd g)
   generalize mirror Fm lo (lo+m) ((lo+m-lo)/2)=FC at r4 u4 ⊢
   have z4:=r4.size
   have hin4:=r4.mem Fb
   refine wpS_bind (wpS_mono (wpS_forRange (fun x c EK=>EK=sS κ FC pd g/\c=(none,x)/\upA rk FC lo x)
    (Q:=fun c EK=>EK=sS κ FC pd g/\∃ n,c=(none,n)/\1<=n/\n<=nrem/\upA rk FC lo n) ?ustep ?ufin ⟨rfl,rfl,u4⟩) ?upost)
   case ufin=>
    rintro c EK ⟨rfl,rfl,hu⟩
    rw [show max m nrem=nrem by omega] at hu ⊢
    exact ⟨rfl,nrem,rfl,h1,Nat.le_refl _,hu⟩
   case ustep=>
    rintro x c EK Id hx ⟨rfl,rfl,hu⟩
    dsimp only
    refine wpS_bind (R7 hc hin4 (by omega) (by omega) ?_)
    refine O8 (fun q=>?_) fun q=>?_
    ·skip
     exact wpS_pure ⟨rfl,x,rfl,by omega,by omega,hu⟩
    ·skip
     exact wpS_pure ⟨rfl,rfl,ng hu q (by omega)⟩
   case upost=>
    rintro c EK ⟨rfl,k,rfl,k1,k2,hu⟩
    exact wpS_pure (h k FC r4 k1 k2 hu)
theorem xm {n ok:Nat} {Q:Bool->SortSt->Prop} (hc:Cmp prog w A s κ rk a₀) (Fb:∀ x∈arr.toList,x∈a₀) (hok:ok<=n) (hz:lo+n<=arr.size) (hu:upA rk arr lo ok)
  (h:∀ EV,Rl lo arr EV->upA rk EV lo n->Q true (sS κ EV pd g)):wpS (model prog w) A E s (binarySort' lo n ok) Q (sS κ arr pd g):=by
 refine wpS_bind (wpS_mono (wpS_forRange (fun k c EK=>∃ EO,EK=sS κ EO pd g/\c=(none,())/\Rl lo arr EO/\upA rk EO lo (min k n))
  (Q:=fun c EK=>∃ EO,EK=sS κ EO pd g/\c=(none,())/\Rl lo arr EO/\upA rk EO lo n) ?step ?fin ⟨arr,rfl,rfl,.refl,?init⟩) ?post)
 case init=>
  intro i j Fa hj
  by_cases h1:ok=0
  ·rw [show i=j by omega]; exact Int.le_refl _
  ·exact hu i j Fa (by omega)
 case post=>
  rintro c EK ⟨EO,rfl,rfl,r1,u1⟩
  exact wpS_pure (h EO r1 u1)
 case fin=>
  rintro c EK ⟨EO,rfl,rfl,r1,u1⟩
  rw [show min (max (max ok 1) n) n=n by omega] at u1
  exact ⟨EO,rfl,rfl,r1,u1⟩
 case step=>
  intro k c EK hk1 hk hI
  refine Dq (c:=c) (t:=EK) hI fun EO jn=>?_
  have r1:=jn.1
  have u1:=jn.2
  clear hI jn c EK
  rw [show min k n=k by omega] at u1
  have z1:=r1.size
  have hin1:=r1.mem Fb
  dsimp only
  refine wpS_bind (wpS_mono (wpS_forRange (fun x c EK=>EK=sS κ EO pd g/\∃ l r,c=(none,l,r)/\l<=r/\r<=k/\r-l<=k-x/\(∀ i,i<l->kk rk EO (lo+i)<=kk rk EO (lo+k))/\(∀ i,r<=i->i<k->kk rk EO (lo+k)<kk rk EO (lo+i)))
   (Q:=fun c EK=>EK=sS κ EO pd g/\∃ l r,c=(none,l,r)/\l<=k/\(∀ i,i<l->kk rk EO (lo+i)<=kk rk EO (lo+k))/\(∀ i,l<=i->i<k->kk rk EO (lo+k)<kk rk EO (lo+i))) ?istep ?ifin ⟨rfl,0,k,rfl,by omega,by omega,by omega,fun i hi=>by omega,fun i h1 h2=>by omega⟩) ?ipost)
  case ifin=>
   rintro c EK ⟨rfl,l,r,rfl,GV,HK,hm,GB,GX⟩
   have:l=r:=by omega
   subst this
   exact ⟨rfl,l,l,rfl,HK,GB,GX⟩
  case istep=>
   intro x c EK _ hx hI
   refine Dr (c:=c) (t:=EK) hI fun l r jn=>?_
   have GV:=jn.1
   have HK:=jn.2.1
   have hm:=jn.2.2.1
   have GB:=jn.2.2.2.1
   have GX:=jn.2.2.2.2
   clear hI jn c EK
   dsimp only
   by_cases Fi:l≥r
   ·rw [if_pos Fi]
    have:l=r:=by omega
    subst this
    exact wpS_pure ⟨rfl,l,l,rfl,HK,GB,GX⟩
   ·rw [if_neg Fi]
    refine wpS_bind (R7 hc hin1 (by omega) (by omega) ?_)
    refine O8 (fun Gn=>?_) fun Gn=>?_
    ·skip
     refine wpS_pure ⟨rfl,l,(l+r)/2,rfl,lO GV,Nat.le_of_lt (Nat.lt_of_lt_of_le (gj Fi) HK),xS (lO GV) (gj Fi) hm,GB,fun i h1 h2=>?_⟩
     exact Int.lt_of_lt_of_le Gn (u1 _ _ h1 h2)
    ·skip
     refine wpS_pure ⟨rfl,(l+r)/2+1,r,rfl,gj Fi,HK,xR (lO GV) hm,fun i h1=>?_,GX⟩
     exact Int.le_trans (u1 i ((l+r)/2) (Nat.le_of_lt_succ h1) (Nat.lt_of_lt_of_le (gj Fi) HK)) (Int.not_lt.mp Gn)
  case ipost=>
   rintro c EK ⟨rfl,l,r,rfl,HM,GB,GX⟩
   refine wpS_bind (wpS_modify (wpS_pure ⟨bubble EO (lo+k) (lo+k-(lo+l)),rfl,rfl,r1.trans (Rl.bub (arr:=EO) (by omega) (by omega)),?_⟩))
   rw [show min (k+1) n=k+1 by omega]
   have hlk':lo+l<=lo+k:=Nat.add_le_add_left HM lo
   have GR:lo+k<EO.size:=by omega
   refine BX (f:=fun i=>kk rk EO (lo+i)) HM (fun i=>?_) u1 GB GX
   show kk rk _ (lo+i)=_
   rw [zP GR (Nat.sub_le _ _),Nat.sub_sub_self hlk']
   by_cases c1:i=l
   ·rw [if_pos (by rw [c1]),if_pos c1]
   ·rw [if_neg fun z=>c1 (Nat.add_left_cancel z),if_neg c1]
    by_cases c2:l<i/\i<=k
    ·rw [if_pos ⟨Nat.add_lt_add_left c2.1 lo,Nat.add_le_add_left c2.2 lo⟩,if_pos c2,Nat.add_sub_assoc (Nat.lt_of_le_of_lt (Nat.zero_le l) c2.1)]
    ·rw [if_neg fun z=>c2 ⟨Nat.lt_of_add_lt_add_left z.1,Nat.le_of_add_le_add_left z.2⟩,if_neg c2]
end
section
variable {prog:Program} {w:World} {A:Around} {E:Value->Shared->Prop} {s:Shared} {a₀:Array Keyed} {κ:SortKind} {rk:Keyed->Int} {arr:Array Keyed} {pd:Array (Nat×Nat×Nat)} {g lo:Nat}
def Chn (rk:Keyed->Int) (L:List Keyed):List (Nat×Nat×Nat)->Nat->Nat->Prop
 | [],a,b=>a=b
 | r::rs,a,b=>r.1=a/\0<r.2.1/\upL rk (rn_ L a r.2.1)/\Chn rk L rs (a+r.2.1) b
theorem bi {L:List Keyed}:∀ {rs:List (Nat×Nat×Nat)} {a b:Nat},Chn rk L rs a b->a+rs.length<=b
 | [],a,b,h=>by have h:a=b:=h; simp [h]
 | r::rs,a,b,h=>by
  have:=bi h.2.2.2
  have:=h.2.1
  rw [List.length_cons]; omega
theorem chn_app {L:List Keyed}:∀ {r1 r2:List (Nat×Nat×Nat)} {a c:Nat},Chn rk L (r1++r2) a c↔∃ b,Chn rk L r1 a b/\Chn rk L r2 b c
 | [],r2,a,c=>⟨fun h=>⟨a,rfl,h⟩,fun zz87=>by obtain ⟨b,h1,h2⟩:=zz87; have h1:a=b:=h1; subst h1; exact h2⟩
 | r::r1,r2,a,c=>by
  constructor
  ·rintro ⟨h1,h2,h3,h4⟩
   obtain ⟨b,q1,q2⟩:=chn_app.mp h4
   exact ⟨b,⟨h1,h2,h3,q1⟩,q2⟩
  ·rintro ⟨b,⟨h1,h2,h3,h4⟩,q2⟩
   exact ⟨h1,h2,h3,chn_app.mpr ⟨b,h4,q2⟩⟩
theorem dM {L L':List Keyed}:∀ {rs:List (Nat×Nat×Nat)} {a b:Nat},(∀ i n,a<=i->i+n<=b->rn_ L' i n=rn_ L i n)->Chn rk L rs a b->Chn rk L' rs a b
 | [],a,b,_,h=>h
 | r::rs,a,b,he,h=>by
  have:=bi h.2.2.2
  refine ⟨h.1,h.2.1,?_,dM (fun i n h1 h2=>he i n (by omega) h2) h.2.2.2⟩
  rw [he a r.2.1 (Nat.le_refl _) (by omega)]; exact h.2.2.1
theorem kF {L:List Keyed} {pw:Nat}:∀ {rs:List (Nat×Nat×Nat)} {k a b:Nat},Chn rk L rs a b->Chn rk L (rs.modify k fun r=>(r.1,r.2.1,pw)) a b
 | [],k,a,b,h=>by rw [List.modify_nil]; exact h
 | r::rs,0,a,b,h=>h
 | r::rs,k+1,a,b,h=>by rw [List.modify_succ_cons]; exact ⟨h.1,h.2.1,h.2.2.1,kF h.2.2.2⟩
theorem zn {i:Nat} {x y z:Nat×Nat×Nat} (e1:pd[i]?=some x) (e2:pd[i+1]?=some y):∃ r1 r2,pd.toList=r1++x::y::r2/\((pd.setIfInBounds i z).eraseIdxIfInBounds (i+1)).toList=r1++z::r2:=by
 rw [<- Array.getElem?_toList] at e1 e2
 have hi:=(List.getElem?_eq_some_iff.mp e2).1
 have Gx:i+1<pd.size:=by simpa using hi
 refine ⟨pd.toList.take i,pd.toList.drop (i+2),?_,?_⟩
 ·have t1:pd.toList.drop i=x::pd.toList.drop (i+1):=by
   obtain ⟨h1,h2⟩:=List.getElem?_eq_some_iff.mp e1
   rw [List.drop_eq_getElem_cons h1,h2]
  have t2:pd.toList.drop (i+1)=y::pd.toList.drop (i+2):=by
   obtain ⟨h1,h2⟩:=List.getElem?_eq_some_iff.mp e2
   rw [List.drop_eq_getElem_cons h1,h2]
  rw [<- t2,<- t1,List.take_append_drop]
 ·rw [Array.eraseIdxIfInBounds,dif_pos (by simpa using Gx),Array.toList_eraseIdx,Array.toList_setIfInBounds,List.eraseIdx_eq_take_drop_succ,List.drop_set_of_lt (by omega)]
  have:(pd.toList.set i z).take (i+1)=pd.toList.take i ++ [z]:=by
   rw [List.take_succ,List.take_set_of_le (Nat.le_refl _),List.getElem?_set_self (by omega)]; rfl
  rw [this]; simp
theorem yl {P M S:List Keyed} {n:Nat} (h:M.length=n):rn_ (P++M++S) P.length n=M:=by
 unfold rn_
 rw [List.append_assoc,List.drop_left,<- h,List.take_left]
theorem sZ {i:Nat} {Q:Bool->SortSt->Prop} (hc:Cmp prog w A s κ rk a₀) (Fb:∀ x∈arr.toList,x∈a₀) (C:Chn rk arr.toList pd.toList 0 lo) (GB:lo<=arr.size) (hi:i+1<pd.size)
  (h:∀ EV pd' g',EV.toList.Perm arr.toList->EV.toList.drop lo=arr.toList.drop lo->pd'.size+1=pd.size->Chn rk EV.toList pd'.toList 0 lo->Q true (sS κ EV pd' g')):wpS (model prog w) A E s (mergeAt' i) Q (sS κ arr pd g):=by
 obtain ⟨⟨sa,na,pw⟩,ex⟩:∃ x,pd[i]?=some x:=⟨pd[i],by simp⟩
 obtain ⟨⟨sb,nb,pw2⟩,ey⟩:∃ y,pd[i+1]?=some y:=⟨pd[i+1],by simp⟩
 obtain ⟨r1,r2,el,em⟩:=zn (z:=(sa,na+nb,pw)) ex ey
 rw [el] at C
 obtain ⟨b1,C1,Gz,Jz,u1,Gk,Hq,u2,C2⟩:=chn_app.mp C
 have Gz:sa=b1:=Gz
 have Gk:sb=b1+na:=Gk
 have Jz:0<na:=Jz
 have Hq:0<nb:=Hq
 subst Gz
 have hle:=bi C2
 have hle1:=bi C1
 refine kK hc Fb ex ey Gk (by show _<=arr.size; simp at hle; omega) Jz Hq u1 (by rw [Gk]; exact u2) fun M g' hg=>?_
 have hM:M.length=na+nb:=by
  rw [hg.1.length_eq,List.length_append,List.length_take,List.length_take,List.length_drop,List.length_drop,Array.length_toList]
  simp at hle; omega
 have ct:=Bt (L:=arr.toList) (i:=sa) (n:=na) (m:=nb)
 rw [<- Gk] at ct
 have zt:(arr.toList.take sa).length=sa:=by rw [List.length_take,Array.length_toList]; simp at hle; omega
 have dr:∀ k,sb+nb<=k->(arr.toList.take sa++M++arr.toList.drop (sb+nb)).drop k=arr.toList.drop k:=fun k hk=>by
  rw [List.drop_append,List.drop_eq_nil_of_le (by rw [List.length_append,zt,hM]; omega),List.nil_append,List.length_append,zt,hM,List.drop_drop]
  congr 1; omega
 have tk:∀ i n,i+n<=sa->rn_ (arr.toList.take sa++M++arr.toList.drop (sb+nb)) i n=rn_ arr.toList i n:=fun i n hk=>by
  unfold rn_
  rw [List.append_assoc,List.take_drop,List.take_drop,List.take_append_of_le_length (by omega),List.take_take,Nat.min_eq_left (by omega)]
 refine h _ _ g' ?_ ?_ ?_ ?_
 ·show (arr.toList.take sa++M++arr.toList.drop (sb+nb)).Perm arr.toList
  refine List.Perm.trans (List.Perm.append_right _ (List.Perm.append_left _ hg.1)) ?_
  rw [<- ct]
 ·exact dr lo (by simp at hle; omega)
 ·have:=congrArg List.length em
  have q:=congrArg List.length el
  rw [Array.length_toList] at this q
  rw [this,q]; simp; omega
 ·rw [em]
  refine chn_app.mpr ⟨sa,dM (fun i n h1 h2=>tk i n h2) C1,rfl,by show 0<na+nb; omega,?_,?_⟩
  ·show upL rk (rn_ (arr.toList.take sa++M++arr.toList.drop (sb+nb)) sa (na+nb))
   have:=yl (P:=arr.toList.take sa) (S:=arr.toList.drop (sb+nb)) hM
   rw [zt] at this
   rw [this]; exact hg.2
  ·show Chn rk _ r2 (sa+(na+nb)) lo
   rw [<- Nat.add_assoc]
   refine dM (fun i n h1 h2=>?_) C2
   show rn_ (arr.toList.take sa++M++arr.toList.drop (sb+nb)) i n=_
   unfold rn_
   rw [dr i (by omega)]
theorem jr {Q:Unit->SortSt->Prop} (hc:Cmp prog w A s κ rk a₀) (h2:2<=a₀.size)
  (h:∀ EK,(arrOf EK).toList.Perm a₀.toList->failedOf EK=none->upL rk (arrOf EK).toList->Q () EK):wpS (model prog w) A E s sortRuns' Q (sS κ a₀ #[] 7):=by
 refine wpS_bind (wpS_get ?_)
 dsimp only
 generalize (sortPriv% PySem.Builtin.minRun) a₀.size a₀.size 0=mr
 have same:∀ {L L':List Keyed} {i n:Nat},L'.drop i=L.drop i->rn_ L' i n=rn_ L i n:=fun e=>by unfold rn_; rw [e]
 refine wpS_bind (wpS_mono (wpS_forRange (fun x c EK=>∃ arr pd g lo,EK=sS κ arr pd g/\c=(none,lo)/\arr.toList.Perm a₀.toList/\Chn rk arr.toList pd.toList 0 lo/\lo<=a₀.size/\x<=lo)
  (Q:=fun c EK=>∃ arr pd g lo,EK=sS κ arr pd g/\c=(none,lo)/\arr.toList.Perm a₀.toList/\Chn rk arr.toList pd.toList 0 a₀.size) ?step ?fin ⟨a₀,#[],7,0,rfl,rfl,.refl _,rfl,by omega,by omega⟩) ?post)
 case fin=>
  rintro c EK ⟨arr,pd,g,lo,rfl,rfl,hp,C,h1,h2⟩
  have:lo=a₀.size:=by omega
  subst this
  exact ⟨arr,pd,g,_,rfl,rfl,hp,C⟩
 case step=>
  rintro x c EK _ hx ⟨arr,pd,g,lo,rfl,rfl,hp,C,h1,h2⟩
  dsimp only
  by_cases cl:lo≥a₀.size
  ·rw [if_pos cl]
   have:lo=a₀.size:=by omega
   subst this
   exact wpS_pure ⟨arr,pd,g,_,rfl,rfl,hp,C⟩
  rw [if_neg cl]
  have zz:arr.size=a₀.size:=by have:=hp.length_eq; simpa using this
  have Fb:∀ x∈arr.toList,x∈a₀:=fun x hx=>by have:=hp.mem_iff.mp hx; simpa using this
  refine wpS_bind (pX hc Fb (by omega) (by omega) fun n EO r1 n1 n2 u1=>?_)
  dsimp only
  have key:∀ (n:Nat) (EM:Array Keyed),Rl lo arr EM->0<n->lo+n<=a₀.size->upA rk EM lo n->EM.toList.Perm a₀.toList/\Chn rk EM.toList pd.toList 0 lo/\upL rk (rn_ EM.toList lo n):=fun n EM r2 hn hz u=>by
   refine ⟨r2.perm.trans hp,dM (fun i m _ hm=>?_) C,?_⟩
   ·unfold rn_
    apply List.ext_getElem?
    intro k
    by_cases ck:k<m
    ·rw [List.getElem?_take_of_lt ck,List.getElem?_take_of_lt ck,List.getElem?_drop,List.getElem?_drop,Array.getElem?_toList,Array.getElem?_toList,r2.same _ (by omega)]
    ·rw [List.getElem?_take_eq_none (by omega),List.getElem?_take_eq_none (by omega)]
   ·unfold upL
    rw [List.pairwise_iff_getElem]
    intro i j hi hj Fa
    have z2:=r2.size
    simp at hi hj
    have:=u i j (by omega) (by omega)
    rw [o6 (rk:=rk) (x:=(rn_ EM.toList lo n)[i]) (by rw [<- bC (n:=n) (by omega)]; exact List.getElem?_eq_getElem _),o6 (rk:=rk) (x:=(rn_ EM.toList lo n)[j]) (by rw [<- bC (n:=n) (by omega)]; exact List.getElem?_eq_getElem _)] at this
    exact this
  by_cases cm:n<mr
  case' pos=>
   rw [if_pos cm]
   refine wpS_bind (wpS_lift (wpAny_rule ⟨rfl,?_⟩))
   have z1:=r1.size
   have fz:lo+min (a₀.size-lo) mr<=a₀.size:=Nat.le_trans (Nat.add_le_add_left (Nat.min_le_left _ _) lo) (Nat.le_of_eq (Nat.add_sub_cancel' h1))
   have fp:0<min (a₀.size-lo) mr:=Nat.lt_min.mpr ⟨Nat.sub_pos_of_lt (Nat.lt_of_not_le cl),Nat.lt_of_le_of_lt (Nat.zero_le n) cm⟩
   refine wpS_bind (xm hc (r1.mem Fb) (n:=min (a₀.size-lo) mr) (Nat.le_min.mpr ⟨n2,Nat.le_of_lt cm⟩) (by rw [z1,zz]; exact fz) u1 fun EM r2 u2=>?_)
   have K:=key _ EM (r1.trans r2) fp fz u2
   have f0:0<min (a₀.size-lo) mr/\lo+min (a₀.size-lo) mr<=a₀.size:=⟨fp,fz⟩
   clear fp fz
   rw [if_neg (by simp)]
   generalize min (a₀.size-lo) mr=m at K f0 ⊢
  case' neg=>
   rw [if_neg cm]
   have f0:0<n/\lo+n<=a₀.size:=⟨n1,Nat.le_trans (Nat.add_le_add_left n2 lo) (Nat.le_of_eq (Nat.add_sub_cancel' h1))⟩
   have K:=key n EO r1 f0.1 f0.2 u1
   obtain ⟨EM,ea⟩:∃ o,o=EO:=⟨_,rfl⟩
   obtain ⟨m,em⟩:∃ o,o=n:=⟨_,rfl⟩
   rw [<- ea,<- em] at K
   rw [<- ea,<- em]
   rw [<- em] at f0
  all_goals
   obtain ⟨hp2,C2,v2⟩:=K
   refine wpS_bind (wpS_get ?_)
   dsimp only
   cases hb:pd.back? with
   | none=>
    have pe:pd=#[]:=Array.back?_eq_none_iff.mp hb
    subst pe
    refine wpS_bind (wpS_modify (wpS_pure ⟨EM,#[].push (lo,m,0),g,lo+m,rfl,rfl,hp2,?_,f0.2,by omega⟩))
    have C2:0=lo:=C2
    subst C2
    exact ⟨rfl,f0.1,v2,rfl⟩
   | some r=>
    obtain ⟨s1,n1,p0⟩:=r
    dsimp only
    have HA:∀ {a:Array Keyed},a.toList.Perm a₀.toList->a.size=a₀.size:=fun q=>by have:=q.length_eq; simpa using this
    have FW:∀ {a:Array Keyed},a.toList.Perm a₀.toList->∀ x∈a.toList,x∈a₀:=fun q x hx=>by have:=q.mem_iff.mp hx; simpa using this
    refine wpS_bind (wpS_mono (wpS_forRange (fun x c EK=>∃ arr pd g,EK=sS κ arr pd g/\c=(none,())/\arr.toList.Perm a₀.toList/\Chn rk arr.toList pd.toList 0 lo/\upL rk (rn_ arr.toList lo m))
     (Q:=fun c EK=>∃ arr pd g,EK=sS κ arr pd g/\c=(none,())/\arr.toList.Perm a₀.toList/\Chn rk arr.toList pd.toList 0 lo/\upL rk (rn_ arr.toList lo m)) ?mstep ?mfin ⟨EM,pd,g,rfl,rfl,hp2,C2,v2⟩) ?mpost)
    case mfin=>
     rintro c EK q
     exact q
    case mstep=>
     rintro y c EK _ hy ⟨Fm,pd3,g3,rfl,rfl,hp3,C3,v3⟩
     refine wpS_bind (wpS_get ?_)
     dsimp only
     by_cases cs:pd3.size>1
     ·rw [if_pos cs]
      obtain ⟨⟨q1,q2,older⟩,eo⟩:∃ r,pd3[pd3.size-2]?=some r:=⟨pd3[pd3.size-2],by simp⟩
      rw [eo]
      dsimp only
      split
      ·exact wpS_pure ⟨Fm,pd3,g3,rfl,rfl,hp3,C3,v3⟩
      ·refine wpS_bind (sZ hc (FW hp3) C3 (by rw [HA hp3]; omega) (by omega) fun FC Jl g4 JN h42 h43 JM=>?_)
       rw [if_neg (by simp)]
       exact wpS_pure ⟨FC,Jl,g4,rfl,rfl,JN.trans hp3,JM,by rw [same h42]; exact v3⟩
     ·rw [if_neg cs]
      exact wpS_pure ⟨Fm,pd3,g3,rfl,rfl,hp3,C3,v3⟩
    case mpost=>
     rintro c EK ⟨Fm,pd3,g3,rfl,rfl,hp3,C3,v3⟩
     dsimp only
     refine wpS_bind (wpS_modify (wpS_bind (wpS_modify (wpS_pure ⟨Fm,_,g3,lo+m,rfl,rfl,hp3,?_,f0.2,by omega⟩))))
     rw [Array.toList_push,Array.toList_modify]
     exact chn_app.mpr ⟨lo,kF C3,rfl,f0.1,v3,rfl⟩
 case post=>
  rintro c EK ⟨arr,pd,g,lo,rfl,rfl,hp,C⟩
  dsimp only
  have HA:∀ {a:Array Keyed},a.toList.Perm a₀.toList->a.size=a₀.size:=fun q=>by have:=q.length_eq; simpa using this
  have FW:∀ {a:Array Keyed},a.toList.Perm a₀.toList->∀ x∈a.toList,x∈a₀:=fun q x hx=>by have:=q.mem_iff.mp hx; simpa using this
  have ple:=bi C
  rw [Array.length_toList] at ple
  refine wpS_bind (wpS_mono (wpS_forRange (fun x c EK=>∃ arr pd g,EK=sS κ arr pd g/\c=(none,())/\arr.toList.Perm a₀.toList/\Chn rk arr.toList pd.toList 0 a₀.size/\(pd.size<=1\/pd.size+x<=a₀.size))
   (Q:=fun c EK=>∃ arr pd g,EK=sS κ arr pd g/\c=(none,())/\arr.toList.Perm a₀.toList/\Chn rk arr.toList pd.toList 0 a₀.size/\pd.size<=1) ?lstep ?lfin ⟨arr,pd,g,rfl,rfl,hp,C,.inr (by omega)⟩) ?lpost)
  case lfin=>
   rintro c EK ⟨arr,pd,g,rfl,rfl,hp,C,hs⟩
   exact ⟨arr,pd,g,rfl,rfl,hp,C,by omega⟩
  case lstep=>
   rintro x c EK _ hx ⟨arr,pd,g,rfl,rfl,hp,C,hs⟩
   refine wpS_bind (wpS_get ?_)
   dsimp only
   by_cases cs:pd.size<=1
   ·rw [if_pos cs]
    exact wpS_pure ⟨arr,pd,g,rfl,rfl,hp,C,cs⟩
   rw [if_neg cs]
   refine wpS_bind (sZ hc (FW hp) C (by rw [HA hp]; omega) ?_ fun FC Jl g4 JN h42 h43 JM=>?_)
   ·repeat' split
    all_goals omega
   rw [if_neg (by simp)]
   exact wpS_pure ⟨FC,Jl,g4,rfl,rfl,JN.trans hp,JM,.inr (by omega)⟩
  case lpost=>
   rintro c EK ⟨arr,pd,g,rfl,rfl,hp,C,hs⟩
   dsimp only
   have hl:pd.toList.length<=1:=by rw [Array.length_toList]; exact hs
   refine wpS_pure (h _ hp rfl ?_)
   show upL rk arr.toList
   match hpd:pd.toList,hl,C with
   | [],_,C => 
    have C:0=a₀.size:=C
    omega
   | [r],_,C=>
    obtain ⟨c1,c2,c3,c4⟩:=C
    have c4:0+r.2.1=a₀.size:=c4
    have e:rn_ arr.toList 0 r.2.1=arr.toList:=by
     unfold rn_
     rw [List.drop_zero,List.take_of_length_le (by rw [Array.length_toList,HA hp]; omega)]
    rw [e] at c3
    exact c3
   | _::_::_,hl,_=>simp at hl
end
end TP
namespace TP
open PySem L2
theorem qW {α β:Type} {f:α->β} {m l':List β} (h:m.Perm l'):∀ l:List α,l'=l.map f->∃ o:List α,o.Perm l/\m=o.map f:=by
 induction h with
 | nil=>intro l e; exact ⟨l,.refl _,e⟩
 | cons x _ ih=>
  intro l e
  cases l with
  | nil=>cases e
  | cons a l=>
   rw [List.map_cons] at e
   obtain ⟨e1,e2⟩:=List.cons.inj e
   obtain ⟨o,h1,h2⟩:=ih l e2
   exact ⟨a::o,h1.cons a,by rw [List.map_cons,e1,h2]⟩
 | swap x y l0=>
  intro l e
  cases l with
  | nil=>cases e
  | cons a l=>
   rw [List.map_cons] at e
   obtain ⟨e1,e2⟩:=List.cons.inj e
   cases l with
   | nil=>cases e2
   | cons b l=>
    rw [List.map_cons] at e2
    obtain ⟨e3,e4⟩:=List.cons.inj e2
    exact ⟨b::a::l,.swap ..,by rw [List.map_cons,List.map_cons,e1,e3,e4]⟩
 | trans _ _ ih1 ih2=>
  intro l e
  obtain ⟨o2,p2,e2⟩:=ih2 l e
  obtain ⟨o1,p1,e1⟩:=ih1 o2 e2
  exact ⟨o1,p1.trans p2,e1⟩
theorem gC:∀ {xs ys:List Int} {its:List Value},Vals (xs.map V.int) its->Vals (ys.map V.int) its->xs=ys
 | [],[],_,_,_=>rfl
 | [],y::ys,_,h,h'=>by cases h; cases h'
 | x::xs,[],_,h,h'=>by cases h'; cases h
 | x::xs,y::ys,_,h,h'=>by
  cases h with
  | cons r t=>
   cases h' with
   | cons r' t'=>
    obtain ⟨k,rfl⟩:=r
    obtain ⟨k',e⟩:=r'
    cases e
    rw [gC t t']
section
open PySem.W PyProof.Rows
variable {prog:Program} {w:World} {A:Around} {E:Value->Shared->Prop} {s:Shared}
theorem TupI.uniq {h:Heap} {v:Value} {xs ys:List Int} (p:TupI h v xs) (q:TupI h v ys):xs=ys:=by
 obtain ⟨a,o,its,m,e,ho,_,hd,rv⟩:=p
 obtain ⟨b,o2,EY,m2,e2,Gm,_,hd2,FJ⟩:=q
 rw [e] at e2; cases e2
 rw [ho] at Gm; cases Gm
 rw [hd] at hd2
 have:its=EY:=by injection hd2 with q1 _; simpa using q1
 subst this
 exact gC rv FJ
open Classical in
def rkV (vs:List Value) (ss:List (List Int)) (p:Keyed):Int:=if h:∃ i,i<vs.length/\vs.getD i Value.none=p.1 then A8 ss h.choose else 0
theorem da {h:Heap} {vs:List Value} {ss:List (List Int)} (tt:Paired (fun v xs=>TupI h v xs/\xs ≠ []) vs ss) {i:Nat} (hi:i<vs.length) {u:Value}:rkV vs ss (vs.getD i Value.none,u)=A8 ss i:=by
 have hx:∃ j,j<vs.length/\vs.getD j Value.none=vs.getD i Value.none:=⟨i,hi,rfl⟩
 unfold rkV
 rw [dif_pos hx]
 obtain ⟨c1,c2⟩:=hx.choose_spec
 generalize hx.choose=j at c1 c2
 obtain ⟨x,ex,tx⟩:=u9 (d:=Value.none) tt hi
 obtain ⟨y,ey,ty⟩:=u9 (d:=Value.none) tt c1
 rw [c2] at ty
 have e:=TupI.uniq tx.1 ty.1
 unfold A8
 have e1:ss.getD i []=x:=by rw [List.getD_eq_getElem?_getD,ex]; rfl
 have e2:ss.getD j []=y:=by rw [List.getD_eq_getElem?_getD,ey]; rfl
 rw [e1,e2,e]
def L6 (ss:List (List Int)) (o:List Nat):Prop:=o.Perm (List.range ss.length)/\o.map (fun i=>ss.getD i [])=C6 ss
theorem zo {ss:List (List Int)} {o:List Nat} (hp:o.Perm (List.range ss.length)) (hu:o.Pairwise fun i j=>A8 ss i<=A8 ss j):L6 ss o:=by
 refine ⟨hp,?_⟩
 refine List.Perm.eq_of_pairwise (le:=fun a b=>lexLt b a=false) (fun a b _ _ x y=>bL _ _ y x) ?_ (jJ ss) ?_
 ·rw [List.pairwise_map]
  refine List.Pairwise.imp_of_mem (fun {i j} hi hj q=>?_) hu
  have hi:=List.mem_range.mp (hp.mem_iff.mp hi)
  have hj:=List.mem_range.mp (hp.mem_iff.mp hj)
  rw [<- eH hj hi]
  exact decide_eq_false (by omega)
 ·have:=hp.map fun i=>ss.getD i []
  rw [fC] at this
  exact this.trans (aF ss).symm
abbrev D7 {α:Type} (o:List Nat) (d:α) (vs:List α):List α:=o.map fun i=>vs.getD i d
theorem iq {α:Type} {ss:List (List Int)} {o:List Nat} (h:L6 ss o) (d:α) (vs:List α):(D7 o d vs).length=ss.length:=by
 rw [List.length_map,h.1.length_eq,List.length_range]
theorem kY {a:Addr} {vs:List Value} {ss:List (List Int)} {n:Nat} {P:PySem.Fin->Shared->Prop} (ho:s.heap.get? a=some (seqObj "list" vs.toArray n)) (hl:vs.length=ss.length) (Fy:ss.length<=1000)
  (ht:∀ h':Heap,(∀ b o,b≠a->s.heap.get? b=some o->h'.get? b=some o)->Paired (fun v xs=>TupI h' v xs/\xs ≠ []) vs ss)
  (hyp:∀ o,L6 ss o->P (.done (.ret .none)) { s with heap:=sortedHeap s.heap a vs (D7 o Value.none vs).toArray }):wpAny (model prog w) A (Builtin.«list.sort» ⟨[.ref a],[]⟩) P E s:=by
 rw [list_sort_plain]; have ha:=Heap.lt_size ho
 refine wpAny_bind (listItems_at ho rfl (wpAny_bind (listUpdate_at ho rfl ?_ (by rw [List.size_toArray,sizeLine_eq]; omega) (Nat.zero_le _))))
 obtain ⟨ep,hp⟩:∃ ep,(s.heap.update a (Obj.mapSeq fun _=>(#[]:Array Value))).get? a=some (seqObj "list" #[] ep):=⟨_,get?_update_seq ho fun _=>#[]⟩
 refine wpAny_bind (seqEpoch_at hp rfl (wpAny_bind (wpAny_newTuple (wpAny_bind (wpAny_newList (wpAny_holding ?_) (Nat.zero_le _))) (by show vs.length<=_; rw [sizeLine_eq]; omega))))
 generalize hh:((s.heap.update a (Obj.mapSeq fun _=>(#[]:Array Value))).push (seqObj "tuple" vs.toArray 0)).push (seqObj "list" #[] 0)=h6
 have IZ:h6.get? a=some (seqObj "list" #[] ep):=by rw [<- hh]; exact Heap.get?_push_of_some _ (Heap.get?_push_of_some _ hp)
 have h6k:∀ b o,b≠a->s.heap.get? b=some o->h6.get? b=some o:=fun b o hb e=>by rw [<- hh]; exact Heap.get?_push_of_some _ (Heap.get?_push_of_some _ (by rw [Heap.get?_update_ne _ _ _ _ hb]; exact e))
 have iW:∀ o,sortedHeap s.heap a vs (D7 o Value.none vs).toArray=h6.update a (Obj.mapSeq fun _=>(D7 o Value.none vs).toArray):=fun o=>by rw [<- hh]; rfl
 show wpAny (model prog w) A _ P E { s with heap:=h6 }
 dsimp only
 have HJ:vs.toArray.size=vs.length:=by simp
 have hz2:∀ o,L6 ss o->(D7 o Value.none vs).toArray.size<=sizeLine+1:=fun o ok=>by rw [List.size_toArray,iq ok,sizeLine_eq]; omega
 by_cases c2:vs.toArray.size<2
 ·rw [if_pos c2,if_pos c2]
  refine wpAny_bind (wpAny_pure ?_)
  rw [StateT.run_pure]
  refine wpAny_bind (wpAny_pure ?_)
  dsimp only
  have ok:L6 ss (List.range ss.length):=⟨.refl _,by unfold C6 iu; rw [if_pos (by omega)]⟩
  have eo:Array.map (fun x=>x.snd) (arrOf (SortSt.mk' general' (vs.toArray.zip vs.toArray) #[] 7 none))=(D7 (List.range ss.length) Value.none vs).toArray:=by
   show Array.map (fun x=>x.snd) (vs.toArray.zip vs.toArray)=_
   apply Array.toList_inj.mp
   rw [Array.toList_map,Array.toList_zip,<- hl]
   apply List.ext_getElem
   ·simp
   ·intro i h1 h2; simp at h1 h2; simp [h1]
  rw [eo]
  refine wpAny_bind (seqEpoch_at IZ rfl (wpAny_bind (listUpdate_at IZ rfl ?_ (Nat.zero_le _) (hz2 _ ok))))
  simp only [bne_self_eq_false,Bool.false_eq_true,if_false]
  have q:=hyp _ ok
  rw [iW] at q
  exact wpAny_pure q
 ·rw [if_neg c2,if_neg c2]
  have tt:=ht h6 h6k
  obtain ⟨fs,kt,fl,fi⟩:=gI tt
  refine wpAny_bind (kat_kind (s:={ s with heap:=h6 }) (T:=.type "int") kt (by omega) (fun v hv=>?_) (by decide) ?_)
  ·obtain ⟨i,t,rfl⟩:=fi v hv
   exact Looks.of_pure rfl
  have hz:(vs.toArray.zip vs.toArray).toList=(List.range vs.length).map fun i=>(vs.getD i Value.none,vs.getD i Value.none):=by
   rw [Array.toList_zip]
   apply List.ext_getElem
   ·simp
   ·intro i h1 h2; simp at h1 h2; simp [h1]
  have Fg:∀ x∈vs.toArray.zip vs.toArray,∃ i,i<vs.length/\x=(vs.getD i Value.none,vs.getD i Value.none):=fun x hx=>by
   have:x∈(vs.toArray.zip vs.toArray).toList:=by simpa using hx
   rw [hz] at this
   obtain ⟨i,hi,e⟩:=List.mem_map.mp this
   exact ⟨i,List.mem_range.mp hi,e.symm⟩
  have cm:Cmp prog w A { s with heap:=h6 } (tuples' (Value.type "int" != Value.type "tuple")) (rkV vs ss) (vs.toArray.zip vs.toArray):=fun x hx y hy Q hQ=>by
   obtain ⟨i,hi,rfl⟩:=Fg x hx
   obtain ⟨j,hj,rfl⟩:=Fg y hy
   rw [da tt hi,da tt hj,eH (by omega) (by omega)] at hQ
   obtain ⟨x,hx,tx⟩:=u9 (d:=Value.none) tt hi
   obtain ⟨y,hy,ty⟩:=u9 (d:=Value.none) tt hj
   have ex:ss.getD i []=x:=by rw [List.getD_eq_getElem?_getD,hx]; rfl
   have ey:ss.getD j []=y:=by rw [List.getD_eq_getElem?_getD,hy]; rfl
   rw [ex,ey] at hQ
   exact vQ (s:={ s with heap:=h6 }) tx.1 ty.1 hQ
  refine wpAny_bind (wpAny_mono (jr (E:=E) (Q:=fun _ EK=>failedOf EK=none/\∃ o,L6 ss o/\(arrOf EK).map (·.2)=(D7 o Value.none vs).toArray) cm (by simp at c2 ⊢; omega) fun EK p1 p2 p3=>⟨p2,?_⟩) ?_ fun _ _ e=>e)
  ·rw [hz] at p1
   obtain ⟨o,o1,o2⟩:=qW p1 _ rfl
   refine ⟨o,zo (by rw [<- hl]; exact o1) ?_,?_⟩
   ·unfold upL at p3
    rw [o2,List.pairwise_map] at p3
    refine List.Pairwise.imp_of_mem (fun {i j} hi hj q=>?_) p3
    have hi:=List.mem_range.mp (o1.mem_iff.mp hi)
    have hj:=List.mem_range.mp (o1.mem_iff.mp hj)
    rw [da tt hi,da tt hj] at q
    exact q
   ·apply Array.toList_inj.mp
    rw [Array.toList_map,o2,List.map_map]
    rfl
  rintro ⟨⟨⟩,EK⟩ s' ⟨rfl,hf',o,ok,FM⟩
  dsimp only
  rw [FM]
  refine wpAny_bind (seqEpoch_at IZ rfl (wpAny_bind (listUpdate_at IZ rfl ?_ (Nat.zero_le _) (hz2 o ok))))
  rw [hf']
  simp only [bne_self_eq_false,Bool.false_eq_true,if_false]
  have q:=hyp o ok
  rw [iW] at q
  exact wpAny_pure q
theorem gQ {l:Addr} {vs:List Value} {ss:List (List Int)} {Q:Value->Shared->Prop} (hL:s.heap.IsList l vs.toArray) (hl:vs.length=ss.length) (Fy:ss.length<=1000)
  (ht:Paired (fun v xs=>TupI s.heap v xs/\xs ≠ []) vs ss) (hyp:∀ o,L6 ss o->Q (.ref (s.heap.objs.size+1)) { s with heap:=sortedAll s.heap vs (D7 o Value.none vs).toArray }):wpAny (model prog w) A (call (.builtin "sorted") [.ref l]) Q E s:=by
 refine Calls.call_function_entry kind_sorted plain_sorted entry_sorted (args_sorted1 _) ?_
 unfold Builtin.«sorted»; refine wpAny_bind (m:=checkCount "sorted" 1 1 _) (wpAny_pure (wpAny_bind (collect_list hL (wpAny_bind (wpAny_newList ?_ (by rw [sizeLine_eq]; omega))) (by rw [sizeLine_eq]; omega))))
 generalize hg:(s.heap.push (seqObj "list" #[] 0)).update s.heap.objs.size (Obj.mapSeq (·++vs.toArray))=g
 have gz:g.objs.size=s.heap.objs.size+1:=by rw [<- hg,Heap.size_update,size_push']
 have gk:∀ b o,s.heap.get? b=some o->g.get? b=some o:=fun b o e=>by
  have Fe:=Heap.lt_size e
  rw [<- hg,Heap.get?_update_ne _ _ _ _ (Nat.ne_of_lt Fe)]; exact Heap.get?_push_of_some _ e
 have go:(g.push (seqObj "list" vs.toArray 0)).get? (s.heap.objs.size+1)=some (seqObj "list" vs.toArray 0):=by rw [<- gz]; exact Heap.get?_push_size _ rfl
 have ea:∀ o,sortedAll s.heap vs (D7 o Value.none vs).toArray=sortedHeap (g.push (seqObj "list" vs.toArray 0)) (s.heap.objs.size+1) vs (D7 o Value.none vs).toArray:=fun o=>by rw [<- hg]; rfl
 show wpAny _ _ _ _ _ { s with heap:=g.push (seqObj "list" vs.toArray 0) }
 rw [gz]
 refine wpAny_bind (wpAny_holding (wpAny_call_entry slot_list_sort ⟨_,go,rfl⟩ entry_list_sort (kY go hl Fy (fun h' hk=>?_) fun o ok=>⟨_,rfl,wpAny_pure ⟨_,rfl,by have q:=hyp o ok; rw [ea] at q; exact q⟩⟩) (args_list_sort _)))
 refine Paired.mapP ht fun v xs hv=>⟨?_,hv.2⟩
 obtain ⟨a,o,its,m,rfl,h1,h2,h3,h4⟩:=hv.1
 exact ⟨a,o,its,m,rfl,hk a o (Nat.ne_of_lt (Nat.lt_succ_of_lt (Heap.lt_size h1))) (Heap.get?_push_of_some _ (gk a o h1)),h2,h3,h4⟩
end
theorem mY {ss:List (List Int)} {o:List Nat} {ys:List V} {its:List Value} (ok:L6 ss o) (r:Vals ys its) (hl:ys.length=ss.length):Vals (D7 o V.non ys) (D7 o Value.none its):=K7 fun i hi=>by
 have Fh:i<ys.length:=by have:=ok.1.mem_iff.mp hi; rw [List.mem_range] at this; omega
 obtain ⟨u,e,q⟩:=u9 (d:=V.non) r Fh
 rw [show its.getD i Value.none=u by rw [List.getD_eq_getElem?_getD,e]; rfl]
 exact q
section
variable {X:Cx} {K:Frag}
theorem mB (hK:X.K=K:=by rfl):E2 X (.builtin "sorted") (fun xs H Q=>∃ p ys ss,xs = [.ref p]/\SqL K H p ys/\Paired (fun v zs=>(∃ a,v=.ref a/\SqT K H a (zs.map V.int))/\zs ≠ []) ys ss/\ss.length<=1000/\∀ l o,L6 ss o->H l=none->Q (.ref l) (upd H l (.lst (D7 o V.non ys)))):=by
 subst hK
 intro pins s σ H xs us Q I r h
 obtain ⟨p,ys,ss,rfl,hq,ht,Fy,q⟩:=h
 obtain ⟨u,rfl,ru⟩:=L8 r
 cases ru
 obtain ⟨its,rv,pl,hz⟩:=I.list hq
 have hlen:=rv.length
 have Jp:ys.length=ss.length:=Paired.length ht
 have tt:Paired (fun v xs=>TupI s.heap v xs/\xs ≠ []) its ss:=cf rv ht fun v u zs r1 r2=>by
  obtain ⟨⟨a,rfl,hs⟩,ES⟩:=r2
  cases r1
  obtain ⟨EY,FJ,⟨o,e,c,k,dd⟩,_⟩:=I.tuple hs
  exact ⟨⟨a,o,EY,k,rfl,e,c,dd,FJ⟩,ES⟩
 refine gQ pl.isList (by omega) Fy tt fun o ok=>?_
 obtain ⟨e,he⟩:=PyProof.Rows.sortedAll_at s.heap its (D7 o Value.none its).toArray
 have hle:s.heap.objs.size<=s.heap.objs.size+1:=Nat.le_succ _
 refine ⟨.ref (s.heap.objs.size+1),_,I.laid (t':=s.toks) (fun b o q=>PyProof.Rows.sortedAll_old q) hle (show ObjOk X.prog X.w _ _ _ (.lst (D7 o V.non ys)) from ⟨by rw [iq ok]; exact Nat.le_trans Fy (by decide),D7 o Value.none its,e,mY ok rv (by omega),he⟩),rfl,q _ o ok (I.hok.fresh hle)⟩
end
def fSortA:List W->R W
 | [w]=>match lstOf w with
  | some ws=>match K1 ws with
   | some ss=>if ss.length<=1000/\ss.all (fun x=>!x.isEmpty)=true then .ok (.lst ((C6 ss).map fun x=>W.tup (x.map W.int))) else .stuck
   | none=>.stuck
  | none=>.stuck
 | _=>.stuck
section
variable {K:Frag}
theorem nT {F:Hp} {ys:List V} {ss:List (List Int)} {o:List Nat} (ok:L6 ss o) (r:Reps K F ys (ss.map fun x=>W.tup (x.map W.int))):Reps K F (D7 o V.non ys) ((C6 ss).map fun x=>W.tup (x.map W.int)):=by
 have hl:=r.length
 rw [List.length_map] at hl
 rw [<- ok.2,List.map_map]
 refine cI fun i hi=>?_
 have Fh:i<ss.length:=by have:=ok.1.mem_iff.mp hi; rwa [List.mem_range] at this
 obtain ⟨w,e,q⟩:=eF (i:=i) r (by omega)
 rw [List.getElem?_map] at e
 have:ss[i]?=some (ss.getD i []):=by rw [List.getD_eq_getElem?_getD]; simp [Fh]
 rw [this] at e
 cases e
 exact q
theorem wW {c:Bool}:Cal K (cb c) .F (fun xs H Q=>∃ p ys ss,xs = [.ref p]/\SqL K H p ys/\Paired (fun v zs=>(∃ a,v=.ref a/\SqT K H a (zs.map V.int))/\zs ≠ []) ys ss/\ss.length<=1000/\∀ l o,L6 ss o->H l=none->Q (.ref l) (upd H l (.lst (D7 o V.non ys)))) fSortA:=by
 intro EX H0 Hs G H ρ σ Ha vs ws Q I s m o
 cases m with
 | nil=>exact o.elim
 | cons a t=>
  cases t with
  | cons _ _=>exact o.elim
  | nil=>
   rename_i w v
   unfold fSortA at o
   cases hl:lstOf w with
   | none=>simp only [hl] at o; exact o.elim
   | some us=>
    simp only [hl] at o
    cases ht:K1 us with
    | none=>simp only [ht] at o; exact o.elim
    | some ss=>
     simp only [ht] at o
     by_cases hc:ss.length<=1000/\ss.all (fun x=>!x.isEmpty)=true
     ·rw [if_pos hc] at o
      obtain ⟨p,ys,rfl,hs,r⟩:=Md.lstOf I a hl
      rw [gJ ht] at r
      have ES:∀ x∈ss,x ≠ []:=fun x hx=>by
       have:=List.all_eq_true.mp hc.2 x hx
       intro e; subst e; simp at this
      have sm:Same (if c then G else join H0 G) H:=by
       cases c with
       | true=>rw [if_pos rfl]; exact I.gh
       | false=>rw [if_neg Bool.false_ne_true]; exact I.join_H
      refine ⟨p,ys,ss,rfl,hs,Paired.mapP (fB r ES) fun v zs h=>⟨?_,h.2⟩,hc.1,fun l od ok=>Out.chks (EX:=EX) (c:=c) I s (nT ok r) ?_ l⟩
      ·obtain ⟨b,e,q⟩:=h.1
       exact ⟨b,e,SqT.of (sm _ _ q)⟩
      ·have e:TP.chks c ((C6 ss).map fun x=>W.tup (x.map W.int))=.ok (.lst ((C6 ss).map fun x=>W.tup (x.map W.int))):=by
        unfold TP.chks
        rw [cL,Bool.or_true,if_pos rfl]
       rw [e]; exact o
     ·rw [if_neg hc] at o; exact o.elim
end
end TP
namespace TP
open PySem L2
def spX (K:Frag) (n:Nat) (f:List W->R W):Sp:=fun vs H Q E=>vs.length=n/\∃ F ws,Same F H/\Reps K F vs ws/\match f ws with
 | .ok w=>∀ v G' H',Same F G'->Same H H'->Same G' H'->(∀ a o,H a=some o->isL o=true->F a=none->G' a=none)->Rep K G' v w->Q v H'
 | .ex e=>∀ H',Same H H'->XE E e H'
 | .stuck=>False
def G8 (n N:Nat) (m:Rho->R Fl) (ws:List W):R W:=if ws.length=n then (m (ws.map Sl.val++List.replicate (N-n) Sl.un)>>=fun f=>match f with
 | .rt w=>.ok w
 | .nx _=>.ok .non
 | _=>.stuck) else .stuck
theorem ic {n N:Nat} {m:Rho->R Fl} (ws:List W) (h:G8 n N m ws≠.stuck):ws.length=n:=by
 unfold G8 at h
 by_cases e:ws.length=n
 ·exact e
 ·rw [if_neg e] at h; exact absurd rfl h
def less (H F:Hp):Hp:=fun a=>match F a with
 | some _=>none
 | none=>H a
section
variable {K:Frag} {EX:EXT} {H0 G H G1 H1 F:Hp} {ρ:Rho} {σ:St} {d:Mode} {D:Ends}
theorem iR {a:Addr} (h:F a=none):less H F a=H a:=by unfold less; rw [h]
theorem iQ {a:Addr} {o:HO} (h:less H F a=some o):F a=none/\H a=some o:=by
 unfold less at h
 cases q:F a with
 | none=>rw [q] at h; exact ⟨rfl,h⟩
 | some u=>rw [q] at h; cases h
theorem fx {H':Hp} (sF:Same F H) (h1:Same (less H F) H') (h2:Same F H'):Same H H':=fun a o e=>by
 cases q:F a with
 | none=>exact h1 a o (by rw [iR q]; exact e)
 | some u=>
  have:=sF a u q
  rw [e] at this; cases this
  exact h2 a o q
theorem zD {a:Addr} {o:HO} (h:u6 H a=some o):H a=some o/\isL o=false:=by
 unfold u6 at h
 cases q:H a with
 | none=>rw [q] at h; cases h
 | some u=>
  rw [q] at h
  dsimp only at h
  cases hl:isL u
  ·rw [hl] at h; cases h; exact ⟨rfl,hl⟩
  ·rw [hl] at h; cases h
theorem nA:∀ {vs:List V} {ws:List W} {i:Nat} {x:Sl} {o:Option V} {k k':Nat},Reps K F vs ws->(ws.map Sl.val++List.replicate k Sl.un)[i]?=some x->(vs.map some++List.replicate k' none)[i]?=some o->x=.un\/∃ v w,x=.val w/\o=some v/\Rep K F v w
 | _,_,i,x,o,k,k',.nil,h1,h2=>by
  simp only [List.map_nil,List.nil_append,List.getElem?_replicate] at h1
  split at h1 <;> simp only [Option.some.injEq,reduceCtorEq] at h1
  exact .inl h1.symm
 | _,_,0,x,o,k,k',.cons r _,h1,h2=>by
  simp at h1 h2
  exact .inr ⟨_,_,h1.symm,h2.symm,r⟩
 | _,_,i+1,x,o,k,k',.cons _ t,h1,h2=>by
  simp only [List.map_cons,List.cons_append,List.getElem?_cons_succ] at h1 h2
  exact nA t h1 h2
theorem PIv.beginX {vs:List V} {ws:List W} {k k':Nat} (sF:Same F H) (r:Reps K F vs ws) (hk:k=k'):PIv K (less H F) (both F (u6 H)) (ws.map Sl.val++List.replicate k Sl.un) (vs.map some++List.replicate k' none) H where
 g0 a o e l:=by
  obtain ⟨h1,h2⟩:=iQ e
  unfold both; rw [h1]; dsimp only
  unfold u6; rw [h2]; dsimp only; rw [l]; rfl
 gl a o e l:=by
  obtain ⟨h1,h2⟩:=iQ e
  unfold both; rw [h1]; dsimp only
  unfold u6; rw [h2]; dsimp only; rw [l]; rfl
 gh a o e:=by
  unfold both at e
  cases q:F a with
  | none=>rw [q] at e; exact (zD e).1
  | some u=>rw [q] at e; cases e; exact sF a _ q
 hh a o e:=(iQ e).2
 len:=by subst hk; simp [r.length]
 sl i x o h1 h2:=by
  rcases nA r h1 h2 with rfl | ⟨v,w,rfl,rfl,q⟩
  ·trivial
  ·exact ⟨v,rfl,q.same fun b u e=>by unfold both; rw [e]⟩
 ne i j us xs a Fa h1 _ _ _:=by
  have:∀ (i:Nat) (us:List W),(ws.map Sl.val++List.replicate k Sl.un)[i]?≠some (Sl.own us):=fun i us q=>by
   rw [List.getElem?_append] at q
   split at q
   ·rw [List.getElem?_map] at q
    cases hh:ws[i]? <;> rw [hh] at q <;> cases q
   ·rw [List.getElem?_replicate] at q
    split at q <;> cases q
  exact absurd h1 (this i us)
theorem wR {n:Nat} {Nl:List Str} {m:Rho->R Fl} {vs:List V} {Q:VK} {E:XK} (h:spX K n (G8 n Nl.length m) vs H Q E):tSt K (fun _ _=>False) .V m { nx:=fun _ H'=>Q .non H',rt:=Q } (L2.start Nl vs) H:=by
 obtain ⟨hl,F,ws,sF,r,o⟩:=h
 have hw:ws.length=n:=by rw [<- r.length]; exact hl
 unfold G8 at o
 rw [if_pos hw] at o
 have sB:Same F (both F (u6 H)):=fun b u e=>by unfold both; rw [e]
 refine ⟨less H F,both F (u6 H),_,PIv.beginX (k:=Nl.length-n) sF r (by rw [hl]),?_⟩
 revert o
 cases m (ws.map Sl.val++List.replicate (Nl.length-n) Sl.un) with
 | stuck=>exact id
 | ex e=>exact fun o=>(o H (Same.refl H)).elim
 | ok f=>
  cases f with
  | nx ρ'=>exact fun o G' σ' H' s' I'=>o .non G' H' (sB.trans s') (fx sF I'.hh ((sB.trans s').trans I'.gh)) I'.gh (fun a o e l q=>I'.gl a o (by rw [iR q]; exact e) l) .non
  | rt w=>exact fun o v G' H' s0 s1 s2 c md=>o v G' H' (sB.trans s0) (fx sF s2 ((sB.trans s0).trans s1)) s1 (fun a o e l q=>c a o (by rw [iR q]; exact e) l) md
  | bk _=>exact fun o=>o.elim
  | ct _=>exact fun o=>o.elim
def frzL:List Nat->Rho->Rho
 | [],ρ=>ρ
 | j::js,ρ=>frzL js (frz j ρ)
theorem PIv.frzL:∀ {js:List Nat} {G:Hp} {ρ:Rho},PIv K H0 G ρ σ H->∃ G',Same G G'/\PIv K H0 G' (frzL js ρ) σ H
 | [],G,ρ,I=>⟨G,Same.refl G,I⟩
 | j::js,G,ρ,I=>by
  obtain ⟨G1,s1,I1⟩:=I.frz (i:=j)
  obtain ⟨G2,s2,I2⟩:=PIv.frzL (js:=js) I1
  exact ⟨G2,s1.trans s2,I2⟩
def cE (i:Nat) (js:List Nat) (w:W) (ρ:Rho):Rho:=if noL w=true then ρ.set i (.val w) else (frzL js ρ).set i (.val w)
def sCX (i:Nat) (js:List Nat) (f:List W->R W) (ma:Rho->R (List W)):Rho->R Fl:=fun ρ=>ma (frzL js ρ)>>=fun ws=>f ws>>=fun w=>.ok (.nx (cE i js w ρ))
theorem MdA.repsV {Hs:Hp}:∀ {ws:List W} {vs:List V},MdA K .V H0 Hs G H ws vs->Reps K G vs ws
 | _,_,.nil=>.nil
 | _,_,.cons h t=>.cons h (MdA.repsV t)
theorem wP {i n:Nat} {js:List Nat} {f:List W->R W} {E:XK} {ma:Rho->R (List W)} (hf:∀ ws,f ws≠.stuck->ws.length=n) (hE:∀ e H,EX e H->XE E e H) (h:tSt K EX d (sCX i js f ma) D σ H) :
  Z4 (cW (spX K n f) [] E (tA K EX .V ma)) (L0 i) D σ H:=by
 obtain ⟨H0,G,ρ,I,o⟩:=h
 obtain ⟨G2,s2,I2⟩:=I.frzL (js:=js)
 refine ⟨H0,G2,frzL js ρ,I2,?_⟩
 unfold sCX at o
 cases hma:ma (frzL js ρ) with
 | stuck=>rw [hma] at o; exact o.elim
 | ex e=>rw [hma] at o; exact fun H' s=>o H' (I.hh.trans s)
 | ok ws=>
  rw [hma,R.ok_bind] at o
  intro xs G1 H1 e1 m1
  have I1:=I2.ext e1
  have r:=MdA.repsV m1
  rw [List.append_nil]
  refine ⟨?_,G1,ws,I1.gh,r,?_⟩
  ·rw [r.length]
   refine hf ws fun z=>?_
   rw [z] at o; exact o
  ·revert o
   cases f ws with
   | stuck=>exact id
   | ex e=>exact fun o H' s=>hE e H' (o H' (I1.hh.trans s))
   | ok w=>
    intro o v G' H' sG sH gH cl md
    rw [R.ok_bind] at o
    by_cases hn:noL w=true
    ·have hs:cE i js w ρ=ρ.set i (.val w):=if_pos hn
     rw [hs] at o
     have IH:Same H H':=e1.hh.trans sH
     have rH:Rep K H' v w:=md.same gH
     have sN:Same (u6 H') H':=zE K H'
     have sB:Same G (both G (u6 H')):=fun b o q=>by unfold both; rw [q]
     have FE:Same (u6 H') (both G (u6 H')):=fun b o q=>by
      unfold both
      cases q1:G b with
      | none=>exact q
      | some y=>
       have a1:=IH b y (I.gh b y q1)
       rw [sN b o q] at a1
       exact a1.symm
     have HV:Same (both G (u6 H')) H':=fun b o q=>by
      unfold both at q
      cases q1:G b with
      | none=>rw [q1] at q; exact sN b o q
      | some y=>rw [q1] at q; cases q; exact IH b _ (I.gh b _ q1)
     have ex:Ext G H (both G (u6 H')) H':=⟨sB,IH,HV,fun b o q l g=>by
      unfold both; rw [g]; dsimp only
      unfold u6; rw [IH b o q]; dsimp only; rw [if_pos l]⟩
     exact o _ _ H' sB ((I.ext ex).setV ((Rep.ofNoL rH hn).same FE))
    ·have hs:cE i js w ρ=(frzL js ρ).set i (.val w):=if_neg hn
     rw [hs] at o
     have ex:Ext G1 H1 G' H':=⟨sG,sH,gH,cl⟩
     exact o G' _ H' ((s2.trans e1.gg).trans sG) ((I1.ext ex).setV md)
theorem sM {n:Nat} {f:List W->R W} {E:XK} {ma:Rho->R (List W)} {Q:VK} (hf:∀ ws,f ws≠.stuck->ws.length=n) (hE:∀ e H,EX e H->XE E e H) (h:tM K EX .V (fun ρ=>ma ρ>>=fun ws=>f ws) σ H Q) :
  cW (spX K n f) [] E (tA K EX .V ma) σ H Q:=by
 obtain ⟨H0,G,ρ,I,o⟩:=h
 refine ⟨H0,G,ρ,I,Out.bind o fun xs G1 H1 ws e1 m1 o1=>?_⟩
 have I1:=I.ext e1
 have r:=MdA.repsV m1
 rw [List.append_nil]
 refine ⟨?_,G1,ws,I1.gh,r,?_⟩
 ·rw [r.length]
  refine hf ws fun z=>?_
  rw [z] at o1; exact o1
 ·revert o1
  cases f ws with
  | stuck=>exact id
  | ex e=>exact fun o1 H' s=>hE e H' (o1 H' s)
  | ok w=>exact fun o1 v G' H' sG sH gH cl md=>o1 v G' H' ⟨sG,sH,gH,cl⟩ md
end
section
variable {X:Cx} {K:Frag} {d:Mode} {e:Expr} {es:List Expr} {pos:Pos} {mr:Rho->R (List W)}
theorem uY {k:Nat} {f:Addr} {fd:FuncData} {ps:List Str} {x:Str} {p:Pos} {n N:Nat} {m:Rho->R Fl} (F:FnOk X.prog X.w X.K X.mg X.base CX0 k f fd ps (spX K n (G8 n N m))) (hr:Room k X.A) (hg:Gl X x) (hm:X.mg x=some (.ref f)) (hk:PySem.W.keepIn X.K (.ref f)=true) (hb:Binds X.K fd ps [])
  (ha:PA X (e::es) (tA K (fun _ _=>False) .V mr)) (Fv:(x == ("__debug__" : Str))=false:=by decide) (he:starEach (e::es) X.env=(false,eval e X.env)::starEach es X.env:=by rfl) (Fn:(backTo pos (starEach es X.env)).any (·.1)=false:=by rfl) :
  PE X (.Call (.Name x p) (e::es) [] pos) (tM K (fun _ _=>False) .V (bA (G8 n N m) mr)):=
 (bF F hr hg hm hk hb .nil dh ha Fv he Fn).mono fun _ _ _ q=>sM (fun ws h=>ic ws h) (fun _ _ z=>z) q
theorem uX {i k:Nat} {js:List Nat} {y:Str} {pos':Pos} {f:Addr} {fd:FuncData} {ps:List Str} {x:Str} {p EL:Pos} {n N:Nat} {m:Rho->R Fl} (hN:X.N.Nodup) (hi:X.N[i]?=some y) (hy:Loc X.env.scope y)
  (F:FnOk X.prog X.w X.K X.mg X.base CX0 k f fd ps (spX K n (G8 n N m))) (hr:Room k X.A) (hg:Gl X x) (hm:X.mg x=some (.ref f)) (hk:PySem.W.keepIn X.K (.ref f)=true) (hb:Binds X.K fd ps [])
  (ha:PA X (e::es) (tA K (fun _ _=>False) .V mr)) (Fv:(x == ("__debug__" : Str))=false:=by decide) (he:starEach (e::es) X.env=(false,eval e X.env)::starEach es X.env:=by rfl) (Fn:(backTo EL (starEach es X.env)).any (·.1)=false:=by rfl)
  (hs:swapsWith (.Call (.Name x p) (e::es) [] EL) (some (.Name y pos')) pos.line X.env=pure false:=by rfl) (hf:X.fn y=true\/X.env.scope.names.lookup y=some .local:=by first | exact .inl rfl | exact .inr rfl | assumption) :
  PS X (.Assign [.Name y pos'] (.Call (.Name x p) (e::es) [] EL) pos) (tSt K (fun _ _=>False) d (sCX i js (G8 n N m) mr)):=
 (df hN hi hy (bF F hr hg hm hk hb .nil dh ha Fv he Fn) hs hf).mono fun _ _ _ q=>wP (fun ws h=>ic ws h) (fun _ _ z=>z) q
end
theorem so (ρ:Rho):frzL [] ρ=ρ:=rfl
theorem oX (j:Nat) (js:List Nat) (ρ:Rho):frzL (j::js) ρ=frzL js (frz j ρ):=rfl
def RcX (f:List W->R W) (i:Nat) (js:List Nat) (ρ:Rho):R (List W)->R Fl
 | .ok ws=>f ws>>=fun w=>.ok (.nx (cE i js w ρ))
 | .ex e=>.ex e
 | .stuck=>.stuck
theorem xV (i:Nat) (js:List Nat) (f:List W->R W) (ma:Rho->R (List W)) (ρ:Rho):sCX i js f ma ρ=RcX f i js ρ (ma (frzL js ρ)):=by
 unfold sCX
 cases ma (frzL js ρ) <;> rfl
theorem Ck (f:List W->R W) (i:Nat) (js:List Nat) (ρ:Rho) (ws:List W):RcX f i js ρ (.ok ws)=(f ws>>=fun w=>.ok (.nx (cE i js w ρ))):=rfl
end TP
namespace TP
open PySem L2
section
variable {K:Frag} {EX:EXT} {X:Cx} {tg e:Expr} {ma:Rho->R W}
end
end TP
namespace TP
open PySem L2
def DZ (H:Hp):Prop:=∀ a vs,H a≠some (.lst vs)
def OutN (K:Frag) (d:Mode) (Hb:Hp) (r:R Fl) (D:Ends):Prop:=match r with
 | .ok (.nx ρ)=>∀ H0 G' σ' H',Same Hb H0->PIv K H0 G' ρ σ' H'->D.nx σ' H'
 | .ok (.rt w)=>∀ v G' H',Same G' H'->Same Hb H'->(∀ a o,Hb a=some o->isL o=true->G' a=none)->Md K Hb Hb G' H' v w d->D.rt v H'
 | _=>False
def tStN (K:Frag) (EX:EXT) (d:Mode) (m:Rho->R Fl):TS:=fun D σ H=>∃ Hb H0 G ρ,DZ Hb/\Same Hb H0/\PIv K H0 G ρ σ H/\OutN K d Hb (m ρ) D
section
variable {K:Frag} {EX:EXT} {Hb H0 G H G1 H1 G2 H2:Hp} {ρ:Rho} {σ:St} {d:Mode} {D:Ends}
end
section
variable {X:Cx} {K:Frag} {EX:EXT} {d:Mode} {e:Expr} {es:List Expr} {pos:Pos} {ma:Rho->R W} {mr:Rho->R (List W)} {m n:Rho->R Fl} {ta:Rho->R Bool} {st:Stmt} {Ga:List Stmt}
end
end TP
namespace TP
open PySem L2
abbrev tI (ns:List Int):W:=.tup (ns.map W.int)
abbrev lI (ns:List Int):W:=.lst (ns.map W.int)
theorem J9 (ns:List Int):k9 (ns.map W.int)=true:=by
 induction ns with
 | nil=>rfl
 | cons n ns ih=>rw [List.map_cons]; simp only [k9,noL,ih,Bool.and_self]
theorem wx (n:Bool) (i j:Int):p5 n (.int i) (.int j)=.ok (.bl (if n then !decide (i=j) else decide (i=j))):=by
 show R.ok (W.bl (if n then !decide (V.int i=V.int j) else decide (V.int i=V.int j)))=_
 rw [show decide (V.int i=V.int j)=decide (i=j) from decide_eq_decide.mpr ⟨V.int.inj,congrArg _⟩]
theorem wy (n:Bool) (i j:Bool):p5 n (.bl i) (.bl j)=.ok (.bl (if n then !decide (i=j) else decide (i=j))):=by
 show R.ok (W.bl (if n then !decide (V.bl i=V.bl j) else decide (V.bl i=V.bl j)))=_
 rw [show decide (V.bl i=V.bl j)=decide (i=j) from decide_eq_decide.mpr ⟨V.bl.inj,congrArg _⟩]
theorem wq (n:Bool) (i j:Str):p5 n (.str i) (.str j)=.ok (.bl (if n then !decide (i=j) else decide (i=j))):=by
 show R.ok (W.bl (if n then !decide (V.str i=V.str j) else decide (V.str i=V.str j)))=_
 rw [show decide (V.str i=V.str j)=decide (i=j) from decide_eq_decide.mpr ⟨V.str.inj,congrArg _⟩]
theorem wu (n:Bool):p5 n .non .non=.ok (.bl (!n)):=by cases n <;> rfl
theorem wv (n:Bool) (i:Int):p5 n .non (.int i)=.ok (.bl n):=by cases n <;> rfl
theorem ww (n:Bool) (i:Int):p5 n (.int i) .non=.ok (.bl n):=by cases n <;> rfl
theorem atW {ns:List Int} {i:Int} (h0:0<=i) (h1:i<ns.length):L2.atI (ns.map W.int) i=some (.int (ns.getD i.toNat 0)):=by
 unfold L2.atI
 rw [List.length_map,X8 h0 h1]
 show (ns.map W.int)[i.toNat]?=_
 rw [List.getElem?_map,J7 (by omega)]; rfl
theorem dQ {ws:List W} {k:Nat} {w:W} (h:ws[k]?=some w):L2.atI ws (k:Int)=some w:=by
 have hk:=(List.getElem?_eq_some_iff.mp h).1
 unfold L2.atI
 rw [X8 (by omega) (by omega),Int.toNat_natCast]
 exact h
def andThen (r:R Fl) (n:Rho->R Fl):R Fl:=r>>=fun f=>match f with
 | .nx ρ'=>n ρ'
 | .rt w=>.ok (.rt w)
 | .bk ρ'=>.ok (.bk ρ')
 | .ct ρ'=>.ok (.ct ρ')
theorem vL (m n:Rho->R Fl) (ρ:Rho):c8 m n ρ=andThen (m ρ) n:=rfl
theorem mH (ρ:Rho) (n:Rho->R Fl):andThen (.ok (.nx ρ)) n=n ρ:=rfl
theorem mG (w:W) (n:Rho->R Fl):andThen (.ok (.rt w)) n=.ok (.rt w):=rfl
theorem mJ (ρ:Rho) (n:Rho->R Fl):andThen (.ok (.bk ρ)) n=.ok (.bk ρ):=rfl
theorem mI (ρ:Rho) (n:Rho->R Fl):andThen (.ok (.ct ρ)) n=.ok (.ct ρ):=rfl
theorem Db (w:W) (ρ:Rho):mC w ρ=.ok w:=rfl
theorem DS (f:W->R W) (ma:Rho->R W) (ρ:Rho):b1 f ma ρ=(ma ρ>>=f):=rfl
def R2b (a b:R W) (f:W->W->R W):R W:=a>>=fun x=>b>>=fun y=>f x y
theorem DR (f:W->W->R W) (ma mb:Rho->R W) (ρ:Rho):b2 f ma mb ρ=R2b (ma ρ) (mb ρ) f:=rfl
theorem Cm (x y:W) (f:W->W->R W):R2b (.ok x) (.ok y) f=f x y:=rfl
theorem DQ (f:List W->R W) (ma:Rho->R (List W)) (ρ:Rho):bA f ma ρ=(ma ρ>>=f):=rfl
theorem DP (f:List W->R (List W)) (ma:Rho->R (List W)) (ρ:Rho):bI f ma ρ=(ma ρ>>=f):=rfl
theorem DO (ma:Rho->R W) (ρ:Rho):bS ma ρ=(ma ρ>>=u8):=rfl
theorem DW (ρ:Rho):aN ρ=.ok []:=rfl
def mL (a:R W) (b:R (List W)):R (List W):=a>>=fun x=>b>>=fun xs=>.ok (x::xs)
theorem DX (ma:Rho->R W) (mr:Rho->R (List W)) (ρ:Rho):aC ma mr ρ=mL (ma ρ) (mr ρ):=rfl
theorem sX (x:W) (xs:List W):mL (.ok x) (.ok xs)=.ok (x::xs):=rfl
theorem wX (ma:Rho->R W) (ρ:Rho):av ma ρ=(ma ρ>>=chk):=rfl
theorem sP (ma:Rho->R W) (ρ:Rho):d5 ma ρ=(ma ρ>>=toB):=rfl
theorem ur (a b:Rho->R Bool) (ρ:Rho):cX a b ρ=rAnd (a ρ) (b ρ):=rfl
theorem xz (a b:Rho->R Bool) (ρ:Rho):aA a b ρ=rOr (a ρ) (b ρ):=rfl
theorem uq (a:Rho->R Bool) (ρ:Rho):y8 a ρ=lq (a ρ):=rfl
theorem uU (x y:Bool):rAnd (.ok x) (.ok y)=.ok (x&&y):=by cases x <;> rfl
theorem uV (r:R Bool):rAnd (.ok false) r=.ok false:=rfl
theorem uT (r:R Bool):rAnd (.ok true) r=r:=rfl
theorem yK (x y:Bool):rOr (.ok x) (.ok y)=.ok (x||y):=by cases x <;> rfl
theorem yJ (r:R Bool):rOr (.ok true) r=.ok true:=rfl
theorem yL (r:R Bool):rOr (.ok false) r=r:=rfl
theorem uP (x:Bool):lq (.ok x)=.ok (!x):=rfl
theorem uk (a b:Rho->R W) (ρ:Rho):vAnd a b ρ=db (a ρ) (b ρ):=rfl
theorem xq (a b:Rho->R W) (ρ:Rho):vOr a b ρ=eJ (a ρ) (b ρ):=rfl
theorem ui (a:Rho->R W) (ρ:Rho):vNot a ρ=ln (a ρ):=rfl
theorem qP (x y:Bool):db (.ok (.bl x)) (.ok (.bl y))=.ok (.bl (x&&y)):=by cases x <;> rfl
theorem qQ (r:R W):db (.ok (.bl false)) r=.ok (.bl false):=rfl
theorem qO (r:R W):db (.ok (.bl true)) r=r:=rfl
theorem uN (x y:Bool):eJ (.ok (.bl x)) (.ok (.bl y))=.ok (.bl (x||y)):=by cases x <;> rfl
theorem uM (r:R W):eJ (.ok (.bl true)) r=.ok (.bl true):=rfl
theorem uO (r:R W):eJ (.ok (.bl false)) r=r:=rfl
theorem qN (x:Bool):ln (.ok (.bl x))=.ok (.bl (!x)):=rfl
def lr (c:R Bool) (a b:R W):R W:=c>>=fun t=>if t then a else b
theorem xr (c:Rho->R Bool) (a b:Rho->R W) (ρ:Rho):vIf c a b ρ=lr (c ρ) (a ρ) (b ρ):=rfl
theorem uQ (a b:R W):lr (.ok true) a b=a:=rfl
theorem uS (a b:R W):lr (.ok false) a b=b:=rfl
theorem uR (t:Bool) (x y:W):lr (.ok t) (.ok x) (.ok y)=.ok (if t then x else y):=by cases t <;> rfl
def jj (f f':W->W->R W) (a b c:R W):R W:=a>>=fun x=>b>>=fun y=>f x y>>=fun z=>toB z>>=fun t=>if t then c>>=fun u=>f' y u else .ok (.bl false)
theorem nc (f f':W->W->R W) (ma mb mc:Rho->R W) (ρ:Rho):cT f f' ma mb mc ρ=jj f f' (ma ρ) (mb ρ) (mc ρ):=rfl
theorem pU (g g':Int->Int->Bool) (i j k:Int):jj (fI0 fun i j=>.bl (g i j)) (fI0 fun i j=>.bl (g' i j)) (.ok (.int i)) (.ok (.int j)) (.ok (.int k))=.ok (.bl (g i j&&g' j k)):=by
 unfold jj
 show (if g i j=true then _ else _)=_
 cases h:g i j <;> simp [fI0]
def lM (ws:List W):R W:=lim ws.length (.tup ws)
def lN (ws:List W):R W:=lim ws.length (.lst ws)
theorem uh (ma:Rho->R (List W)) (ρ:Rho):G7 ma ρ=(ma ρ>>=lM):=rfl
theorem uj (ma:Rho->R (List W)) (ρ:Rho):C5 ma ρ=(ma ρ>>=lN):=rfl
theorem CP (ρ:Rho):pN ρ=.ok none:=rfl
theorem CO (m:Rho->R W) (ρ:Rho):pS m ρ=(m ρ>>=gf):=rfl
theorem on (i:Int):gf (.int i)=.ok (some i):=rfl
def Rsl (c:Bool) (x:R W) (l u:R (Option Int)):R W:=x>>=fun x=>l>>=fun l=>u>>=fun u=>toR (lstOf x)>>=fun ws=>chks c (J3 ws l u)
theorem xp (c:Bool) (m:Rho->R W) (ml mh:Rho->R (Option Int)) (ρ:Rho):vSl c m ml mh ρ=Rsl c (m ρ) (ml ρ) (mh ρ):=rfl
theorem xg (c:Bool) (ws:List W) (l u:Option Int):Rsl c (.ok (.lst ws)) (.ok l) (.ok u)=chks c (J3 ws l u):=rfl
theorem xf (c:Bool) (ws:List W) (l u:Option Int):Rsl c (.ok (.scr ws)) (.ok l) (.ok u)=chks c (J3 ws l u):=rfl
def tX (r:R (List W)) (n:Nat) (mg:W->Rho->Option Rho) (mc:Rho->R Bool) (me:Rho->R W) (ρ:Rho):R W:=r>>=fun ws=>m8 n mg mc me ws ρ
theorem qc (n:Nat) (mi:Rho->R (List W)) (mg:W->Rho->Option Rho) (mc:Rho->R Bool) (me:Rho->R W) (ρ:Rho):w9 n mi mg mc me ρ=tX (mi ρ) n mg mc me ρ:=rfl
theorem sY (ws:List W) (n:Nat) (mg:W->Rho->Option Rho) (mc:Rho->R Bool) (me:Rho->R W) (ρ:Rho):tX (.ok ws) n mg mc me ρ=m8 n mg mc me ws ρ:=rfl
theorem xT (ρ:Rho):sNx ρ=.ok (.nx ρ):=rfl
theorem xX (ρ:Rho):sBk ρ=.ok (.bk ρ):=rfl
theorem xU (ρ:Rho):sCt ρ=.ok (.ct ρ):=rfl
def tW (r:R W) (ρ:Rho):R Fl:=r>>=fun _=>.ok (.nx ρ)
theorem qD (m:Rho->R W) (ρ:Rho):Cu m ρ=tW (m ρ) ρ:=rfl
theorem sW (w:W) (ρ:Rho):tW (.ok w) ρ=.ok (.nx ρ):=rfl
def eE (w:W):R Fl:=.ok (.rt w)
theorem uE (m:Rho->R W) (ρ:Rho):h9 m ρ=(m ρ>>=eE):=rfl
theorem uK (w:W):eE w=.ok (.rt w):=rfl
theorem qC (ρ:Rho):Cr ρ=.ok (.rt .non):=rfl
def ji (r:R W) (f:W->Sl) (i:Nat) (ρ:Rho):R Fl:=r>>=fun w=>.ok (.nx (ρ.set i (f w)))
theorem Cp (i:Nat) (m:Rho->R W) (ρ:Rho):sV i m ρ=ji (m ρ) Sl.val i ρ:=rfl
theorem Cq (i:Nat) (m:Rho->R W) (ρ:Rho):sU i m ρ=ji (m ρ) Sl.par i ρ:=rfl
theorem Ct (i:Nat) (m:Rho->R W) (ρ:Rho):sF i m ρ=ji (m ρ) N7 i ρ:=rfl
theorem xh (w:W) (f:W->Sl) (i:Nat) (ρ:Rho):ji (.ok w) f i ρ=.ok (.nx (ρ.set i (f w))):=rfl
theorem nF (ws:List W):N7 (.lst ws)=.own ws:=rfl
theorem nB (ws:List W):N7 (.tup ws)=.val (.tup ws):=rfl
theorem nG (i:Int):N7 (.int i)=.val (.int i):=rfl
theorem qx (i:Bool):N7 (.bl i)=.val (.bl i):=rfl
theorem nE:N7 .non=.val .non:=rfl
theorem nC (i:Str):N7 (.str i)=.val (.str i):=rfl
def xx:Option Rho->R Fl
 | some ρ=>.ok (.nx ρ)
 | none=>.stuck
def Cl (r:R W) (mg:W->Rho->Option Rho) (ρ:Rho):R Fl:=r>>=fun w=>toR (mg w ρ)>>=fun ρ'=>.ok (.nx ρ')
theorem Cs (mg:W->Rho->Option Rho) (m:Rho->R W) (ρ:Rho):sG mg m ρ=Cl (m ρ) mg ρ:=rfl
theorem xk (w:W) (mg:W->Rho->Option Rho) (ρ:Rho):Cl (.ok w) mg ρ=xx (mg w ρ):=by
 show (toR (mg w ρ)>>=_)=_
 cases mg w ρ <;> rfl
theorem nr (ρ:Rho):xx (some ρ)=.ok (.nx ρ):=rfl
def Ch (r:R (List W)) (mg:W->Rho->Option Rho) (mb:Rho->R Fl) (ρ:Rho):R Fl:=r>>=fun ws=>E7 mg mb ws ρ
theorem uG (mi:Rho->R (List W)) (mg:W->Rho->Option Rho) (mb:Rho->R Fl) (ρ:Rho):C7 mi mg mb ρ=Ch (mi ρ) mg mb ρ:=rfl
theorem xi (ws:List W) (mg:W->Rho->Option Rho) (mb:Rho->R Fl) (ρ:Rho):Ch (.ok ws) mg mb ρ=E7 mg mb ws ρ:=rfl
theorem uF (i:Nat) (m:Rho->R Fl) (ρ:Rho):hX i m ρ=m (frz i ρ):=rfl
def fg:Option Sl->Nat->Rho->Rho
 | some (.own ws),i,ρ=>ρ.set i (.val (.lst ws))
 | _,_,ρ=>ρ
theorem AM (i:Nat) (ρ:Rho):frz i ρ=fg (ρ[i]?) i ρ:=by
 unfold frz fg
 rcases h:ρ[i]? with _ | s
 ·rfl
 ·cases s <;> rfl
theorem sn (ws:List W) (i:Nat) (ρ:Rho):fg (some (.own ws)) i ρ=ρ.set i (.val (.lst ws)):=rfl
theorem sj (w:W) (i:Nat) (ρ:Rho):fg (some (.val w)) i ρ=ρ:=rfl
theorem sk (w:W) (i:Nat) (ρ:Rho):fg (some (.par w)) i ρ=ρ:=rfl
theorem wk (i:Nat) (ρ:Rho):fg (some .un) i ρ=ρ:=rfl
def rdS (d:Mode):Option Sl->R W
 | some (.val w)=>(match d with | .F=>chk w | _=>.ok w)
 | some (.par w)=>(match d with | .F=>chk w | .V=>chk w | .C=>chk w | _=>.ok w)
 | some (.own ws)=>(match d with | .C=>.ok (.lst ws) | .B=>.ok (.lst ws) | _=>.stuck)
 | some (.iop _ ws)=>(match d with | .B=>.ok (.lst ws) | .U=>.ok (.lst ws) | _=>.stuck)
 | some (.hz w)=>(match d with | .B=>.ok w | .U=>.ok w | _=>.stuck)
 | _=>.stuck
theorem eW (d:Mode) (i:Nat) (ρ:Rho):a9 d i ρ=rdS d (ρ[i]?):=by
 unfold a9 rdS
 rfl
theorem yw (w:W):rdS .F (some (.val w))=chk w:=rfl
theorem yt (w:W):rdS .V (some (.val w))=.ok w:=rfl
theorem yu (w:W):rdS .U (some (.val w))=.ok w:=rfl
theorem yx (w:W):rdS .C (some (.val w))=.ok w:=rfl
theorem yy (w:W):rdS .B (some (.val w))=.ok w:=rfl
theorem yB (w:W):rdS .F (some (.par w))=chk w:=rfl
theorem yz (w:W):rdS .V (some (.par w))=chk w:=rfl
theorem yA (w:W):rdS .U (some (.par w))=.ok w:=rfl
theorem yC (w:W):rdS .C (some (.par w))=chk w:=rfl
theorem yD (w:W):rdS .B (some (.par w))=.ok w:=rfl
theorem yE (ws:List W):rdS .C (some (.own ws))=.ok (.lst ws):=rfl
theorem yF (ws:List W):rdS .B (some (.own ws))=.ok (.lst ws):=rfl
def retS (d:Mode):Option Sl->R Fl
 | some (.own ws)=>.ok (.rt (.lst ws))
 | o=>rdS d o>>=eE
theorem lT (d:Mode) (i:Nat) (ρ:Rho):t8 d i ρ=retS d (ρ[i]?):=by
 unfold t8 retS
 rw [eW]
 rcases h:ρ[i]? with _ | s
 ·rfl
 ·cases s <;> rfl
theorem qK (d:Mode) (ws:List W):retS d (some (.own ws))=.ok (.rt (.lst ws)):=rfl
theorem qI (d:Mode) (w:W):retS d (some (.val w))=(rdS d (some (.val w))>>=eE):=rfl
theorem qJ (d:Mode) (w:W):retS d (some (.par w))=(rdS d (some (.par w))>>=eE):=rfl
def sR (o:Option Sl) (r:R W) (i:Nat) (ρ:Rho):R Fl:=match o with
 | some (.own ws)=>r>>=fun w=>if ws.length<1000 then .ok (.nx (ρ.set i (.own (ws ++ [w])))) else .stuck
 | _=>.stuck
theorem vP (i:Nat) (m:Rho->R W) (ρ:Rho):M4 i m ρ=sR (ρ[i]?) (m ρ) i ρ:=rfl
theorem wZ (ws:List W) (w:W) (i:Nat) (ρ:Rho):sR (some (.own ws)) (.ok w) i ρ=if ws.length<1000 then .ok (.nx (ρ.set i (.own (ws ++ [w])))) else .stuck:=rfl
def xL (o:Option Sl) (a b:R W) (i:Nat) (ρ:Rho):R Fl:=match o with
 | some (.own ws)=>b>>=fun w=>a>>=fun k=>(match k with
  | .int k=>(match ixN ws.length k with
   | some j=>.ok (.nx (ρ.set i (.own (ws.set j w))))
   | none=>.stuck)
  | _=>.stuck)
 | _=>.stuck
theorem vK (i:Nat) (mk me:Rho->R W) (ρ:Rho):ad i mk me ρ=xL (ρ[i]?) (mk ρ) (me ρ) i ρ:=rfl
def xM (o:Option Nat) (ws:List W) (w:W) (i:Nat) (ρ:Rho):R Fl:=match o with
 | some j=>.ok (.nx (ρ.set i (.own (ws.set j w))))
 | none=>.stuck
theorem uC (ws:List W) (w:W) (k:Int) (i:Nat) (ρ:Rho):xL (some (.own ws)) (.ok (.int k)) (.ok w) i ρ=xM (ixN ws.length k) ws w i ρ:=rfl
theorem nK (j:Nat) (ws:List W) (w:W) (i:Nat) (ρ:Rho):xM (some j) ws w i ρ=.ok (.nx (ρ.set i (.own (ws.set j w)))):=rfl
def Cc (f:Int->Int->Int) (a b:R W) (i:Nat) (ρ:Rho):R Fl:=a>>=fun x=>b>>=fun y=>match x,y with
 | .int a,.int b=>.ok (.nx (ρ.set i (.val (.int (f a b)))))
 | _,_=>.stuck
theorem vO (i:Nat) (f:Int->Int->Int) (m:Rho->R W) (ρ:Rho):iO i f m ρ=Cc f (rdS .B (ρ[i]?)) (m ρ) i ρ:=by
 rw [<- eW]; rfl
theorem wY (f:Int->Int->Int) (a b:Int) (i:Nat) (ρ:Rho):Cc f (.ok (.int a)) (.ok (.int b)) i ρ=.ok (.nx (ρ.set i (.val (.int (f a b))))):=rfl
def ifS (c:R Bool) (m n:Rho->R Fl) (ρ:Rho):R Fl:=c>>=fun b=>if b then m ρ else n ρ
theorem zL (c:Rho->R Bool) (m n:Rho->R Fl) (ρ:Rho):mIf c m n ρ=ifS (c ρ) m n ρ:=rfl
theorem AA (m n:Rho->R Fl) (ρ:Rho):ifS (.ok true) m n ρ=m ρ:=rfl
theorem AB (m n:Rho->R Fl) (ρ:Rho):ifS (.ok false) m n ρ=n ρ:=rfl
def Q3 (r:R Fl):R W:=r>>=fun f=>match f with
 | .rt w=>.ok w
 | .nx _=>.ok .non
 | _=>.stuck
theorem X2 {n N:Nat} {m:Rho->R Fl} {ws:List W} (h:ws.length=n):g8 n N m ws=Q3 (m (ws.map Sl.par++List.replicate (N-n) Sl.un)):=by unfold g8; rw [if_pos h]; rfl
theorem ye {N:Nat} {m:Rho->R Fl} (a:W):g8 1 N m [a]=Q3 (m (Sl.par a::List.replicate (N-1) Sl.un)):=X2 rfl
theorem yd {N:Nat} {m:Rho->R Fl} (a b:W):g8 2 N m [a,b]=Q3 (m (Sl.par a::Sl.par b::List.replicate (N-2) Sl.un)):=X2 rfl
theorem yc {N:Nat} {m:Rho->R Fl} (a b c:W):g8 3 N m [a,b,c]=Q3 (m (Sl.par a::Sl.par b::Sl.par c::List.replicate (N-3) Sl.un)):=X2 rfl
theorem yb {N:Nat} {m:Rho->R Fl} (a b c d:W):g8 4 N m [a,b,c,d]=Q3 (m (Sl.par a::Sl.par b::Sl.par c::Sl.par d::List.replicate (N-4) Sl.un)):=X2 rfl
theorem ya {N:Nat} {m:Rho->R Fl} (a b c d e:W):g8 5 N m [a,b,c,d,e]=Q3 (m (Sl.par a::Sl.par b::Sl.par c::Sl.par d::Sl.par e::List.replicate (N-5) Sl.un)):=X2 rfl
theorem wE (w:W):Q3 (.ok (.rt w))=.ok w:=rfl
theorem wF (ρ:Rho):Q3 (.ok (.nx ρ))=.ok .non:=rfl
theorem AZ (g:Int->Int->W) (i j:Int):fI0 g (.int i) (.int j)=.ok (g i j):=rfl
theorem fU_i (g:Int->W) (i:Int):fU g (.int i)=.ok (g i):=rfl
theorem Dn (ws:List W) (i:Int):fIx (.lst ws) (.int i)=toR (L2.atI ws i):=rfl
theorem Dl (ws:List W) (i:Int):fIx (.tup ws) (.int i)=toR (L2.atI ws i):=rfl
theorem Dm (ws:List W) (i:Int):fIx (.scr ws) (.int i)=toR (L2.atI ws i):=rfl
theorem qj {α:Type} (a:α):toR (some a)=.ok a:=rfl
theorem xy (b:Bool):toB (.bl b)=.ok b:=rfl
theorem AT (ws:List W):fLen [.lst ws]=.ok (.int ws.length):=rfl
theorem AR (ws:List W):fLen [.tup ws]=.ok (.int ws.length):=rfl
theorem AS (ws:List W):fLen [.scr ws]=.ok (.int ws.length):=rfl
theorem wn (c:Bool) (ws:List W):bP c [.lst ws]=chks c ws:=rfl
theorem wm (c:Bool) (ws:List W):bP c [.tup ws]=chks c ws:=rfl
theorem oY (c:Bool) (ws:List W):M5 c [.lst ws]=U8 c ws:=rfl
theorem AN (c:Bool) (ws:List W):M5 c [.tup ws]=U8 c ws:=rfl
theorem By (ws:List W):chks true ws=.ok (.lst ws):=rfl
theorem BF (ws:List W):U8 true ws=.ok (.tup ws):=rfl
theorem bW {c:Bool} {ws:List W} (h:k9 ws=true):chks c ws=.ok (.lst ws):=by unfold chks; rw [h,Bool.or_true,if_pos rfl]
theorem Y6 {c:Bool} {ws:List W} (h:k9 ws=true):U8 c ws=.ok (.tup ws):=by unfold U8; rw [h,Bool.or_true,if_pos rfl]
theorem BB (c:Bool) (ns:List Int):chks c (ns.map W.int)=.ok (.lst (ns.map W.int)):=bW (J9 ns)
theorem BH (c:Bool) (ns:List Int):U8 c (ns.map W.int)=.ok (.tup (ns.map W.int)):=Y6 (J9 ns)
theorem z9 {w:W} (h:noL w=true):chk w=.ok w:=by unfold chk; rw [if_pos h]
theorem wL (i:Int):chk (.int i)=.ok (.int i):=rfl
theorem BE (i:Bool):chk (.bl i)=.ok (.bl i):=rfl
theorem wJ (i:Str):chk (.str i)=.ok (.str i):=rfl
theorem wK:chk .non=.ok .non:=rfl
theorem BC (ns:List Int):chk (.tup (ns.map W.int))=.ok (.tup (ns.map W.int)):=z9 (J9 ns)
theorem Dp (g:Int->Int->Int) (i j:Int):f2 g [.int i,.int j]=.ok (.int (g i j)):=rfl
theorem xP (ws:List W):u8 (.lst ws)=.ok ws:=rfl
theorem xN (ws:List W):u8 (.tup ws)=.ok ws:=rfl
theorem xO (ws:List W):u8 (.scr ws)=.ok ws:=rfl
theorem yk (j:Int):S7 [.int j]=K3 0 j:=rfl
theorem yj (i j:Int):rng2 [.int i,.int j]=K3 i j:=rfl
theorem gN_U (i:Nat) (w:W) (ρ:Rho):gN .U i w ρ=some (ρ.set i (.par w)):=rfl
theorem gN_V (i:Nat) (w:W) (ρ:Rho):gN .V i w ρ=some (ρ.set i (.val w)):=rfl
theorem gT_t (n:Nat) (g:List W->Rho->Option Rho) (ws:List W) (ρ:Rho):gT n g (.tup ws) ρ=if ws.length=n then g ws ρ else none:=rfl
theorem rY (f:W->Rho->Option Rho) (g:List W->Rho->Option Rho) (w:W) (ws:List W) (ρ:Rho):l9 f g (w::ws) ρ=(f w ρ).bind (g ws):=rfl
theorem wa (ρ:Rho):gsNil [] ρ=some ρ:=rfl
theorem rC (ws:List W):lM ws=if ws.length<=1000 then .ok (.tup ws) else .stuck:=rfl
theorem rD (ws:List W):lN ws=if ws.length<=1000 then .ok (.lst ws) else .stuck:=rfl
theorem wo (x:W) (T:String):fIsi [x,.ty T]=(toR ((tyW x).bind fun A=>t6 A T)>>=fun b=>.ok (.bl b)):=rfl
theorem Ad:t6 "NoneType" "tuple" = some false:=by decide
theorem Ae:t6 "NoneType" "list" = some false:=by decide
theorem Ah:t6 "list" "tuple" = some false:=by decide
theorem zY:t6 "tuple" "list" = some false:=by decide
theorem AU (n:Bool) (u:W):M6 n u .non=.ok (.bl (if n then !isN u else isN u)):=rfl
theorem rJ {f:W->R (Option W)} {α:Type} (g:α->W) (s:α->W):∀ (as:List α),(∀ a∈as,f (s a)=.ok (some (g a)))->mapR f (as.map s)=.ok (as.map g):=by
 intro as
 induction as with
 | nil=>exact fun _=>rfl
 | cons a as ih=>
  intro h
  rw [List.map_cons,mapR,h a List.mem_cons_self,ih fun b hb=>h b (List.mem_cons_of_mem _ hb)]
  rfl
theorem jB {f:W->R (Option W)} {α:Type} (g:α->W) (s:α->W) (c:α->Bool):∀ (as:List α),(∀ a∈as,f (s a)=.ok (if c a then some (g a) else none))->mapR f (as.map s)=.ok ((as.filter c).map g):=by
 intro as
 induction as with
 | nil=>exact fun _=>rfl
 | cons a as ih=>
  intro h
  rw [List.map_cons,mapR,h a List.mem_cons_self,ih fun b hb=>h b (List.mem_cons_of_mem _ hb),List.filter_cons]
  cases c a <;> rfl
theorem n8 {N':Nat} {mg:W->Rho->Option Rho} {me:Rho->R W} {α:Type} (g:α->W) (s:α->W) (as:List α) (ρ:Rho) (hl:as.length<=1000)
  (h:∀ a∈as,∃ ρ1,mg (s a) (ρ++List.replicate (N'-ρ.length) Sl.un)=some ρ1/\me ρ1=.ok (g a)):m8 N' mg yes me (as.map s) ρ=.ok (.lst (as.map g)):=by
 unfold m8
 rw [List.length_map,if_pos hl,rJ g s as]
 intro a ha
 obtain ⟨ρ1,e1,e2⟩:=h a ha
 unfold elR
 rw [e1]
 have hy:yes ρ1=.ok true:=rfl
 dsimp only
 rw [hy]
 dsimp only
 rw [e2]
theorem iN {N':Nat} {mg:W->Rho->Option Rho} {mc:Rho->R Bool} {me:Rho->R W} {α:Type} (g:α->W) (s:α->W) (c:α->Bool) (as:List α) (ρ:Rho) (hl:as.length<=1000)
  (h:∀ a∈as,∃ ρ1,mg (s a) (ρ++List.replicate (N'-ρ.length) Sl.un)=some ρ1/\mc ρ1=.ok (c a)/\(c a=true->me ρ1=.ok (g a))):m8 N' mg mc me (as.map s) ρ=.ok (.lst ((as.filter c).map g)):=by
 unfold m8
 rw [List.length_map,if_pos hl,jB g s c as]
 intro a ha
 obtain ⟨ρ1,e1,e2,e3⟩:=h a ha
 unfold elR
 rw [e1]
 dsimp only
 rw [e2]
 cases hc:c a with
 | false=>rfl
 | true=>dsimp only; rw [e3 hc]; rfl
theorem qG {z:Int} (h0:-1000000<=z) (h:z<=1000000):K3 0 z=.ok ((List.range z.toNat).map fun k=>W.int (k:Nat)):=by
 unfold K3
 rw [if_pos (by omega)]
 simp
theorem aJ {n i:Nat} {w:W} (h:((List.range n).map fun k=>W.int (k:Nat))[i]?=some w):i<n/\w=.int (i:Nat):=by
 rw [List.getElem?_map] at h
 cases q:(List.range n)[i]? with
 | none=>rw [q] at h; cases h
 | some k=>
  rw [q] at h
  obtain ⟨h1,h2⟩:=List.getElem?_eq_some_iff.mp q
  simp at h1 h2
  subst h2
  cases h
  exact ⟨h1,rfl⟩
theorem zK {ns:List Int} {i:Nat} {w:W} (h:(ns.map W.int)[i]?=some w):i<ns.length/\w=.int (ns.getD i 0):=by
 rw [List.getElem?_map] at h
 cases q:ns[i]? with
 | none=>rw [q] at h; cases h
 | some k=>
  rw [q] at h
  cases h
  exact ⟨(List.getElem?_eq_some_iff.mp q).1,by rw [wd q]⟩
def Bs (xs:List Int) (lo hi:Option Int):List Int:=(xs.drop (HT.sIx xs.length 0 lo)).take (HT.sIx xs.length xs.length hi-HT.sIx xs.length 0 lo)
theorem Br (ns:List Int) (lo hi:Option Int):J3 (ns.map W.int) lo hi=(Bs ns lo hi).map W.int:=by
 unfold J3 Bs
 rw [List.length_map,<- List.map_drop,<- List.map_take]
theorem xK (ns:List Int) (j:Nat) (z:Int):(ns.map W.int).set j (.int z)=(ns.set j z).map W.int:=by rw [List.map_set]
theorem Cf (ns:List Int) (z:Int):ns.map W.int ++ [.int z]=(ns ++ [z]).map W.int:=by rw [List.map_append]; rfl
theorem yq (k:Nat) (z:Int):(List.replicate k [W.int z]).flatten=(List.replicate k z).map W.int:=by
 induction k with
 | zero=>rfl
 | succ k ih=>rw [List.replicate_succ,List.flatten_cons,ih,List.replicate_succ,List.map_cons]; rfl
theorem lQ {α:Type} (as:List α) (f:α->Int):(as.map fun a=>W.int (f a))=(as.map f).map W.int:=by rw [List.map_map]; rfl
theorem L7 {n k:Nat} {f:Nat->Int} (h:k<n):((List.range n).map f).getD k 0=f k:=by
 rw [List.getD_eq_getElem?_getD,List.getElem?_map]
 simp [h]
theorem br {a b:List Int} (h:b.length=a.length):(Z2 [a.map W.int,b.map W.int]).map W.tup=(List.range a.length).map fun k=>W.tup [.int (a.getD k 0),.int (b.getD k 0)]:=by
 apply List.ext_getElem?
 intro i
 simp only [Z2,List.getElem?_map,List.getElem?_zipWith]
 by_cases hi:i<a.length
 ·rw [J7 hi,J7 (ns:=b) (by omega)]; simp [hi]
 ·simp [hi]
theorem ue {a b c:List Int} (h:b.length=a.length) (h':c.length=a.length):(Z2 [a.map W.int,b.map W.int,c.map W.int]).map W.tup=(List.range a.length).map fun k=>W.tup [.int (a.getD k 0),.int (b.getD k 0),.int (c.getD k 0)]:=by
 apply List.ext_getElem?
 intro i
 simp only [Z2,List.getElem?_map,List.getElem?_zipWith,List.zip]
 by_cases hi:i<a.length
 ·rw [J7 hi,J7 (ns:=b) (by omega),J7 (ns:=c) (by omega)]; simp [hi]
 ·simp [hi]
theorem S2 (x y:W) (xs ys:List W) (hx:u8 x=.ok xs) (hy:u8 y=.ok ys):E3 [x,y]=.ok ((Z2 [xs,ys]).map W.tup):=by
 unfold E3
 simp only [List.length_cons,List.length_nil,Q5,hx,hy,Nat.reduceAdd,true_or,if_true]
theorem xl (x y z:W) (xs ys zs:List W) (hx:u8 x=.ok xs) (hy:u8 y=.ok ys) (hz:u8 z=.ok zs):E3 [x,y,z]=.ok ((Z2 [xs,ys,zs]).map W.tup):=by
 unfold E3
 simp only [List.length_cons,List.length_nil,Q5,hx,hy,hz,Nat.reduceAdd,or_true,if_true]
theorem CY {i j:Int} (h:-18446744073709551616<i/\i<18446744073709551616):fI CMul x9 (.int i) (.int j)=.ok (.int (i*j)):=by
 show (if CMul i j then _ else _)=_
 rw [if_pos (.inl (by simpa using h))]
theorem CW {i j:Int} (h:-18446744073709551616<j/\j<18446744073709551616):fI CMul x9 (.int i) (.int j)=.ok (.int (i*j)):=by
 show (if CMul i j then _ else _)=_
 rw [if_pos (.inr (by simpa using h))]
theorem zI {i j:Int} (h:0<j):fI F5 J0 (.int i) (.int j)=.ok (.int (i%j)):=by
 show (if F5 i j then _ else _)=_
 rw [if_pos h]
theorem div_ii {i j:Int} (h:0<j/\j<1073741824):fI bq sh (.int i) (.int j)=.ok (.int (i/j)):=by
 show (if bq i j then _ else _)=_
 rw [if_pos (show bq i j from h)]
theorem zc {i j:Int} (h:0<=j/\j<=1000000 /\ -18446744073709551616<i/\i<18446744073709551616):fI N5 aj (.int i) (.int j)=.ok (.int (i^j.toNat)):=by
 show (if N5 i j then _ else _)=_
 rw [if_pos ⟨h.1,h.2.1,by omega⟩]
theorem Cg {ws:List W} {w:W} {i:Nat} {ρ:Rho} (h:ws.length<1000):sR (some (.own ws)) (.ok w) i ρ=.ok (.nx (ρ.set i (.own (ws ++ [w])))):=by rw [wZ,if_pos h]
theorem vE {ws:List W} (h:ws.length<=1000):lM ws=.ok (.tup ws):=by rw [rC,if_pos h]
theorem vF {ws:List W} (h:ws.length<=1000):lN ws=.ok (.lst ws):=by rw [rD,if_pos h]
theorem pf {c:Bool} {us vs:List W} (h:us.length+vs.length<=1000):mf c (.lst us) (.lst vs)=chks c (us++vs):=by
 show (if us.length+vs.length<=1000 then _ else _)=_
 rw [if_pos h]
theorem AQ {c:Bool} {z:W} {k:Int} (h:0<=k/\k<=1000):fRep c (.lst [z]) (.int k)=chks c (List.replicate k.toNat [z]).flatten:=by
 show (if [z].length*k.toNat<=1000 /\ -1000<=k/\k<=1000 then _ else _)=_
 rw [if_pos ⟨by simp only [List.length_cons,List.length_nil]; omega,by omega,h.2⟩]
theorem DT {ns:List Int} {i:Int} (h:0<=i/\i<ns.length):L2.atI (ns.map W.int) i=some (.int (ns.getD i.toNat 0)):=atW h.1 h.2
theorem Df {n:Nat} {i:Int} (h:0<=i/\i<n):ixN n i=some i.toNat:=X8 h.1 h.2
theorem yh {z:Int} (h:-1000000<=z/\z<=1000000):K3 0 z=.ok ((List.range z.toNat).map fun k=>W.int (k:Nat)):=qG h.1 h.2
def Ok (r:R W) (P:W->Prop):Prop:=∃ w,r=.ok w/\P w
def Po (r:R Fl) (Jn:Rho->Prop) (Jr:W->Prop):Prop:=match r with
 | .ok (.nx ρ)=>Jn ρ
 | .ok (.rt w)=>Jr w
 | _=>False
theorem n6 {r:R Fl} {P:W->Prop} (h:Po r (fun _=>P .non) P):Ok (Q3 r) P:=by
 cases r with
 | ex _=>exact h.elim
 | stuck=>exact h.elim
 | ok f=>cases f with
  | nx ρ=>exact ⟨_,rfl,h⟩
  | rt w=>exact ⟨_,rfl,h⟩
  | bk _=>exact h.elim
  | ct _=>exact h.elim
theorem aS {r:R Fl} {n:Rho->R Fl} {Jn:Rho->Prop} {Jr:W->Prop} (h:Po r (fun ρ=>Po (n ρ) Jn Jr) Jr):Po (andThen r n) Jn Jr:=by
 cases r with
 | ex _=>exact h.elim
 | stuck=>exact h.elim
 | ok f=>cases f with
  | nx ρ=>exact h
  | rt w=>exact h
  | bk _=>exact h.elim
  | ct _=>exact h.elim
theorem CG {ρ:Rho} {Jn:Rho->Prop} {Jr:W->Prop}:Po (.ok (.nx ρ)) Jn Jr=Jn ρ:=rfl
theorem CF {w:W} {Jn:Rho->Prop} {Jr:W->Prop}:Po (.ok (.rt w)) Jn Jr=Jr w:=rfl
theorem K6 {b:Bool} {m n:Rho->R Fl} {ρ:Rho} {Jn:Rho->Prop} {Jr:W->Prop} (h1:b=true->Po (m ρ) Jn Jr) (h2:b=false->Po (n ρ) Jn Jr):Po (ifS (.ok b) m n ρ) Jn Jr:=by
 cases b with
 | true=>exact h1 rfl
 | false=>exact h2 rfl
theorem P3 {b:Bool} {m n:Rho->R Fl} {ρ:Rho} {k:Rho->R Fl} {Jn:Rho->Prop} {Jr:W->Prop} (h1:b=true->Po (andThen (m ρ) k) Jn Jr) (h2:b=false->Po (andThen (n ρ) k) Jn Jr):Po (andThen (ifS (.ok b) m n ρ) k) Jn Jr:=by
 cases b with
 | true=>exact h1 rfl
 | false=>exact h2 rfl
theorem Po.mono {r:R Fl} {Jn Jn':Rho->Prop} {Jr Jr':W->Prop} (h:Po r Jn Jr) (h1:∀ ρ,Jn ρ->Jn' ρ) (h2:∀ w,Jr w->Jr' w):Po r Jn' Jr':=by
 cases r with
 | ex _=>exact h
 | stuck=>exact h
 | ok f=>cases f with
  | nx ρ=>exact h1 ρ h
  | rt w=>exact h2 w h
  | bk _=>exact h
  | ct _=>exact h
theorem oh {mg:W->Rho->Option Rho} {mb:Rho->R Fl} {Jr:W->Prop} (I:Nat->Rho->Prop):∀ (ws:List W) (k:Nat) (ρ:Rho),I k ρ ->
  (∀ (i:Nat) (w:W) (ρ:Rho),ws[i]?=some w->I (k+i) ρ->∃ ρ1,mg w ρ=some ρ1/\Po (mb ρ1) (I (k+i+1)) Jr)->Po (E7 mg mb ws ρ) (I (k+ws.length)) Jr:=by
 intro ws
 induction ws with
 | nil=>exact fun k ρ h _=>h
 | cons w ws ih=>
  intro k ρ h st
  obtain ⟨ρ1,e1,p⟩:=st 0 w ρ rfl h
  unfold E7
  rw [e1]
  show Po (mb ρ1>>=_) _ _
  revert p
  cases mb ρ1 with
  | ex _=>exact fun p=>p.elim
  | stuck=>exact fun p=>p.elim
  | ok f=>cases f with
   | bk _=>exact fun p=>p.elim
   | ct _=>exact fun p=>p.elim
   | rt w=>exact fun p=>p
   | nx ρ2=>
    intro p
    have:=ih (k+1) ρ2 p fun i w ρ hw hp=>by
     have:=st (i+1) w ρ hw (by rw [<- Nat.succ_add_eq_add_succ k i]; exact hp)
     rw [<- Nat.succ_add_eq_add_succ k i] at this
     exact this
    rw [List.length_cons,<- Nat.succ_add_eq_add_succ k ws.length]
    exact this
theorem dg {mg:W->Rho->Option Rho} {mb:Rho->R Fl} {ws:List W} {ρ:Rho} {Jn:Rho->Prop} {Jr:W->Prop} (I:Nat->Rho->Prop) (h0:I 0 ρ)
  (st:∀ (i:Nat) (w:W) (ρ:Rho),ws[i]?=some w->I i ρ->∃ ρ1,mg w ρ=some ρ1/\Po (mb ρ1) (I (i+1)) Jr) (hn:∀ ρ,I ws.length ρ->Jn ρ):Po (E7 mg mb ws ρ) Jn Jr:=by
 have:=oh (mg:=mg) (mb:=mb) (Jr:=Jr) I ws 0 ρ h0 fun i w ρ hw hp=>by rw [Nat.zero_add] at hp ⊢; exact st i w ρ hw hp
 rw [Nat.zero_add] at this
 exact this.mono hn fun _ h=>h
theorem t7 {mg:W->Rho->Option Rho} {mb n:Rho->R Fl} {ws:List W} {ρ:Rho} {Jn:Rho->Prop} {Jr:W->Prop} (I:Nat->Rho->Prop) (h0:I 0 ρ)
  (st:∀ (i:Nat) (w:W) (ρ:Rho),ws[i]?=some w->I i ρ->∃ ρ1,mg w ρ=some ρ1/\Po (mb ρ1) (I (i+1)) Jr) (hn:∀ ρ,I ws.length ρ->Po (n ρ) Jn Jr):Po (andThen (E7 mg mb ws ρ) n) Jn Jr:=aS (dg I h0 st hn)
theorem cK {c:Rho->R Bool} {b:Rho->R Fl} {Jn:Rho->Prop} {Jr:W->Prop} (I:Nat->Rho->Prop)
  (st:∀ m ρ,I m ρ->∃ t,c ρ=.ok t/\if t=true then Po (b ρ) (fun ρ'=>∃ m',m'<m/\I m' ρ') Jr else Jn ρ):∀ (m:Nat) (ρ:Rho),I m ρ->Po (K8 c b ρ) Jn Jr:=by
 have key:∀ (m:Nat) (ρ:Rho),I m ρ->∃ r,E1 c b (m+1) ρ=some r/\Po r Jn Jr:=by
  intro m
  induction m using Nat.strongRecOn with
  | ind m ih=>
   intro ρ h
   obtain ⟨t,e,q⟩:=st m ρ h
   unfold E1
   rw [e]
   cases t with
   | false=>rw [if_neg Bool.false_ne_true] at q; exact ⟨_,rfl,q⟩
   | true=>
    rw [if_pos rfl] at q
    dsimp only
    revert q
    cases b ρ with
    | ex _=>exact fun q=>q.elim
    | stuck=>exact fun q=>q.elim
    | ok f=>cases f with
     | bk _=>exact fun q=>q.elim
     | ct _=>exact fun q=>q.elim
     | rt w=>exact fun q=>⟨_,rfl,q⟩
     | nx ρ'=>
      intro ⟨m',hm,h'⟩
      obtain ⟨r,e',q'⟩:=ih m' hm ρ' h'
      exact ⟨r,ah (m'+1) ρ' r e' m (by omega),q'⟩
 intro m ρ h
 obtain ⟨r,e,q⟩:=key m ρ h
 rw [fL e]
 exact q
theorem jW {f:W->R (Option W)} {α:Type} (s:α->W) (p:α->Int->Prop):∀ (as:List α),(∀ a∈as,∃ z,f (s a)=.ok (some (.int z))/\p a z)->∃ zs:List Int,mapR f (as.map s)=.ok (zs.map W.int)/\Paired p as zs
 | [],_=>⟨[],rfl,.nil⟩
 | a::as,h=>by
  obtain ⟨z,e,hz⟩:=h a (by simp)
  obtain ⟨zs,e2,hp⟩:=jW s p as fun b hb=>h b (by simp [hb])
  refine ⟨z::zs,?_,.cons hz hp⟩
  rw [List.map_cons,mapR,e,e2]; rfl
theorem lU {N':Nat} {mg:W->Rho->Option Rho} {me:Rho->R W} {α:Type} {as:List α} {s:α->W} {ρ:Rho} (p:α->Int->Prop) (hl:as.length<=1000)
  (h:∀ a∈as,∃ ρ1,mg (s a) (ρ++List.replicate (N'-ρ.length) Sl.un)=some ρ1/\Ok (me ρ1) fun w=>∃ z,w=.int z/\p a z):∃ zs:List Int,m8 N' mg yes me (as.map s) ρ=.ok (lI zs)/\Paired p as zs:=by
 obtain ⟨zs,e,hp⟩:=jW (f:=elR mg yes me (ρ++List.replicate (N'-ρ.length) Sl.un)) s p as fun a ha=>by
  obtain ⟨ρ1,e1,w,e2,z,rfl,hz⟩:=h a ha
  refine ⟨z,?_,hz⟩
  unfold elR
  rw [e1]
  have hy:yes ρ1=.ok true:=rfl
  dsimp only
  rw [hy]
  dsimp only
  rw [e2]
 refine ⟨zs,?_,hp⟩
 unfold m8
 rw [List.length_map,if_pos hl,e]
def OkL (r:R (List W)) (P:List W->Prop):Prop:=∃ w,r=.ok w/\P w
theorem ze {r:R W} {Jn:Rho->Prop} {Jr:W->Prop} (h:Ok r Jr):Po (r>>=eE) Jn Jr:=by
 obtain ⟨w,rfl,q⟩:=h; exact q
theorem zd {r:R W} {f:W->Sl} {i:Nat} {ρ:Rho} {Jn:Rho->Prop} {Jr:W->Prop} (h:Ok r fun w=>Jn (ρ.set i (f w))):Po (ji r f i ρ) Jn Jr:=by
 obtain ⟨w,rfl,q⟩:=h; exact q
theorem rp {r:R (List W)} {f:List W->R W} {P:W->Prop} (h:OkL r fun w=>Ok (f w) P):Ok (r>>=f) P:=by
 obtain ⟨w,rfl,q⟩:=h; exact q
theorem CT {a:R W} {xs:List W} {P:List W->Prop} (h:Ok a fun x=>P (x::xs)):OkL (mL a (.ok xs)) P:=by
 obtain ⟨w,rfl,q⟩:=h; exact ⟨_,rfl,q⟩
theorem vq {N':Nat} {mg:W->Rho->Option Rho} {me:Rho->R W} {α:Type} {as:List α} {s:α->W} {ρ:Rho} {P:W->Prop} (p:α->Int->Prop) (hl:as.length<=1000)
  (h:∀ a∈as,∃ ρ1,mg (s a) (ρ++List.replicate (N'-ρ.length) Sl.un)=some ρ1/\Ok (me ρ1) fun w=>∃ z,w=.int z/\p a z) (hp:∀ zs,Paired p as zs->P (lI zs)):Ok (m8 N' mg yes me (as.map s) ρ) P:=by
 obtain ⟨zs,e,q⟩:=lU (mg:=mg) (me:=me) (ρ:=ρ) (N':=N') p hl h
 exact ⟨_,e,hp zs q⟩
theorem sf (i j:Int):ff i j=max i j:=by unfold ff; omega
theorem se (i j:Int):AG i j=min i j:=by unfold AG; omega
def oW:Option Int->W
 | none=>.non
 | some i=>.int i
theorem oW_n:oW none=.non:=rfl
theorem oW_s (i:Int):oW (some i)=.int i:=rfl
theorem oB (o:Option Int):noL (oW o)=true:=by cases o <;> rfl
theorem BD (o:Option Int):chk (oW o)=.ok (oW o):=z9 (oB o)
theorem T7 {α:Type} (f:α->W) (h:∀ a,noL (f a)=true) (as:List α):k9 (as.map f)=true:=by
 induction as with
 | nil=>rfl
 | cons a as ih=>rw [List.map_cons]; simp only [k9,h,ih,Bool.and_self]
theorem y4 (cs:List (Option Int)):k9 (cs.map oW)=true:=T7 oW oB cs
theorem BA (c:Bool) (cs:List (Option Int)):chks c (cs.map oW)=.ok (.lst (cs.map oW)):=bW (y4 cs)
theorem pC (c:Bool) (cs:List (Option Int)):U8 c (cs.map oW)=.ok (.tup (cs.map oW)):=Y6 (y4 cs)
theorem Ap (o:Option Int):isN (oW o)=o.isNone:=by cases o <;> rfl
theorem qw (o:Option Int):N7 (oW o)=.val (oW o):=by cases o <;> rfl
theorem Y9 {α:Type} (f:α->W) {as:List α} {d:α} {i:Int} (h:0<=i/\i<as.length):L2.atI (as.map f) i=some (f (as.getD i.toNat d)):=by
 unfold L2.atI
 rw [List.length_map,X8 h.1 h.2]
 show (as.map f)[i.toNat]?=_
 have hi:i.toNat<as.length:=by omega
 rw [List.getElem?_map,List.getD_eq_getElem?_getD]
 simp [hi]
theorem DV {cs:List (Option Int)} {i:Int} (h:0<=i/\i<cs.length):L2.atI (cs.map oW) i=some (oW (cs.getD i.toNat none)):=Y9 oW h
theorem appO (cs:List (Option Int)) (o:Option Int):cs.map oW ++ [oW o]=(cs ++ [o]).map oW:=by rw [List.map_append]; rfl
theorem dU {α β:Type} (f:α->W) (g:β->W) {a:List α} {b:List β} (h:b.length=a.length) (x:α) (y:β):(Z2 [a.map f,b.map g]).map W.tup=(List.range a.length).map fun k=>W.tup [f (a.getD k x),g (b.getD k y)]:=by
 apply List.ext_getElem?
 intro i
 simp only [Z2,List.getElem?_map,List.getElem?_zipWith]
 by_cases hi:i<a.length
 ·have hb:i<b.length:=by omega
  simp [hi,hb]
 ·simp [hi]
theorem il {n i:Nat} {f:Nat->W} {w:W} (h:((List.range n).map f)[i]?=some w):i<n/\w=f i:=by
 rw [List.getElem?_map] at h
 cases q:(List.range n)[i]? with
 | none=>rw [q] at h; cases h
 | some k=>
  rw [q] at h
  obtain ⟨h1,h2⟩:=List.getElem?_eq_some_iff.mp q
  simp at h1 h2
  subst h2
  cases h
  exact ⟨h1,rfl⟩
theorem X5 (ns:List Int):noL (tI ns)=true:=J9 ns
theorem dq (ss:List (List Int)):k9 (ss.map tI)=true:=T7 tI X5 ss
theorem Bz (c:Bool) (ss:List (List Int)):chks c (ss.map tI)=.ok (.lst (ss.map tI)):=bW (dq ss)
theorem BG (c:Bool) (ss:List (List Int)):U8 c (ss.map tI)=.ok (.tup (ss.map tI)):=Y6 (dq ss)
theorem DU {ss:List (List Int)} {i:Int} (h:0<=i/\i<ss.length):L2.atI (ss.map tI) i=some (tI (ss.getD i.toNat [])):=Y9 tI h
theorem Ce (ss:List (List Int)) (s:List Int):ss.map tI ++ [tI s]=(ss ++ [s]).map tI:=by rw [List.map_append]; rfl
def sw {α:Type} (xs:List α) (lo hi:Option Int):List α:=(xs.drop (HT.sIx xs.length 0 lo)).take (HT.sIx xs.length xs.length hi-HT.sIx xs.length 0 lo)
theorem sv {α:Type} (f:α->W) (as:List α) (lo hi:Option Int):J3 (as.map f) lo hi=(sw as lo hi).map f:=by
 unfold J3 sw
 rw [List.length_map,<- List.map_drop,<- List.map_take]
theorem Bq (ss:List (List Int)) (lo hi:Option Int):J3 (ss.map tI) lo hi=(sw ss lo hi).map tI:=sv tI ss lo hi
theorem BI (ss ts:List (List Int)):ss.map tI++ts.map tI=(ss++ts).map tI:=by rw [List.map_append]
theorem BJ (ss ts:List Int):ss.map W.int++ts.map W.int=(ss++ts).map W.int:=by rw [List.map_append]
theorem yi {lo hi:Int} (h:-1000000<=lo/\lo<=1000000 /\ -1000000<=hi/\hi<=1000000):K3 lo hi=.ok ((List.range (hi-lo).toNat).map fun k=>W.int (lo+(k:Nat))):=by
 unfold K3
 rw [if_pos h]
theorem cD {α:Type} (f:α->W) (n:Nat) (h:∀ a,shp n (f a)=true) (as:List α):S4 n (as.map f)=true:=by
 induction as with
 | nil=>rfl
 | cons a as ih=>rw [List.map_cons]; simp only [S4,h,ih,Bool.and_self]
theorem bB (n:Nat) (i:Int):shp n (.int i)=true:=by cases n <;> rfl
theorem nJ (n:Nat) (b:Bool):shp n (.bl b)=true:=by cases n <;> rfl
theorem gU (n:Nat) (ns:List Int):shp (n+1) (tI ns)=true:=cD W.int n (bB n) ns
theorem nI (n:Nat) (ns:List Int):shp (n+1) (lI ns)=true:=cD W.int n (bB n) ns
theorem nH (n:Nat) (ss:List (List Int)):shp (n+2) (.lst (ss.map tI))=true:=cD tI (n+1) (gU n) ss
theorem eqI:∀ (a b:List Int),PyData.eqvAll (pds (a.map W.int)) (pds (b.map W.int))=decide (a=b)
 | [],[]=>by simp [pds,PyData.eqvAll]
 | [],_::_=>by simp [pds,PyData.eqvAll]
 | _::_,[]=>by simp [pds,PyData.eqvAll]
 | x::a,y::b=>by
  simp only [List.map_cons,pds,pd,PyData.eqvAll,PyData.eqv,eqI a b]
  by_cases h:x=y <;> by_cases h':a=b <;> simp [h,h']
theorem Ba (neg:Bool) (a b:List Int):fEq neg (tI a) (tI b)=.ok (.bl (if neg then !decide (a=b) else decide (a=b))):=by
 unfold fEq
 rw [gU,gU]
 have:eqW (tI a) (tI b)=decide (a=b):=eqI a b
 rw [this]; rfl
theorem Be (neg:Bool) (a b:List Int):fEq neg (lI a) (lI b)=.ok (.bl (if neg then !decide (a=b) else decide (a=b))):=by
 unfold fEq
 rw [nI,nI]
 have:eqW (lI a) (lI b)=decide (a=b):=eqI a b
 rw [this]; rfl
theorem Bn:∀ (a b:List (List Int)),PyData.eqvAll (pds (a.map tI)) (pds (b.map tI))=decide (a=b)
 | [],[]=>by simp [pds,PyData.eqvAll]
 | [],_::_=>by simp [pds,PyData.eqvAll]
 | _::_,[]=>by simp [pds,PyData.eqvAll]
 | x::a,y::b=>by
  simp only [List.map_cons,pds,pd,PyData.eqvAll,PyData.eqv,Bn a b,eqI]
  by_cases h:x=y <;> by_cases h':a=b <;> simp [h,h']
theorem Bd (neg:Bool) (a b:List (List Int)):fEq neg (.lst (a.map tI)) (.lst (b.map tI))=.ok (.bl (if neg then !decide (a=b) else decide (a=b))):=by
 unfold fEq
 rw [nH,nH]
 have:eqW (.lst (a.map tI)) (.lst (b.map tI))=decide (a=b):=Bn a b
 rw [this]; rfl
theorem oZ (neg:Bool) (i j:Int):fEq neg (.int i) (.int j)=.ok (.bl (if neg then !decide (i=j) else decide (i=j))):=by
 unfold fEq
 rw [bB,bB]
 have:eqW (.int i) (.int j)=decide (i=j):=by
  by_cases h:i=j <;> simp [eqW,pd,PyData.eqv,h]
 rw [this]; rfl
theorem Bg (neg:Bool) (i j:Bool):fEq neg (.bl i) (.bl j)=.ok (.bl (if neg then !decide (i=j) else decide (i=j))):=by
 unfold fEq
 rw [nJ,nJ]
 have:eqW (.bl i) (.bl j)=decide (i=j):=by cases i <;> cases j <;> rfl
 rw [this]; rfl
theorem Bc (neg:Bool) (j:Int):fEq neg .non (.int j)=.ok (.bl neg):=by cases neg <;> rfl
theorem Bf (neg:Bool) (j:Int):fEq neg (.int j) .non=.ok (.bl neg):=by cases neg <;> rfl
theorem Bb (neg:Bool):fEq neg .non .non=.ok (.bl (!neg)):=by cases neg <;> rfl
theorem sr (g:List Bool->Bool) (bs:List Bool):bg g [.lst (bs.map W.bl)]=.ok (.bl (g bs)):=by
 show (toR (V1 (bs.map W.bl))>>=_)=_
 rw [wU]; rfl
theorem wp (g:List Int->Int) (ns:List Int):Do g [.lst (ns.map W.int)]=.ok (.int (g ns)):=by
 show (toR (t9 (ns.map W.int))>>=_)=_
 rw [ints_map]; rfl
theorem AW (i:Int):AY [.int i]=.ok (.int i):=rfl
theorem AX (b:Bool):AY [.bl b]=.ok (.int (if b then 1 else 0)):=rfl
theorem Bh (i:Int):fAbs [.int i]=.ok (.int (if i<0 then -i else i)):=rfl
def Bj (o:Option Sl) (r:R W) (c:Bool) (i:Nat) (ρ:Rho):R Fl:=match o with
 | some (.own ws)=>r>>=fun w=>(match w with
  | .lst us=>if ws.length+us.length<=1000 then (if c||k9 us then .ok (.nx (ρ.set i (.own (ws++us)))) else .stuck) else .stuck
  | _=>.stuck)
 | _=>.stuck
theorem vN (i:Nat) (c:Bool) (m:Rho->R W) (ρ:Rho):iM i c m ρ=Bj (ρ[i]?) (m ρ) c i ρ:=rfl
theorem Bi {ws us:List W} {c:Bool} {i:Nat} {ρ:Rho} (h:ws.length+us.length<=1000):Bj (some (.own ws)) (.ok (.lst us)) c i ρ=if c||k9 us then .ok (.nx (ρ.set i (.own (ws++us)))) else .stuck:=by
 show (if ws.length+us.length<=1000 then _ else _)=_
 rw [if_pos h]
def yp (o:Option Sl) (i:Nat) (ρ:Rho):R Fl:=match o with
 | some (.own ws)=>.ok (.nx (ρ.set i (.own ws.reverse)))
 | _=>.stuck
theorem vM (i:Nat) (ρ:Rho):iL i ρ=yp (ρ[i]?) i ρ:=rfl
theorem uJ (ws:List W) (i:Nat) (ρ:Rho):yp (some (.own ws)) i ρ=.ok (.nx (ρ.set i (.own ws.reverse))):=rfl
theorem S8 {r:R Fl} {n:Rho->R Fl} {Jn:Rho->Prop} {Jr:W->Prop} (J:Rho->Prop) (h1:Po r J Jr) (h2:∀ ρ,J ρ->Po (n ρ) Jn Jr):Po (andThen r n) Jn Jr:=aS (h1.mono h2 fun _ h=>h)
theorem wj (i j:Int):o7 i j=.int (i+j):=rfl
theorem wf (i j:Int):TP.gSub i j=.int (i-j):=rfl
theorem AH (i j:Int):gLt i j=.bl (decide (i<j)):=rfl
theorem AI (i j:Int):gLe i j=.bl (decide (i<=j)):=rfl
theorem AJ (i j:Int):gGt i j=.bl (decide (j<i)):=rfl
theorem AK (i j:Int):gGe i j=.bl (decide (j<=i)):=rfl
theorem wg (i:Int):ak i=.int (-i):=rfl
theorem si (i j:Int):tQ i j=i+j:=rfl
theorem sd (i j:Int):Dh i j=i-j:=rfl
theorem AO {i:Int} (h:0<=i/\i<1000):fStr [.int i]=.ok (.str (toString i)):=by
 show (if i.natAbs.log2<1920 then _ else _)=_
 rw [if_pos]
 refine Nat.lt_of_le_of_lt (Nat.log2_le_self _) ?_
 omega
theorem AV (neg:Bool) (u:W) (b:Bool):fIsB neg u (.bl b)=.ok (.bl (if neg then !W5 u b else W5 u b)):=rfl
theorem Av (i:Int) (b:Bool):W5 (.int i) b=false:=rfl
theorem As (b:Bool):W5 .non b=false:=rfl
theorem Ar (x:Str) (b:Bool):W5 (.str x) b=false:=rfl
theorem Aq (x:List W) (b:Bool):W5 (.tup x) b=false:=rfl
theorem Au (x:List W) (b:Bool):W5 (.lst x) b=false:=rfl
theorem Aw (a b:Bool):W5 (.bl a) b=(a == b):=rfl
def Rcu (c:Bool) (r:R (List W)) (f:List W->R W) (i:Nat) (ρ:Rho):R Fl:=if c then (r>>=fun ws=>f ws>>=fun w=>.ok (.nx (ρ.set i (.par w)))) else .stuck
theorem xW (i:Nat) (f:List W->R W) (ma:Rho->R (List W)) (ρ:Rho):sCU i f ma ρ=Rcu (noOwn ρ) (ma ρ) f i ρ:=rfl
def Cj (r:R W) (i:Nat) (ρ:Rho):R Fl:=r>>=fun w=>.ok (.nx (ρ.set i (.par w)))
theorem DY (ws:List W) (f:List W->R W) (i:Nat) (ρ:Rho):Rcu true (.ok ws) f i ρ=Cj (f ws) i ρ:=rfl
theorem xj (w:W) (i:Nat) (ρ:Rho):Cj (.ok w) i ρ=.ok (.nx (ρ.set i (.par w))):=rfl
theorem oz:noOwn []=true:=rfl
theorem vv (w:W) (ρ:Rho):noOwn (.val w::ρ)=noOwn ρ:=rfl
theorem vx (w:W) (ρ:Rho):noOwn (.par w::ρ)=noOwn ρ:=rfl
theorem vw (ρ:Rho):noOwn (.un::ρ)=noOwn ρ:=rfl
theorem wA {g:List Int->Int} {ns:List Int} (h:0<ns.length):tR g [tI ns]=.ok (.int (g ns)):=by
 show (toR (t9 (ns.map W.int))>>=_)=_
 rw [ints_map]
 show (if 0<ns.length then _ else _)=_
 rw [if_pos h]
theorem wB {g:List Int->Int} {ns:List Int} (h:0<ns.length):tR g [lI ns]=.ok (.int (g ns)):=by
 show (toR (t9 (ns.map W.int))>>=_)=_
 rw [ints_map]
 show (if 0<ns.length then _ else _)=_
 rw [if_pos h]
theorem yo (ws:List W):eD [.lst ws]=.ok ws.reverse:=rfl
def rp0:=Z1 (@sf) (Z1 (@se) (Z1 (@CG) (Z1 (@CF) (Z1 (@CY) (Z1 (@CW) (Z1 (@zI) (Z1 (@div_ii) (Z1 (@zc) (Z1 (@Cg) (Z1 (@vE) (Z1 (@vF) (Z1 (@pf) (Z1 (@AQ) (Z1 (@DT) (Z1 (@Df) (Z1 (@yh) (Z1 (@Br) (Z1 (@xK) (Z1 (@Cf) (Z1 (@yq) (Z1 (@vL) (Z1 (@mH) (Z1 (@mG) (@mJ))))))))))))))))))))))))
def rp1:=Z1 (@mI) (Z1 (@Db) (Z1 (@DS) (Z1 (@DR) (Z1 (@Cm) (Z1 (@DQ) (Z1 (@DP) (Z1 (@DO) (Z1 (@DW) (Z1 (@DX) (Z1 (@sX) (Z1 (@wX) (Z1 (@sP) (Z1 (@ur) (Z1 (@xz) (Z1 (@uq) (Z1 (@uU) (Z1 (@uV) (Z1 (@uT) (Z1 (@yK) (Z1 (@yJ) (Z1 (@yL) (Z1 (@uP) (Z1 (@uk) (@xq))))))))))))))))))))))))
def rp2:=Z1 (@ui) (Z1 (@qP) (Z1 (@qQ) (Z1 (@qO) (Z1 (@uN) (Z1 (@uM) (Z1 (@uO) (Z1 (@qN) (Z1 (@xr) (Z1 (@uQ) (Z1 (@uS) (Z1 (@uR) (Z1 (@nc) (Z1 (@pU) (Z1 (@uh) (Z1 (@uj) (Z1 (@CP) (Z1 (@CO) (Z1 (@on) (Z1 (@xp) (Z1 (@xg) (Z1 (@xf) (Z1 (@qc) (Z1 (@sY) (@xT))))))))))))))))))))))))
def rp3:=Z1 (@xX) (Z1 (@xU) (Z1 (@qD) (Z1 (@sW) (Z1 (@uE) (Z1 (@uK) (Z1 (@qC) (Z1 (@Cp) (Z1 (@Cq) (Z1 (@Ct) (Z1 (@xh) (Z1 (@nF) (Z1 (@nB) (Z1 (@nG) (Z1 (@qx) (Z1 (@nE) (Z1 (@nC) (Z1 (@Cs) (Z1 (@xk) (Z1 (@nr) (Z1 (@uG) (Z1 (@xi) (Z1 (@uF) (Z1 (@AM) (@sn))))))))))))))))))))))))
def rp4:=Z1 (@sj) (Z1 (@sk) (Z1 (@wk) (Z1 (@eW) (Z1 (@yw) (Z1 (@yt) (Z1 (@yu) (Z1 (@yx) (Z1 (@yy) (Z1 (@yB) (Z1 (@yz) (Z1 (@yA) (Z1 (@yC) (Z1 (@yD) (Z1 (@yE) (Z1 (@yF) (Z1 (@lT) (Z1 (@qK) (Z1 (@qI) (Z1 (@qJ) (Z1 (@vP) (Z1 (@vK) (Z1 (@uC) (Z1 (@nK) (@vO))))))))))))))))))))))))
def rp5:=Z1 (@wY) (Z1 (@zL) (Z1 (@AA) (Z1 (@AB) ((((((Z1 (@wE) (Z1 (@wF) (Z1 (@AZ) (Z1 (@fU_i) (Z1 (@Dn) (Z1 (@Dl) (Z1 (@Dm) (Z1 (@qj) (Z1 (@xy) (Z1 (@AT) (Z1 (@AR) (Z1 (@AS) (Z1 (@wn) (Z1 (@wm) (Z1 (@oY) (@AN))))))))))))))))))))))))
def rp6:=Z1 (@By) (Z1 (@BF) (Z1 (@BB) (Z1 (@BH) (Z1 (@wL) (Z1 (@BE) (Z1 (@wJ) (Z1 (@wK) (Z1 (@BC) (Z1 (@Dp) (Z1 (@xP) (Z1 (@xN) (Z1 (@xO) (Z1 (@yk) (Z1 (@yj) (Z1 (@gN_U) (Z1 (@gN_V) (Z1 (@gT_t) (Z1 (@rY) (Z1 (@wa) (Z1 (@wo) (Z1 (@Ad) (Z1 (@Ae) (Z1 (@Ah) (@zY))))))))))))))))))))))))
def rp7:=Z1 (@AU) (Z1 (@J9) (Z1 (@wx) (Z1 (@wy) (Z1 (@wq) (Z1 (@wu) (Z1 (@wv) (@ww)))))))
def rp8:=Z1 (@oW_n) (Z1 (@oW_s) (Z1 (@BD) (Z1 (@y4) (Z1 (@BA) (Z1 (@pC) (Z1 (@Ap) (Z1 (@qw) (Z1 (@DV) (@appO)))))))))
def rp9:=Z1 (@dq) (Z1 (@Bz) (Z1 (@BG) (Z1 (@DU) (Z1 (@Ce) (Z1 (@Bq) (Z1 (@BI) (Z1 (@BJ) (Z1 (@yi) (Z1 (@Ba) (Z1 (@Be) (Z1 (@Bd) (Z1 (@oZ) (Z1 (@Bg) (Z1 (@Bc) (Z1 (@Bf) (Z1 (@Bb) ((Z1 (@sr) (Z1 (@wp) (Z1 (@AW) (Z1 (@AX) (Z1 (@Bh) (Z1 (@vN) (Z1 (@Bi) (Z1 (@vM) (@uJ))))))))))))))))))))))))))
def rp10:=Z1 (@wj) (Z1 (@wf) (Z1 (@AH) (Z1 (@AI) (Z1 (@AJ) (Z1 (@AK) (Z1 (@wg) (Z1 (@si) (@sd))))))))
def rp11:=Z1 (@AO) (Z1 (@AV) (Z1 (@Av) (Z1 (@As) (Z1 (@Ar) (Z1 (@Aq) (Z1 (@Au) (@Aw)))))))
def rp12:=Z1 (@xW) (Z1 (@DY) (Z1 (@xj) (Z1 (@oz) (Z1 (@vv) (Z1 (@vx) (@vw))))))
def rp13:=Z1 (@wA) (Z1 (@wB) (@yo))
end TP
set_option maxHeartbeats 4000000
open PySem L2 TP
namespace K47
def iK:Rho->R Fl:=
 (c8 (C7 (bI E3 (aC (a9 .U 0) (aC (a9 .U 1) aN))) (gT 2 (l9 (gN .U 2) (l9 (gN .U 3) gsNil)))
   (mIf (d5 (b2 (fI0 gLt) (a9 .B 2) (a9 .B 3))) (h9 (mC (.bl false))) sNx))
  (h9 (mC (.bl true))))
abbrev U4:List W->R W:=g8 2 4 iK
def oE:Rho->R Fl:=
 (h9 (bA U4 (aC (a9 .B 0) (aC (b2 fIx (a9 .B 1) (mC (.int 0))) aN))))
abbrev dG:List W->R W:=g8 2 2 oE
def cN:Rho->R Fl:=
 (h9 (bA (M5 true) (aC (w9 3 (bI E3 (aC (b2 fIx (a9 .B 0) (mC (.int 0))) (aC (b2 fIx (a9 .B 0) (mC (.int 1))) aN))) (gT 2 (l9 (gN .U 1) (l9 (gN .U 2) gsNil))) yes (b2 (fI0 gSub) (a9 .B 2) (a9 .B 1))) aN)))
abbrev U5:List W->R W:=g8 1 1 cN
def ke:Rho->R Fl:=
 (c8 (mIf (y8 (d5 (bA dG (aC (a9 .B 0) (aC (a9 .B 1) aN))))) hV sNx)
  (h9 (bA (M5 true) (aC (w9 4 (bI E3 (aC (a9 .B 0) (aC (bA U5 (aC (a9 .B 1) aN)) aN))) (gT 2 (l9 (gN .U 2) (l9 (gN .U 3) gsNil))) yes (b2 (fI0 o7) (a9 .B 2) (a9 .B 3))) aN))))
abbrev Y1:List W->R W:=g8 2 2 ke
def jX:Rho->R Fl:=
 (c8 (C7 (bI E3 (aC (a9 .U 0) (aC (a9 .U 1) aN))) (gT 2 (l9 (gN .U 2) (l9 (gN .U 3) gsNil)))
   (mIf (cX (d5 (b2 (M6 true) (a9 .B 3) (mC .non))) (aA (d5 (b2 (M6 false) (a9 .B 2) (mC .non))) (d5 (b2 (fI0 gGt) (a9 .B 2) (a9 .B 3))))) (h9 (mC (.bl false))) sNx))
  (h9 (mC (.bl true))))
abbrev S1:List W->R W:=g8 2 4 jX
def cp:Rho->R Fl:=
 (c8 (C7 (bS (a9 .U 1)) (gN .U 2)
   (mIf (d5 (bA S1 (aC (a9 .B 0) (aC (a9 .B 2) aN)))) (h9 (mC (.bl true))) sNx))
  (h9 (mC (.bl false))))
abbrev F9:List W->R W:=g8 2 3 cp
def dy:Rho->R Fl:=
 (h9 (bA S1 (aC (b2 fIx (a9 .B 1) (mC (.int 0))) (aC (a9 .B 0) aN))))
abbrev R0:List W->R W:=g8 2 2 dy
def cr:Rho->R Fl:=
 (c8 (mIf (y8 (d5 (bA R0 (aC (a9 .B 0) (aC (a9 .B 1) aN))))) hV sNx)
  (h9 (bA (M5 true) (aC (w9 4 (bI E3 (aC (a9 .B 0) (aC (bA U5 (aC (a9 .B 1) aN)) aN))) (gT 2 (l9 (gN .U 2) (l9 (gN .U 3) gsNil))) yes (vIf (d5 (b2 (M6 false) (a9 .B 2) (mC .non))) (mC .non) (b2 (fI0 o7) (a9 .B 2) (a9 .B 3)))) aN))))
abbrev W6:List W->R W:=g8 2 2 cr
def iG:Rho->R Fl:=
 (c8 (mIf (y8 (d5 (bA S1 (aC (a9 .B 1) (aC (a9 .B 0) aN))))) (t8 .F 0) sNx)
  (h9 (bA (M5 true) (aC (w9 4 (bI E3 (aC (a9 .B 0) (aC (a9 .B 1) aN))) (gT 2 (l9 (gN .U 2) (l9 (gN .U 3) gsNil))) yes (vIf (d5 (b2 (fEq false) (a9 .B 2) (a9 .B 3))) (a9 .V 2) (mC .non))) aN))))
abbrev al:List W->R W:=g8 2 2 iG
def dw:Rho->R Fl:=
 (h9 (bA (M5 true) (aC (w9 2 (bS (a9 .B 0)) (gN .U 1) yes (vIf (d5 (b2 (M6 false) (a9 .B 1) (mC .non))) (G7 (aC (mC (.int 1)) (aC (mC (.int 0)) aN))) (G7 (aC (mC (.int 0)) (aC (a9 .V 1) aN))))) aN)))
abbrev F4:List W->R W:=g8 1 1 dw
def oD:Rho->R Fl:=
 (c8 (sF 1 (C5 aN))
  (c8 (C7 (bS (bA (bf false F4) (aC (a9 .B 0) aN))) (gN .U 2)
   (mIf (y8 (d5 (bA F9 (aC (a9 .B 2) (aC (a9 .B 1) aN))))) (M4 1 (a9 .V 2)) sNx))
  (c8 (iL 1)
  (t8 .F 1))))
abbrev iY:List W->R W:=g8 1 3 oD
def dv:Rho->R Fl:=
 (c8 (sF 2 (C5 aN))
  (c8 (sV 3 (a9 .V 1))
  (c8 (K8 (d5 (b2 (M6 true) (a9 .B 3) (mC .non))) (c8 (M4 2 (a9 .V 3))
   (sU 3 (b2 fIx (b2 fIx (a9 .B 0) (a9 .B 3)) (mC (.int 1))))))
  (t8 .F 2))))
abbrev Q9:List W->R W:=g8 2 4 dv
def P5 (p:Addr):Rho->R Fl:=
 (c8 (nb (sU 4 (b2 fIx (b2 fIx (a9 .B 0) (mC (.int 1))) (a9 .B 3))))
  (c8 (mIf (y8 (d5 (bA R0 (aC (b2 fIx (b2 fIx (a9 .B 1) (a9 .B 2)) (mC (.int 0))) (aC (a9 .B 4) aN))))) ll (nb sNx))
  (c8 (nb (sF 5 (bA W6 (aC (b2 fIx (b2 fIx (a9 .B 1) (a9 .B 2)) (mC (.int 0))) (aC (a9 .B 4) aN)))))
  (c8 (nb (C7 (bS (bA Q9 (aC (a9 .B 1) (aC (a9 .B 2) aN)))) (gN .U 6)
   (sF 5 (bA al (aC (a9 .B 5) (aC (b2 fIx (b2 fIx (a9 .B 1) (a9 .B 6)) (mC (.int 0))) aN))))))
  (mIf (y8 (d5 (bA F9 (aC (a9 .B 5) (aC (w9 8 (bS (a9 .B 1)) (gN .U 7) yes (av (b2 fIx (a9 .B 7) (mC (.int 0))))) aN))))) (bK p 1 (G7 (aC (a9 .V 5) (aC (a9 .V 2) (aC (a9 .V 3) aN))))) (nb sNx))))))
abbrev dF:W->List W->List W->R (List W):=D0 4 7 P5
def iI:Rho->R Fl:=
 (c8 (sF 2 (C5 (aC (G7 (aC (av (b2 fIx (a9 .B 0) (mC (.int 0)))) (aC (mC .non) (aC (mC .non) aN)))) aN)))
  (c8 (sV 3 (mC (.int 0)))
  (c8 (K8 (d5 (b2 (fI0 gLt) (a9 .B 3) (bA fLen (aC (a9 .B 2) aN)))) (c8 (C7 (bI S7 (aC (bA fLen (aC (b2 fIx (a9 .B 0) (mC (.int 1))) aN)) aN)) (gN .U 4)
    (mIO 2 dF (a9 .B 0) (aC (a9 .B 3) (aC (a9 .B 4) aN))))
   (c8 (mIf (d5 (b2 (fI0 gGt) (bA fLen (aC (a9 .B 2) aN)) (a9 .B 1))) (h9 (mC .non)) sNx)
   (iO 3 tQ (mC (.int 1))))))
  (t8 .F 2))))
abbrev U3:List W->R W:=g8 2 5 iI
def eV:Rho->R Fl:=
 (c8 (sF 2 (bA U3 (aC (a9 .B 0) (aC (a9 .B 1) aN))))
  (c8 (mIf (d5 (b2 (M6 false) (a9 .B 2) (mC .non))) (h9 (mC .non)) sNx)
  (h9 (bA iY (aC (w9 4 (bS (a9 .B 2)) (gN .U 3) yes (av (b2 fIx (a9 .B 3) (mC (.int 0))))) aN)))))
abbrev bO:List W->R W:=g8 2 3 eV
def iH:Rho->R Fl:=
 (c8 (C7 (bS (a9 .U 1)) (gN .U 2)
   (mIf (d5 (bA U4 (aC (a9 .B 0) (aC (a9 .B 2) aN)))) (h9 (mC (.bl true))) sNx))
  (h9 (mC (.bl false))))
abbrev J1:List W->R W:=g8 2 3 iH
def jY:Rho->R Fl:=
 (c8 (sF 1 (C5 aN))
  (c8 (C7 (bS (bA fSortA (aC (a9 .B 0) aN))) (gN .U 2)
   (mIf (y8 (d5 (bA J1 (aC (a9 .B 2) (aC (a9 .B 1) aN))))) (M4 1 (a9 .V 2)) sNx))
  (t8 .F 1)))
abbrev bN:List W->R W:=g8 1 3 jY
def iF:Rho->R Fl:=
 (h9 (bA (M5 true) (aC (w9 5 (bI E3 (aC (a9 .B 0) (aC (b2 fIx (a9 .B 1) (mC (.int 0))) (aC (b2 fIx (a9 .B 1) (mC (.int 1))) aN)))) (gT 3 (l9 (gN .U 2) (l9 (gN .U 3) (l9 (gN .U 4) gsNil)))) yes (bA (f2 ff) (aC (a9 .B 3) (aC (b2 (fI0 o7) (b2 (fI0 gSub) (a9 .B 2) (a9 .B 4)) (a9 .B 3)) aN)))) aN)))
abbrev cR:List W->R W:=g8 2 2 iF
def fJ:Rho->R Fl:=
 (c8 (sF 2 (C5 aN))
  (c8 (C7 (bS (a9 .U 0)) (gN .U 3)
   (iM 2 true (w9 5 (bS (a9 .B 1)) (gN .U 4) yes (bA cR (aC (a9 .B 4) (aC (a9 .B 3) aN))))))
  (t8 .F 2)))
abbrev P7:List W->R W:=g8 2 4 fJ
def cq:Rho->R Fl:=
 (h9 (bA bN (aC (b2 (mf true) (bA (bP false) (aC (a9 .B 1) aN)) (bA P7 (aC (a9 .B 0) (aC (a9 .B 1) aN)))) aN)))
abbrev O1:List W->R W:=g8 2 2 cq
def fK:Rho->R Fl:=
 (h9 (bA (bg U0) (aC (w9 3 (bS (bA P7 (aC (a9 .B 0) (aC (a9 .B 1) aN)))) (gN .U 2) yes (bA J1 (aC (a9 .B 2) (aC (a9 .B 1) aN)))) aN)))
abbrev bd:List W->R W:=g8 2 2 fK
def iJ:Rho->R Fl:=
 (c8 (sV 4 (b2 fIx (a9 .C 1) (b1 (fU ak) (mC (.int 1)))))
  (c8 (sV 5 (b2 (fI0 gSub) (bA fLen (aC (a9 .B 1) aN)) (mC (.int 1))))
  (c8 (mIf (d5 (b2 (fI0 gGt) (bA fLen (aC (a9 .B 4) aN)) (a9 .B 2))) (h9 (G7 (aC (mC (.str "open")) (aC (a9 .V 5) aN)))) sNx)
  (c8 (mIf (d5 (bA bd (aC (a9 .B 0) (aC (a9 .B 4) aN)))) (h9 (G7 (aC (a9 .V 3) (aC (a9 .V 4) aN)))) sNx)
  (c8 (mIf (d5 (b2 (fEq false) (a9 .B 5) (a9 .B 2))) (h9 (G7 (aC (mC (.str "open")) (aC (a9 .V 5) aN)))) sNx)
  (h9 (mC .non)))))))
abbrev am:List W->R W:=G8 4 6 iJ
def aX:Rho->R Fl:=
 (h9 (w9 5 (bI fj (aC (a9 .B 1) aN)) (gT 2 (l9 (gN .U 3) (l9 (gN .U 4) gsNil))) (cX (d5 (bA dG (aC (a9 .B 0) (aC (a9 .B 4) aN)))) (d5 (bA J1 (aC (bA Y1 (aC (a9 .B 0) (aC (a9 .B 4) aN))) (aC (a9 .B 2) aN))))) (a9 .V 3)))
abbrev U2:List W->R W:=g8 3 3 aX
def aW:Rho->R Fl:=
 (c8 (sF 2 (C5 aN))
  (c8 (sV 3 (b2 fIx (a9 .C 0) (mC (.int 0))))
  (c8 (C7 (bI eD (aC (vSl true (a9 .C 1) pN (pS (b1 (fU ak) (mC (.int 1))))) aN)) (gN .U 4)
   (c8 (sV 5 (b2 fIx (bA U2 (aC (a9 .B 3) (aC (b2 fIx (a9 .B 0) (mC (.int 1))) (aC (a9 .B 4) aN)))) (mC (.int 0))))
   (c8 (M4 2 (a9 .V 5))
   (sF 3 (bA Y1 (aC (a9 .B 3) (aC (b2 fIx (b2 fIx (a9 .B 0) (mC (.int 1))) (a9 .B 5)) aN)))))))
  (t8 .V 2))))
abbrev L3:List W->R W:=G8 2 6 aW
def jZ:Rho->R Fl:=
 (c8 (sF 3 (C5 (aC (C5 (aC (a9 .V 1) aN)) aN)))
  (c8 (K8 (y8 (d5 (bA J1 (aC (b2 fIx (a9 .B 0) (mC (.int 0))) (aC (b2 fIx (a9 .B 3) (b1 (fU ak) (mC (.int 1)))) aN))))) (c8 (sCX 4 [3] am (aC (av (b2 fIx (a9 .B 0) (mC (.int 1)))) (aC (a9 .V 3) (aC (a9 .V 2) (aC (mC (.str "wall")) aN)))))
   (c8 (mIf (d5 (b2 (M6 true) (a9 .B 4) (mC .non))) (t8 .V 4) sNx)
   (M4 3 (bA O1 (aC (b2 fIx (a9 .B 0) (mC (.int 1))) (aC (b2 fIx (a9 .B 3) (b1 (fU ak) (mC (.int 1)))) aN)))))))
  (hX 3 (h9 (G7 (aC (mC (.str "row")) (aC (bA L3 (aC (a9 .V 0) (aC (a9 .V 3) aN))) aN)))))))
abbrev fh:List W->R W:=g8 3 5 jZ
def M3:Rho->R Fl:=
 (c8 (mIf (d5 (b2 (fI0 gGt) (bA fLen (aC (a9 .B 0) aN)) (mC (.int 0)))) (h9 (av (b2 fIx (a9 .B 0) (b2 (fI F5 J0) (a9 .B 1) (bA fLen (aC (a9 .B 0) aN)))))) sNx)
  (h9 (mC (.int 0))))
abbrev r9:List W->R W:=g8 2 2 M3
def cw:Rho->R Fl:=
 (h9 (b2 (fI F5 J0) (b2 (fI bq sh) (b2 (fI F5 J0) (b2 (fI CMul x9) (b2 (fI0 o7) (bA r9 (aC (a9 .B 0) (aC (a9 .B 1) aN))) (mC (.int 1))) (b2 (fI0 o7) (b2 (fI0 o7) (b2 (fI CMul x9) (a9 .B 1) (a9 .B 1)) (b2 (fI CMul x9) (mC (.int 7)) (a9 .B 1))) (mC (.int 48271)))) (mC (.int 99991))) (mC (.int 3))) (a9 .B 2)))
abbrev l4:List W->R W:=g8 3 3 cw
def X6:Rho->R Fl:=
 (c8 (sF 5 (C5 aN))
  (c8 (C7 (bI S7 (aC (a9 .B 2) aN)) (gN .U 6)
   (c8 (sU 7 (b2 fIx (a9 .B 3) (bA l4 (aC (a9 .B 0) (aC (b2 (fI0 o7) (a9 .B 1) (a9 .B 6)) (aC (bA fLen (aC (a9 .B 3) aN)) aN))))))
   (c8 (mIf (cX (d5 (b2 (p5 false) (a9 .B 4) (mC (.int 0)))) (d5 (b2 (fI0 gGt) (a9 .B 7) (mC (.int 0))))) (sV 7 (b2 (fI F5 J0) (b2 (fI CMul x9) (b2 (fI0 o7) (bA r9 (aC (a9 .B 0) (aC (b2 (fI0 o7) (a9 .B 1) (a9 .B 6)) aN))) (a9 .B 6)) (mC (.int 48271))) (b2 (fI0 o7) (b2 (fI N5 aj) (mC (.int 10)) (mC (.int 9))) (mC (.int 1))))) (sV 7 (b2 (fI CMul x9) (a9 .B 7) (a9 .B 4))))
   (M4 5 (a9 .V 7)))))
  (h9 (bA (M5 true) (aC (a9 .C 5) aN)))))
abbrev o5:List W->R W:=g8 5 8 X6
def aY:Rho->R Fl:=
 (c8 (sF 1 (bA l4 (aC (a9 .B 0) (aC (mC (.int 2)) (aC (mC (.int 8)) aN)))))
  (c8 (mIf (d5 (b2 (p5 false) (a9 .B 1) (mC (.int 7)))) (h9 (mC (.int 0))) sNx)
  (c8 (mIf (d5 (b2 (fI0 gGt) (a9 .B 1) (mC (.int 4)))) (h9 (b2 (fI0 o7) (mC (.int 1)) (b2 (fI F5 J0) (b2 (fI CMul x9) (bA r9 (aC (a9 .B 0) (aC (mC (.int 2)) aN))) (mC (.int 48271))) (b2 (fI N5 aj) (mC (.int 10)) (mC (.int 8)))))) sNx)
  (h9 (mC (.int 1))))))
abbrev U6:List W->R W:=g8 1 2 aY
def cu:Rho->R Fl:=
 (c8 (sV 1 (b2 fIx (C5 (aC (mC (.int 2)) (aC (mC (.int 3)) (aC (mC (.int 1)) (aC (mC (.int 2)) (aC (mC (.int 3)) (aC (mC (.int 4)) (aC (mC (.int 2)) (aC (mC (.int 3)) aN))))))))) (bA l4 (aC (a9 .B 0) (aC (mC (.int 0)) (aC (mC (.int 8)) aN))))))
  (c8 (sF 2 (bA U6 (aC (a9 .B 0) aN)))
  (c8 (sF 3 (C5 aN))
  (c8 (C7 (bI S7 (aC (b2 fIx (C5 (aC (mC (.int 3)) (aC (mC (.int 2)) (aC (mC (.int 4)) (aC (mC (.int 1)) (aC (mC (.int 3)) (aC (mC (.int 5)) (aC (mC (.int 2)) (aC (mC (.int 4)) (aC (mC (.int 0)) aN)))))))))) (bA l4 (aC (a9 .B 0) (aC (mC (.int 1)) (aC (mC (.int 9)) aN))))) aN)) (gN .U 4)
   (c8 (sV 5 (b2 (fI0 o7) (mC (.int 5)) (b2 (fI CMul x9) (a9 .B 1) (b2 (fI0 o7) (b2 (fI CMul x9) (mC (.int 2)) (a9 .B 4)) (mC (.int 1))))))
   (c8 (sF 6 (bA o5 (aC (a9 .B 0) (aC (a9 .B 5) (aC (a9 .B 1) (aC (C5 (aC (mC (.int 0)) (aC (mC (.int 1)) (aC (mC (.int 0)) (aC (mC (.int 2)) (aC (mC (.int 1)) (aC (mC (.int 0)) aN))))))) (aC (a9 .B 2) aN)))))))
   (c8 (sF 7 (bA o5 (aC (a9 .B 0) (aC (b2 (fI0 o7) (a9 .B 5) (a9 .B 1)) (aC (a9 .B 1) (aC (C5 (aC (mC (.int 1)) (aC (mC (.int 0)) (aC (mC (.int 0)) (aC (mC (.int 1)) (aC (mC (.int 2)) (aC (mC (.int 0)) aN))))))) (aC (a9 .B 2) aN)))))))
   (hX 7 (hX 6 (M4 3 (G7 (aC (a9 .V 6) (aC (a9 .V 7) aN))))))))))
  (c8 (sF 8 (bA (bP true) (aC (bA o5 (aC (a9 .B 0) (aC (mC (.int 5)) (aC (a9 .B 1) (aC (C5 (aC (mC (.int 1)) (aC (mC (.int 0)) (aC (mC (.int 2)) (aC (mC (.int 1)) (aC (mC (.int 3)) (aC (mC (.int 0)) aN))))))) (aC (a9 .B 2) aN)))))) aN)))
  (c8 (mIf (d5 (b2 (p5 false) (bA l4 (aC (a9 .B 0) (aC (mC (.int 49)) (aC (mC (.int 8)) aN)))) (mC (.int 0)))) (ad 8 (bA l4 (aC (a9 .B 0) (aC (mC (.int 48)) (aC (a9 .B 1) aN)))) (b2 (fI F5 J0) (b2 (fI CMul x9) (bA r9 (aC (a9 .B 0) (aC (mC (.int 48)) aN))) (mC (.int 982451653))) (b2 (fI N5 aj) (mC (.int 10)) (mC (.int 60))))) sNx)
  (h9 (G7 (aC (bA (M5 true) (aC (a9 .C 8) aN)) (aC (bA (M5 true) (aC (a9 .C 3) aN)) aN))))))))))
abbrev W7:List W->R W:=g8 1 9 cu
def ay:Rho->R Fl:=
 (c8 (sU 4 (b2 fIx (a9 .B 2) (bA l4 (aC (a9 .B 0) (aC (a9 .B 1) (aC (bA fLen (aC (a9 .B 2) aN)) aN))))))
  (c8 (sF 5 (C5 aN))
  (c8 (C7 (bI S7 (aC (a9 .B 3) aN)) (gN .U 6)
   (mIf (d5 (b2 (M6 false) (b2 fIx (a9 .B 4) (a9 .B 6)) (mC .non))) (M4 5 (bA l4 (aC (a9 .B 0) (aC (b2 (fI0 o7) (b2 (fI0 o7) (a9 .B 1) (mC (.int 1))) (a9 .B 6)) (aC (mC (.int 5)) aN))))) (M4 5 (av (b2 fIx (a9 .B 4) (a9 .B 6))))))
  (c8 (sF 7 (bA l4 (aC (a9 .B 0) (aC (b2 (fI0 o7) (a9 .B 1) (mC (.int 6))) (aC (a9 .B 3) aN)))))
  (c8 (sF 8 (bA l4 (aC (a9 .B 0) (aC (b2 (fI0 o7) (a9 .B 1) (mC (.int 7))) (aC (mC (.int 5)) aN)))))
  (c8 (mIf (d5 (b2 (p5 false) (a9 .B 8) (mC (.int 1)))) (ad 5 (a9 .B 7) (bA (f2 ff) (aC (b2 (fI0 gSub) (b2 fIx (a9 .B 5) (a9 .B 7)) (mC (.int 1))) (aC (mC (.int 0)) aN)))) sNx)
  (c8 (mIf (d5 (b2 (p5 false) (a9 .B 8) (mC (.int 2)))) (ad 5 (a9 .B 7) (b2 (fI0 o7) (b2 fIx (a9 .B 5) (a9 .B 7)) (mC (.int 1)))) sNx)
  (c8 (mIf (d5 (b2 (p5 false) (a9 .B 8) (mC (.int 3)))) (ad 5 (a9 .B 7) (b2 (fI0 o7) (b2 (fI0 o7) (b2 fIx (a9 .B 5) (a9 .B 7)) (mC (.int 1))) (b2 (fI F5 J0) (b2 (fI CMul x9) (bA r9 (aC (a9 .B 0) (aC (b2 (fI0 o7) (a9 .B 1) (mC (.int 8))) aN))) (mC (.int 48271))) (b2 (fI N5 aj) (mC (.int 10)) (mC (.int 9)))))) sNx)
  (c8 (mIf (d5 (b2 (p5 false) (a9 .B 8) (mC (.int 4)))) (sF 5 (w9 10 (bI S7 (aC (a9 .B 3) aN)) (gN .U 9) yes (bA l4 (aC (a9 .B 0) (aC (b2 (fI0 o7) (b2 (fI0 o7) (a9 .B 1) (mC (.int 1))) (a9 .B 9)) (aC (mC (.int 7)) aN)))))) sNx)
  (t8 .F 5))))))))))
abbrev Q2:List W->R W:=g8 4 9 ay
def T9:Rho->R Fl:=
 (c8 (C7 (bS (a9 .U 1)) (gN .U 2)
   (mIf (d5 (bA (bg U0) (aC (w9 4 (bI S7 (aC (bA fLen (aC (a9 .B 0) aN)) aN)) (gN .U 3) yes (vOr (b2 (M6 false) (b2 fIx (a9 .B 2) (a9 .B 3)) (mC .non)) (b2 (fI0 gLe) (b2 fIx (a9 .B 0) (a9 .B 3)) (b2 fIx (a9 .B 2) (a9 .B 3))))) aN))) (h9 (mC (.bl true))) sNx))
  (h9 (mC (.bl false))))
abbrev w6:List W->R W:=g8 2 3 T9
def cv:Rho->R Fl:=
 (c8 (mIf (y8 (d5 (bA fIsi (aC (a9 .B 2) (aC (mC (.ty "list")) aN))))) (h9 (mC (.bl false))) sNx)
  (c8 (sF 4 (bA (bP false) (aC (a9 .B 0) aN)))
  (c8 (C7 (bS (a9 .U 2)) (gN .U 5)
   (c8 (mIf (aA (y8 (d5 (bA fIsi (aC (a9 .B 5) (aC (mC (.ty "int")) aN))))) (aA (d5 (bA fIsi (aC (a9 .B 5) (aC (mC (.ty "bool")) aN)))) (y8 (d5 (cT (fI0 gLe) (fI0 gLt) (mC (.int 0)) (a9 .B 5) (bA fLen (aC (a9 .B 1) aN))))))) (h9 (mC (.bl false))) sNx)
   (c8 (sG (gT 2 (l9 (gN .U 6) (l9 (gN .U 7) gsNil))) (b2 fIx (a9 .B 1) (a9 .B 5)))
   (C7 (bI S7 (aC (bA fLen (aC (a9 .B 4) aN)) aN)) (gN .U 8)
    (c8 (mIf (d5 (b2 (fI0 gLt) (b2 fIx (a9 .B 4) (a9 .B 8)) (b2 fIx (a9 .B 6) (a9 .B 8)))) (h9 (mC (.bl false))) sNx)
    (ad 4 (a9 .B 8) (b2 (fI0 o7) (b2 (fI0 gSub) (b2 fIx (a9 .B 4) (a9 .B 8)) (b2 fIx (a9 .B 6) (a9 .B 8))) (b2 fIx (a9 .B 7) (a9 .B 8)))))))))
  (h9 (bA (bg U0) (aC (w9 10 (bI S7 (aC (bA fLen (aC (a9 .B 4) aN)) aN)) (gN .U 9) yes (b2 (fI0 gGe) (b2 fIx (a9 .B 4) (a9 .B 9)) (b2 fIx (a9 .B 3) (a9 .B 9)))) aN))))))
abbrev O2:List W->R W:=g8 4 9 cv
def lR:Rho->R Fl:=
 (c8 (sG (gT 2 (l9 (gN .U 1) (l9 (gN .U 2) gsNil))) (bA W7 (aC (a9 .B 0) aN)))
  (c8 (sF 3 (bA bO (aC (G7 (aC (a9 .U 1) (aC (a9 .U 2) aN))) (aC (mC (.int 30)) aN))))
  (c8 (mIf (d5 (b2 (M6 false) (a9 .B 3) (mC .non))) (h9 (mC (.bl true))) sNx)
  (c8 (mIf (aA (y8 (d5 (bA fIsi (aC (a9 .B 3) (aC (mC (.ty "list")) aN))))) (d5 (b2 (p5 false) (bA fLen (aC (a9 .B 3) aN)) (mC (.int 0))))) (h9 (mC (.bl false))) sNx)
  (c8 (C7 (bS (C5 (aC (mC (.int 36)) (aC (mC (.int 50)) aN)))) (gN .U 4)
   (c8 (sF 5 (bA Q2 (aC (a9 .B 0) (aC (a9 .B 4) (aC (a9 .B 3) (aC (bA fLen (aC (a9 .B 1) aN)) aN))))))
   (c8 (sV 6 (bA fh (aC (G7 (aC (a9 .U 1) (aC (a9 .U 2) aN))) (aC (bA (M5 true) (aC (a9 .C 5) aN)) (aC (b2 (fI0 o7) (mC (.int 4)) (bA l4 (aC (a9 .B 0) (aC (b2 (fI0 o7) (a9 .B 4) (mC (.int 9))) (aC (mC (.int 9)) aN))))) aN)))))
   (c8 (mIf (aA (y8 (d5 (bA fIsi (aC (a9 .B 6) (aC (mC (.ty "tuple")) aN))))) (d5 (b2 (p5 true) (bA fLen (aC (a9 .B 6) aN)) (mC (.int 2))))) (h9 (mC (.bl false))) sNx)
   (mIf (d5 (b2 (p5 false) (b2 fIx (a9 .B 6) (mC (.int 0))) (mC (.str "row")))) (mIf (aA (y8 (d5 (bA w6 (aC (a9 .B 5) (aC (a9 .B 3) aN))))) (y8 (d5 (bA O2 (aC (a9 .B 1) (aC (a9 .B 2) (aC (b2 fIx (a9 .B 6) (mC (.int 1))) (aC (a9 .B 5) aN)))))))) (h9 (mC (.bl false))) sNx) (mIf (d5 (b2 (p5 false) (b2 fIx (a9 .B 6) (mC (.int 0))) (mC (.str "wall")))) (mIf (d5 (bA w6 (aC (a9 .B 5) (aC (a9 .B 3) aN)))) (h9 (mC (.bl false))) sNx) (mIf (d5 (b2 (p5 true) (b2 fIx (a9 .B 6) (mC (.int 0))) (mC (.str "open")))) (h9 (mC (.bl false))) sNx)))))))
  (h9 (mC (.bl true))))))))
abbrev gu:List W->R W:=g8 1 7 lR
end K47
set_option maxHeartbeats 4000000
open PySem L2 TP
namespace K47
--RPX: rpio
def rp14:=Z1 (@Ao) (Z1 (@An) (Z1 (@Am) (Z1 (@Al) (Z1 (@zX) (Z1 (@Ai) (Z1 (@Af) (Z1 (@Ag) (Z1 (@Ab) (Z1 (@Ac) (Z1 (@Aj) (Z1 (@Ak) (Z1 (@zZ) (@Aa)))))))))))))
def rp15:=Z1 (@Bool.not_true) (Z1 (@Bool.not_false) (Z1 (@Bool.true_or) (Z1 (@Bool.or_true) (Z1 (@Bool.false_or) (Z1 (@Bool.or_false) (Z1 (@Bool.true_and) (Z1 (@Bool.and_true) (Z1 (@Bool.false_and) (Z1 (@Bool.and_false) (Z1 (@Int.sub_zero) (Z1 (@Int.zero_add) (Z1 (@Int.toNat_natCast) (Z1 (@Bool.false_eq_true) (Z1 (@Bool.true_eq_false) (Z1 (@and_true) (Z1 (@true_and) (Z1 (@or_true) (Z1 (@true_or) (@and_self)))))))))))))))))))
def rp18:=Z1 (@List.length_cons.{0}) (Z1 (@List.length_nil.{0}) (Z1 (@List.length_map.{0,0}) (Z1 (@List.length_append.{0}) (Z1 (@List.length_set.{0}) (@List.length_range)))))
def rp16:=Z1 rp14 (Z1 rp15 (Z1 rp13 (Z1 rp12 (Z1 rp11 (Z1 rp10 (Z1 rp9 (Z1 rp8 (Z1 rp0 (Z1 rp1 (Z1 rp2 (Z1 rp3 (Z1 rp4 (Z1 rp5 (Z1 rp6 rp7))))))))))))))
def rp17:=Z1 (@List.map_cons.{0,0}) (Z1 (@List.map_nil.{0,0}) (Z1 (@List.replicate_succ.{0}) (Z1 (@List.replicate_zero.{0}) (Z1 (@List.cons_append.{0}) (Z1 (@List.nil_append.{0}) (Z1 (@List.append_nil.{0}) (Z1 (@R.ok_bind) (Z1 (@R.stuck_bind) (@R.ex_bind)))))))))
def rp19:=Z1 (@beq_self_eq_true.{0}) (Z1 (@Option.isNone_none.{0}) (Z1 (@Option.isNone_some.{0}) (Z1 (@Option.bind_some.{0,0}) (Z1 (@if_true.{1}) (Z1 (@if_false.{1}) (Z1 (@decide_true) (@decide_false)))))))
theorem CU (m:Rho->R Fl) (ρ:Rho):nb m ρ=nbR (m ρ):=rfl
theorem zG (ρ:Rho):nbR (.ok (.nx ρ))=.ok (.nx ρ):=rfl
theorem uH (ρ:Rho):ll ρ=.ok (.bk ρ):=rfl
theorem yH (q:Addr) (ws:List W):rdS .B (some (.iop q ws))=.ok (.lst ws):=rfl
theorem yG (q:Addr) (ws:List W):rdS .U (some (.iop q ws))=.ok (.lst ws):=rfl
def ioS (o:Option Sl) (f:W->List W->List W->R (List W)) (r1:R W) (rr:R (List W)) (i:Nat) (ρ:Rho):R Fl:=match o with
 | some (.own cs)=>r1>>=fun w1=>rr>>=fun wr=>f w1 cs wr>>=fun Fc=>.ok (.nx (ρ.set i (.own Fc)))
 | _=>.stuck
theorem zM (i:Nat) (f:W->List W->List W->R (List W)) (m1:Rho->R W) (mr:Rho->R (List W)) (ρ:Rho):mIO i f m1 mr ρ=ioS (ρ[i]?) f (m1 ρ) (mr ρ) i ρ:=rfl
theorem Ay (cs:List W) (f:W->List W->List W->R (List W)) (w1:W) (wr:List W) (i:Nat) (ρ:Rho):ioS (some (.own cs)) f (.ok w1) (.ok wr) i ρ=(f w1 cs wr>>=fun Fc=>.ok (.nx (ρ.set i (.own Fc)))):=rfl
theorem CH {r:R Fl} {P:Rho->Prop} {Q:W->Prop} (h:Po r P fun _=>False):Po (nbR r) P Q:=by
 cases r with
 | ok f=>
  cases f with
  | nx ρ=>exact h
  | rt w=>exact h.elim
  | bk ρ=>exact h
  | ct ρ=>exact h
 | ex e=>exact h
 | stuck=>exact h
theorem rK {p:Addr} {i:Nat} {m:Rho->R W} {ws:List W} {w:W} {ρ:Rho} (h1:ρ[i]?=some (.iop p ws)) (hm:m ρ=.ok w) (hl:ws.length<1000):bK p i m ρ=.ok (.nx (appI i p (ws ++ [w]) ρ)):=by
 unfold bK
 rw [h1]
 dsimp only
 rw [hm,R.ok_bind,if_pos ⟨rfl,hl⟩]
def rpio:=Z1 (@CU) (Z1 (@zG) (Z1 (@uH) (Z1 (@yH) (Z1 (@yG) (Z1 (@zM) (@Ay))))))
def rpZ:=Z1 rp19 (Z1 rp16 (Z1 rp17 (Z1 rp18 (Z1 rpio (@decide_eq_true_eq)))))
def rpB:=Z1 (@ye) (Z1 (@yd) (Z1 (@yc) (Z1 (@yb) (@ya))))
local macro_rules | `(tactic| exists $[$es],*)=>`(tactic| simp (disch:=first | with_reducible assumption | omega | (simp only [rp18]; omega)) only [List.getElem?_cons_zero,List.getElem?_cons_succ,List.set_cons_succ,List.set_cons_zero,tyW,isN,simprocAttr,rpZ,$[$es:term],*])
def i9 (a b:List Int):Bool:=(List.range a.length).all fun k=>decide (b.getD k 0<=a.getD k 0)
theorem Ds {a b:List Int} {i:Nat} (hi:i<a.length) (h:a.getD i 0<b.getD i 0):i9 a b=false:=by
 unfold i9
 rw [List.all_eq_false]
 exact ⟨i,by simpa using hi,fun h'=>by have:=of_decide_eq_true h'; omega⟩
theorem tS {a b:List Int} (h:∀ k,k<a.length->b.getD k 0<=a.getD k 0):i9 a b=true:=by
 unfold i9
 rw [List.all_eq_true]
 exact fun k hk=>decide_eq_true (h k (by simpa using hk))
theorem fQ {a b:List Int} (hl:b.length=a.length):U4 [tI a,tI b]=.ok (.bl (i9 a b)):=by
 have fin:Ok (U4 [tI a,tI b]) fun v=>v=.bl (i9 a b):=by
  have hz:=S2 (tI a) (tI b) _ _ rfl rfl
  rw [br hl] at hz
  exists rpB,iK,hz
  refine n6 (t7 (fun i ρ=>∃ u v,ρ = [.par (tI a),.par (tI b),u,v]/\∀ k,k<i->b.getD k 0<=a.getD k 0) ⟨_,_,rfl,fun k hk=>absurd hk (Nat.not_lt_zero _)⟩ ?_ ?_)
  ·rintro i u ρ hu ⟨_,_,rfl,EN⟩
   obtain ⟨hi,rfl⟩:=il hu
   refine ⟨_,rfl,?_⟩
   exists rp18
   refine K6 (fun h=>?_) (fun h=>?_)
   ·exists rp18
    rw [Ds hi (by simpa using h)]
   ·exists rp18
    refine ⟨_,_,rfl,fun k hk=>?_⟩
    by_cases e:k=i
    ·subst e; simpa using h
    ·exact EN k (by omega)
  ·rintro ρ ⟨_,_,rfl,EN⟩
   rw [List.length_map,List.length_range] at EN
   exists rp18
   rw [tS EN]
 obtain ⟨v,e,rfl⟩:=fin
 exact e
def f9 (s:List Int) (ss:List (List Int)):Bool:=ss.any (i9 s)
theorem rG {ss:List (List Int)} {i:Nat} (h:i<ss.length):ss.getD i []∈ss:=by
 rw [List.getD_eq_getElem?_getD]; simp [h]
theorem jV {ss:List (List Int)} {i:Nat} {w:W} (h:(ss.map tI)[i]?=some w):i<ss.length/\w=tI (ss.getD i []):=by
 rw [List.getElem?_map] at h
 cases q:ss[i]? with
 | none=>rw [q] at h; cases h
 | some k=>
  rw [q] at h
  cases h
  exact ⟨(List.getElem?_eq_some_iff.mp q).1,by rw [List.getD_eq_getElem?_getD,q]; rfl⟩
theorem Dc {s:List Int} {ss:List (List Int)} {i:Nat} (hi:i<ss.length) (h:i9 s (ss.getD i [])=true):f9 s ss=true:=by
 unfold f9
 rw [List.any_eq_true]
 exact ⟨_,rG hi,h⟩
theorem De {s:List Int} {ss:List (List Int)} (h:∀ k,k<ss.length->i9 s (ss.getD k [])=false):f9 s ss=false:=by
 unfold f9
 rw [List.any_eq_false]
 intro x hx
 obtain ⟨i,hi,e⟩:=List.mem_iff_getElem.mp hx
 have:=h i hi
 rw [List.getD_eq_getElem?_getD] at this
 simp [hi,e] at this
 simp [this]
theorem V9 {s:List Int} {ss:List (List Int)} (hl:∀ x∈ss,x.length=s.length):J1 [tI s,.lst (ss.map tI)]=.ok (.bl (f9 s ss)):=by
 have fin:Ok (J1 [tI s,.lst (ss.map tI)]) fun v=>v=.bl (f9 s ss):=by
  exists rpB,iH
  refine n6 (t7 (fun i ρ=>∃ u,ρ = [.par (tI s),.par (.lst (ss.map tI)),u]/\∀ k,k<i->i9 s (ss.getD k [])=false) ⟨_,rfl,fun k hk=>absurd hk (Nat.not_lt_zero _)⟩ ?_ ?_)
  ·rintro i u ρ hu ⟨_,rfl,EN⟩
   obtain ⟨hi,rfl⟩:=jV hu
   have hc:=fQ (a:=s) (b:=ss.getD i []) (hl _ (rG hi))
   refine ⟨_,rfl,?_⟩
   exists hc
   refine K6 (fun h=>?_) (fun h=>?_)
   ·exists rp18
    rw [Dc hi h]
   ·exists rp18
    refine ⟨_,rfl,fun k hk=>?_⟩
    by_cases e:k=i
    ·subst e; exact h
    ·exact EN k (by omega)
  ·rintro ρ ⟨_,rfl,EN⟩
   rw [List.length_map] at EN
   exists rp18
   rw [De EN]
 obtain ⟨v,e,rfl⟩:=fin
 exact e
def srcL (g t p:List Int):List Int:=(List.range g.length).map fun k=>max (t.getD k 0) (g.getD k 0-p.getD k 0+t.getD k 0)
theorem qt (g t p:List Int):(srcL g t p).length=g.length:=by simp [srcL]
theorem dX {g t p:List Int} {k:Nat} (h:k<g.length):(srcL g t p).getD k 0=max (t.getD k 0) (g.getD k 0-p.getD k 0+t.getD k 0):=L7 h
theorem ny {g t p:List Int} (ht:t.length=g.length) (hp:p.length=g.length) (hg:g.length<=6):cR [tI g,.tup [tI t,tI p]]=.ok (tI (srcL g t p)):=by
 have a0:L2.atI [tI t,tI p] 0=some (tI t):=rfl
 have a1:L2.atI [tI t,tI p] 1=some (tI p):=rfl
 have hz:=xl (tI g) (tI t) (tI p) _ _ _ rfl rfl rfl
 rw [ue ht hp] at hz
 exists rpB,iF,a0,a1,hz
 have e:∀ N mg me ρ (h:∀ k,k<g.length->∃ ρ1,mg (.tup [.int (g.getD k 0),.int (t.getD k 0),.int (p.getD k 0)]) (ρ++List.replicate (N-ρ.length) Sl.un)=some ρ1/\me ρ1=.ok (.int (max (t.getD k 0) (g.getD k 0-p.getD k 0+t.getD k 0)))),m8 N mg yes me ((List.range g.length).map fun k=>.tup [.int (g.getD k 0),.int (t.getD k 0),.int (p.getD k 0)]) ρ=.ok (lI (srcL g t p)):=fun N mg me ρ h=>by
  rw [n8 (fun k=>.int (max (t.getD k 0) (g.getD k 0-p.getD k 0+t.getD k 0))) _ _ ρ (by simpa using (by omega:g.length<=1000)) (fun k hk=>h k (by simpa using hk)),lQ]
  rfl
 rw [e]
 ·exists rp18
 ·intro k hk
  refine ⟨_,rfl,?_⟩
  exists rp18
abbrev Mv:=List Int×List Int
abbrev mW (m:Mv):W:=.tup [tI m.1,tI m.2]
abbrev lS (ss:List (List Int)):W:=.lst (ss.map tI)
abbrev tM_ (ms:List Mv):W:=.tup (ms.map mW)
theorem zC (m:Mv):noL (mW m)=true:=by simp [noL,k9,J9]
theorem iD (ms:List Mv):k9 (ms.map mW)=true:=T7 mW zC ms
theorem vI {ms:List Mv} {i:Nat} {w:W} (h:(ms.map mW)[i]?=some w):∃ m,m∈ms/\ms[i]?=some m/\w=mW m:=by
 rw [List.getElem?_map] at h
 cases q:ms[i]? with
 | none=>rw [q] at h; cases h
 | some m=>rw [q] at h; cases h; exact ⟨m,List.mem_of_getElem? q,rfl,rfl⟩
def okM (n:Nat) (m:Mv):Prop:=m.1.length=n/\m.2.length=n
def u3 (ms:List Mv) (ss:List (List Int)):List (List Int):=ms.flatMap fun m=>ss.map fun s=>srcL s m.1 m.2
theorem Z5 {ms:List Mv} {ss:List (List Int)}:(u3 ms ss).length=ms.length*ss.length:=by
 unfold u3
 induction ms with
 | nil=>simp
 | cons m ms ih=>rw [List.flatMap_cons,List.length_append,ih,List.length_map,List.length_cons,Nat.succ_mul,Nat.add_comm]
theorem cC {n:Nat} {ms:List Mv} {ss:List (List Int)} (hs:∀ x∈ss,x.length=n):∀ x∈u3 ms ss,x.length=n:=fun x hx=>by
 unfold u3 at hx
 obtain ⟨m,_,hx⟩:=List.mem_flatMap.mp hx
 obtain ⟨s,hs',rfl⟩:=List.mem_map.mp hx
 rw [qt]; exact hs s hs'
theorem cY {n:Nat} {ms:List Mv} {ss:List (List Int)} (h6:n<=6) (hm:∀ m∈ms,okM n m) (hs:∀ x∈ss,x.length=n) (Fx:ms.length<=8) (Gf:ss.length<=100):P7 [tM_ ms,lS ss]=.ok (lS (u3 ms ss)):=by
 have fin:Ok (P7 [tM_ ms,lS ss]) fun v=>v=lS (u3 ms ss):=by
  exists rpB,fJ
  refine n6 (t7 (fun i ρ=>∃ (u:Sl),ρ = [.par (tM_ ms),.par (lS ss),.own ((u3 (ms.take i) ss).map tI),u]/\i<=ms.length) ⟨_,rfl,Nat.zero_le _⟩ ?_ ?_)
  ·rintro i w ρ hw ⟨u,rfl,hi⟩
   obtain ⟨m,Hr,hmi,rfl⟩:=vI hw
   have Fh:i<ms.length:=(List.getElem?_eq_some_iff.mp hmi).1
   refine ⟨_,rfl,?_⟩
   have e:∀ N mg me ρ (h:∀ s∈ss,∃ ρ1,mg (tI s) (ρ++List.replicate (N-ρ.length) Sl.un)=some ρ1/\me ρ1=.ok (tI (srcL s m.1 m.2))),m8 N mg yes me (ss.map tI) ρ=.ok (lS (ss.map fun s=>srcL s m.1 m.2)):=fun N mg me ρ h=>by
    rw [n8 (fun s=>tI (srcL s m.1 m.2)) _ _ ρ (by omega) h]; exact congrArg (fun l=>R.ok (W.lst l)) (by rw [List.map_map]; rfl)
   exists rp18
   rw [e]
   ·have hl:(u3 (ms.take i) ss).length+ss.length<=1000:=by
     rw [Z5,List.length_take,Nat.min_eq_left (by omega)]
     have:=Nat.mul_le_mul (show i<=8 by omega) Gf
     omega
    exists rp18
    refine ⟨.par (mW m),?_,Fh⟩
    have:u3 (ms.take (i+1)) ss=u3 (ms.take i) ss++ss.map fun s=>srcL s m.1 m.2:=by
     unfold u3
     rw [List.take_succ,hmi]
     simp
    rw [this]
   ·intro s Ft
    have hk:=ny (g:=s) (t:=m.1) (p:=m.2) (by rw [hs s Ft,(hm m Hr).1]) (by rw [hs s Ft,(hm m Hr).2]) (by rw [hs s Ft]; exact h6)
    refine ⟨_,rfl,?_⟩
    exists hk
  ·rintro ρ ⟨u,rfl,hi⟩
   rw [List.length_map,List.take_length]
   exists rp18
 obtain ⟨v,e,rfl⟩:=fin
 exact e
theorem cov_iff {a b:List Int}:i9 a b=true↔∀ k,k<a.length->b.getD k 0<=a.getD k 0:=by
 unfold i9
 rw [List.all_eq_true]
 exact ⟨fun h k hk=>of_decide_eq_true (h k (by simpa using hk)),fun h k hk=>decide_eq_true (h k (by simpa using hk))⟩
def bst (acc:List (List Int)) (s:List Int):List (List Int):=if f9 s acc then acc else acc ++ [s]
def T8 (ss:List (List Int)):List (List Int):=(C6 ss).foldl bst []
theorem dO:∀ (l acc:List (List Int)),(acc.Pairwise fun a b=>i9 b a=false) ->
  (∃ t,t.Sublist l/\l.foldl bst acc=acc++t)/\((l.foldl bst acc).Pairwise fun a b=>i9 b a=false)/\∀ z∈l,∃ s∈l.foldl bst acc,i9 z s=true
 | [],acc,h2=>⟨⟨[],.slnil,by simp⟩,h2,fun _ h=>nomatch h⟩
 | z::l,acc,h2=>by
  rw [List.foldl_cons]
  cases c:f9 z acc with
  | true=>
   have e:bst acc z=acc:=by unfold bst; rw [if_pos c]
   rw [e]
   obtain ⟨⟨t,ht,et⟩,i3,i4⟩:=dO l acc h2
   refine ⟨⟨t,ht.cons z,et⟩,i3,fun y hy=>?_⟩
   rcases List.mem_cons.mp hy with rfl | hy
   ·unfold f9 at c
    obtain ⟨s,hs,hw⟩:=List.any_eq_true.mp c
    exact ⟨s,by rw [et]; exact List.mem_append_left _ hs,hw⟩
   ·exact i4 y hy
  | false=>
   have e:bst acc z=acc ++ [z]:=by unfold bst; rw [if_neg (by rw [c]; exact Bool.false_ne_true)]
   rw [e]
   have Gg:∀ s∈acc,i9 z s=false:=fun s hs=>by
    unfold f9 at c
    rw [List.any_eq_false] at c
    simpa using c s hs
   obtain ⟨⟨t,ht,et⟩,i3,i4⟩:=dO l (acc ++ [z]) (by
    rw [List.pairwise_append]
    refine ⟨h2,List.pairwise_singleton _ _,fun a ha b hb=>?_⟩
    rw [List.mem_singleton.mp hb]; exact Gg a ha)
   refine ⟨⟨z::t,ht.cons₂ z,by rw [et]; simp⟩,i3,fun y hy=>?_⟩
   rcases List.mem_cons.mp hy with rfl | hy
   ·refine ⟨y,?_,tS fun k hk=>Int.le_refl _⟩
    rw [et]; simp
   ·exact i4 y hy
structure Bas (n:Nat) (B:List (List Int)):Prop where
 len:∀ b∈B,b.length=n
 up:B.Pairwise fun a b=>TP.lexLt b a=false
 a1:B.Pairwise fun a b=>i9 b a=false
theorem jU {n:Nat} {ss:List (List Int)} (h:∀ s∈ss,s.length=n):Bas n (T8 ss)/\(∀ b∈T8 ss,b∈ss)/\(∀ s∈ss,∃ b∈T8 ss,i9 s b=true)/\(T8 ss).length<=ss.length:=by
 have hp:=aF ss
 obtain ⟨⟨t,ht,et⟩,i3,i4⟩:=dO (C6 ss) [] .nil
 rw [List.nil_append] at et
 have hs:(T8 ss).Sublist (C6 ss):=by unfold T8; rw [et]; exact ht
 refine ⟨⟨fun b hb=>h b (hp.mem_iff.mp (hs.subset hb)),(jJ ss).sublist hs,i3⟩,fun b hb=>hp.mem_iff.mp (hs.subset hb),fun s q=>i4 s (hp.mem_iff.mpr q),?_⟩
 have:=hs.length_le
 rw [hp.length_eq] at this
 exact this
theorem wl {ss:List (List Int)} (h:ss.length<=1000) (ES:∀ z∈ss,z ≠ []):fSortA [lS ss]=.ok (lS (C6 ss)):=by
 have EN:ss.all (fun x=>!x.isEmpty)=true:=by
  rw [List.all_eq_true]
  intro x hx
  have:=ES x hx
  cases x with
  | nil=>exact absurd rfl this
  | cons _ _=>rfl
 show (match K1 (ss.map fun x=>W.tup (x.map W.int)) with | some ss=>_ | none=>_)=_
 rw [cA]
 show (if _ then _ else _)=_
 rw [if_pos ⟨h,EN⟩]
theorem qk {l:List (List Int)} {i:Nat} (hi:i<l.length):(l.take (i+1)).foldl bst []=bst ((l.take i).foldl bst []) (l.getD i []):=by
 rw [List.take_succ,List.foldl_append,List.getD_eq_getElem?_getD]
 simp [List.getElem?_eq_getElem hi]
theorem fold_subB {l:List (List Int)}:(l.foldl bst []).Sublist l:=by
 obtain ⟨⟨t,ht,et⟩,_⟩:=dO l [] .nil
 rw [List.nil_append] at et
 rw [et]; exact ht
theorem rM {n:Nat} {ss:List (List Int)} (h1:1<=n) (h:∀ s∈ss,s.length=n) (Fy:ss.length<=900):bN [lS ss]=.ok (lS (T8 ss)):=by
 have fin:Ok (bN [lS ss]) fun v=>v=lS (T8 ss):=by
  have k0:=wl (ss:=ss) (by omega) fun z hz e=>by have:=h z hz; rw [e] at this; simp at this; omega
  have hp:=aF ss
  have hlen:=hp.length_eq
  have JJ:∀ s∈C6 ss,s.length=n:=fun s hs=>h s (hp.mem_iff.mp hs)
  exists rpB,jY,k0
  unfold T8
  generalize C6 ss=S at hlen JJ
  refine n6 (t7 (fun i ρ=>∃ a:Sl,ρ = [.par (lS ss),.own (((S.take i).foldl bst []).map tI),a]) ⟨_,rfl⟩ ?_ ?_)
  ·rintro i u ρ hu ⟨a,rfl⟩
   obtain ⟨hi,rfl⟩:=jV hu
   have Fg:=rG hi
   have HR:=qk hi
   have Hl:((S.take i).foldl bst []).Sublist S:=fold_subB.trans (List.take_sublist _ _)
   generalize (S.take i).foldl bst []=F at HR Hl
   generalize S.getD i []=z at Fg HR
   have hFl:F.length<=900:=by have:=Hl.length_le; omega
   have k1:=V9 (s:=z) (ss:=F) fun x hx=>by rw [JJ x (Hl.subset hx),JJ z Fg]
   refine ⟨_,rfl,?_⟩
   exists k1
   refine K6 (fun h=>?_) (fun h=>?_)
   ·exists z9 (X5 z)
    refine ⟨.par (tI z),?_⟩
    rw [HR]
    unfold bst
    rw [if_neg (by simpa using h),List.map_append]
   ·exists rp18
    refine ⟨.par (tI z),?_⟩
    rw [HR]
    unfold bst
    rw [if_pos (by simpa using h)]
  ·rintro ρ ⟨a,rfl⟩
   rw [List.length_map,List.take_length]
   exists rp18
 obtain ⟨v,e,rfl⟩:=fin
 exact e
def p6 (s:List Int) (m:Mv):List Int:=(List.range s.length).map fun k=>s.getD k 0-m.1.getD k 0+m.2.getD k 0
theorem F0 (s:List Int) (m:Mv):(p6 s m).length=s.length:=by simp [p6]
def u7 (ss:List (List Int)) (s:List Int) (m:Mv):Bool:=i9 s m.1&&f9 (p6 s m) ss
def lW (ms:List Mv) (ss:List (List Int)) (s:List Int):Bool:=f9 s ss||ms.any (u7 ss s)
theorem lV (s t:List Int):f9 s [t]=i9 s t:=by unfold f9; simp
theorem fR {a b c:List Int} (h1:a.length=b.length) (x:i9 a b=true) (y:i9 b c=true):i9 a c=true:=cov_iff.mpr fun k hk=>by
 have p:=cov_iff.mp x k hk
 have q:=cov_iff.mp y k (by omega)
 omega
theorem dW {n:Nat} {s z:List Int} {m:Mv} (hz:z.length=n) (hs:s.length=n):i9 z (srcL s m.1 m.2)=true↔i9 z m.1=true/\i9 (p6 z m) s=true:=by
 constructor
 ·intro h
  have h:=cov_iff.mp h
  refine ⟨cov_iff.mpr fun k hk=>?_,cov_iff.mpr fun k hk=>?_⟩
  ·have:=h k hk
   rw [dX (by omega)] at this
   omega
  ·rw [F0] at hk
   have:=h k hk
   rw [dX (by omega)] at this
   rw [show (p6 z m).getD k 0=_ from L7 hk]
   omega
 ·rintro ⟨h,h'⟩
  have h:=cov_iff.mp h
  have h':=cov_iff.mp h'
  refine cov_iff.mpr fun k hk=>?_
  have p:=h k hk
  have q:=h' k (by rw [F0]; exact hk)
  rw [show (p6 z m).getD k 0=_ from L7 hk] at q
  rw [dX (by omega)]
  omega
section
variable {n:Nat} {ms:List Mv} {ss:List (List Int)} (hs:∀ x∈ss,x.length=n)
include hs
theorem gy:∀ x∈ss++u3 ms ss,x.length=n:=fun x hx=>by
 rcases List.mem_append.mp hx with q | q
 ·exact hs x q
 ·exact cC hs x q
theorem rN {z:List Int} (hz:z.length=n):lW ms ss z=true↔∃ d∈ss++u3 ms ss,i9 z d=true:=by
 unfold lW
 rw [Bool.or_eq_true]
 constructor
 ·rintro (h | h)
  ·unfold f9 at h
   obtain ⟨s,h1,h2⟩:=List.any_eq_true.mp h
   exact ⟨s,List.mem_append_left _ h1,h2⟩
  ·obtain ⟨m,h1,h2⟩:=List.any_eq_true.mp h
   unfold u7 at h2
   rw [Bool.and_eq_true] at h2
   unfold f9 at h2
   obtain ⟨s,h3,h4⟩:=List.any_eq_true.mp h2.2
   refine ⟨srcL s m.1 m.2,List.mem_append_right _ ?_,(dW hz (hs s h3)).mpr ⟨h2.1,h4⟩⟩
   unfold u3
   exact List.mem_flatMap.mpr ⟨m,h1,List.mem_map.mpr ⟨s,h3,rfl⟩⟩
 ·rintro ⟨d,hd,hc⟩
  rcases List.mem_append.mp hd with q | q
  ·exact .inl (List.any_eq_true.mpr ⟨d,q,hc⟩)
  ·unfold u3 at q
   obtain ⟨m,h1,q⟩:=List.mem_flatMap.mp q
   obtain ⟨s,h3,rfl⟩:=List.mem_map.mp q
   have:=(dW hz (hs s h3)).mp hc
   refine .inr (List.any_eq_true.mpr ⟨m,h1,?_⟩)
   unfold u7
   rw [this.1,Bool.true_and]
   exact List.any_eq_true.mpr ⟨s,h3,this.2⟩
end
theorem uu {n:Nat} {ms:List Mv} {ss:List (List Int)} (h1:1<=n) (h6:n<=6) (hm:∀ m∈ms,okM n m) (hs:∀ x∈ss,x.length=n) (Fx:ms.length<=8) (Gf:ss.length<=100) (Fy:ss.length+ms.length*ss.length<=900):O1 [tM_ ms,lS ss]=.ok (lS (T8 (ss++u3 ms ss))):=by
 have k1:=cY h6 hm hs Fx Gf
 have k2:=rM (ss:=ss++u3 ms ss) h1 (gy hs) (by rw [List.length_append,Z5]; exact Fy)
 have k3:mf true (.lst (ss.map tI)) (lS (u3 ms ss))=.ok (lS (ss++u3 ms ss)):=by
  rw [pf (by simp [Z5]; omega),<- List.map_append]; rfl
 exists rpB,cq,k1,k3,k2
def V4 (ms:List Mv) (ss:List (List Int)):Bool:=(u3 ms ss).all fun s=>f9 s ss
theorem uw {n:Nat} {ms:List Mv} {ss:List (List Int)} (h6:n<=6) (hm:∀ m∈ms,okM n m) (hs:∀ x∈ss,x.length=n) (Fx:ms.length<=8) (Gf:ss.length<=100):bd [tM_ ms,lS ss]=.ok (.bl (V4 ms ss)):=by
 have k1:=cY h6 hm hs Fx Gf
 have e:∀ N mg me ρ (h:∀ s∈u3 ms ss,∃ ρ1,mg (tI s) (ρ++List.replicate (N-ρ.length) Sl.un)=some ρ1/\me ρ1=.ok (.bl (f9 s ss))),m8 N mg yes me ((u3 ms ss).map tI) ρ=.ok (.lst (((u3 ms ss).map fun s=>f9 s ss).map W.bl)):=fun N mg me ρ h=>by
  rw [n8 (fun s=>W.bl (f9 s ss)) _ _ ρ (by rw [Z5]; have:=Nat.mul_le_mul Fx Gf; omega) h,List.map_map]; rfl
 exists rpB,fK,k1
 rw [e]
 ·exists rp18
  unfold U0 V4
  rw [List.all_map]; rfl
 ·intro s Ft
  have hk:=V9 (s:=s) (ss:=ss) (fun x hx=>by rw [hs x hx,cC hs s Ft])
  refine ⟨_,rfl,?_⟩
  exists hk
def Bk (ms:List Mv) (t:List Int):Nat->List (List Int)
 | 0=>[t]
 | k+1=>T8 (Bk ms t k++u3 ms (Bk ms t k))
theorem Z0 {n:Nat} {ms:List Mv} {t:List Int} (ht:t.length=n):∀ k,Bas n (Bk ms t k)
 | 0=>⟨fun b hb=>by rw [List.mem_singleton.mp hb]; exact ht,List.pairwise_singleton _ _,List.pairwise_singleton _ _⟩
 | k+1=>(jU (gy (ms:=ms) (Z0 ht k).len)).1
section
variable {n:Nat} {ms:List Mv} {t:List Int} (ht:t.length=n)
include ht
theorem ae (k:Nat) {s:List Int} (hs:s.length=n):f9 s (Bk ms t (k+1))=(f9 s (Bk ms t k)||ms.any (u7 (Bk ms t k) s)):=by
 have hB:=Z0 (ms:=ms) ht k
 have hm:=jU (gy (ms:=ms) hB.len)
 have e:f9 s (Bk ms t (k+1))=true↔lW ms (Bk ms t k) s=true:=by
  rw [rN hB.len hs]
  unfold f9
  rw [List.any_eq_true]
  constructor
  ·rintro ⟨b,hb,hc⟩
   exact ⟨b,hm.2.1 b hb,hc⟩
  ·rintro ⟨d,hd,hc⟩
   obtain ⟨b,hb,FY⟩:=hm.2.2.1 d hd
   exact ⟨b,hb,fR (by rw [hs,gy (ms:=ms) hB.len d hd]) hc FY⟩
 exact Bool.eq_iff_iff.mpr e
theorem rL (k:Nat) {s:List Int} (hs:s.length=n) (h:f9 s (Bk ms t k)=true):f9 s (Bk ms t (k+1))=true:=by
 rw [ae ht k hs,h]; rfl
theorem kf:∀ (k:Nat) {s:List Int},s.length=n->i9 s t=true->f9 s (Bk ms t k)=true
 | 0,s,_,h=>by show f9 s [t]=true; rw [lV]; exact h
 | k+1,s,hs,h=>rL ht k hs (kf k hs h)
end
theorem kH {s:List Int} {m:Mv} (h:m.1.length=s.length):dG [tI s,mW m]=.ok (.bl (i9 s m.1)):=by
 have a0:L2.atI [tI m.1,tI m.2] 0=some (tI m.1):=rfl
 have k:=fQ (a:=s) (b:=m.1) h
 exists rpB,oE,a0,k
theorem mt {n:Nat} {m:Mv} (h6:n<=6) (h:okM n m):U5 [mW m]=.ok (tI ((List.range n).map fun k=>m.2.getD k 0-m.1.getD k 0)):=by
 have a0:L2.atI [tI m.1,tI m.2] 0=some (tI m.1):=rfl
 have a1:L2.atI [tI m.1,tI m.2] 1=some (tI m.2):=rfl
 have hz:=S2 (tI m.1) (tI m.2) _ _ rfl rfl
 rw [br (by rw [h.1,h.2]),h.1] at hz
 exists rpB,cN,a0,a1,hz
 have e:∀ N mg me ρ (h:∀ k,k<n->∃ ρ1,mg (.tup [.int (m.1.getD k 0),.int (m.2.getD k 0)]) (ρ++List.replicate (N-ρ.length) Sl.un)=some ρ1/\me ρ1=.ok (.int (m.2.getD k 0-m.1.getD k 0))),m8 N mg yes me ((List.range n).map fun k=>W.tup [.int (m.1.getD k 0),.int (m.2.getD k 0)]) ρ=.ok (lI ((List.range n).map fun k=>m.2.getD k 0-m.1.getD k 0)):=fun N mg me ρ h=>by
  rw [n8 (fun k=>.int (m.2.getD k 0-m.1.getD k 0)) _ _ ρ (by simpa using (by omega:n<=1000)) (fun k hk=>h k (by simpa using hk)),lQ]
 rw [e]
 ·exists rp18
 ·intro k hk
  refine ⟨_,rfl,?_⟩
  exists rp18
theorem Cd (s:List Int):(List.range s.length).map (fun k=>s.getD k 0)=s:=by
 apply List.ext_getElem
 ·simp
 ·intro i h1 h2; simp [h2]
theorem pR {n:Nat} {s:List Int} {m:Mv} (h6:n<=6) (h:okM n m) (hs:s.length=n) (hc:i9 s m.1=true):Y1 [tI s,mW m]=.ok (tI ((List.range n).map fun k=>s.getD k 0+(m.2.getD k 0-m.1.getD k 0))):=by
 have k1:=kH (s:=s) (m:=m) (by rw [hs,h.1])
 rw [hc] at k1
 have k2:=mt h6 h
 have hz:=S2 (tI s) (tI ((List.range n).map fun k=>m.2.getD k 0-m.1.getD k 0)) _ _ rfl rfl
 rw [br (by simp [hs]),hs] at hz
 exists rpB,ke,k1,k2,hz
 have e:∀ N mg me ρ (h:∀ k,k<n->∃ ρ1,mg (.tup [.int (s.getD k 0),.int (((List.range n).map fun k=>m.2.getD k 0-m.1.getD k 0).getD k 0)]) (ρ++List.replicate (N-ρ.length) Sl.un)=some ρ1/\me ρ1=.ok (.int (s.getD k 0+(m.2.getD k 0-m.1.getD k 0)))),m8 N mg yes me ((List.range n).map fun k=>W.tup [.int (s.getD k 0),.int (((List.range n).map fun k=>m.2.getD k 0-m.1.getD k 0).getD k 0)]) ρ=.ok (lI ((List.range n).map fun k=>s.getD k 0+(m.2.getD k 0-m.1.getD k 0))):=fun N mg me ρ h=>by
  rw [n8 (fun k=>.int (s.getD k 0+(m.2.getD k 0-m.1.getD k 0))) _ _ ρ (by simpa using (by omega:n<=1000)) (fun k hk=>h k (by simpa using hk)),lQ]
 rw [e]
 ·exists rp18
 ·intro k hk
  refine ⟨_,rfl,?_⟩
  exists rp18
  rw [L7 hk]
theorem jL {n N:Nat} {m:Rho->R Fl} {ws:List W} (h:ws.length=n):G8 n N m ws=Q3 (m (ws.map Sl.val++List.replicate (N-n) Sl.un)):=by unfold G8; rw [if_pos h]; rfl
theorem xZ {N:Nat} {m:Rho->R Fl} (a b:W):G8 2 N m [a,b]=Q3 (m (Sl.val a::Sl.val b::List.replicate (N-2) Sl.un)):=jL rfl
theorem xY {N:Nat} {m:Rho->R Fl} (a b c d:W):G8 4 N m [a,b,c,d]=Q3 (m (Sl.val a::Sl.val b::Sl.val c::Sl.val d::List.replicate (N-4) Sl.un)):=jL rfl
def rgW (ms:List Mv) (t:List Int) (j:Nat):List W:=(List.range (j+1)).map fun i=>lS (Bk ms t i)
theorem ij (ms:List Mv) (t:List Int) (j:Nat):(rgW ms t j).length=j+1:=by simp [rgW]
theorem ym (ms:List Mv) (t:List Int) (j:Nat):rgW ms t (j+1)=rgW ms t j ++ [lS (Bk ms t (j+1))]:=by
 unfold rgW
 rw [List.range_succ,List.map_append]; rfl
theorem tz (ms:List Mv) (t:List Int) (j:Nat):L2.atI (rgW ms t j) (-1)=some (lS (Bk ms t j)):=by
 unfold L2.atI
 have:L2.ixN (rgW ms t j).length (-1)=some j:=by
  unfold L2.ixN
  rw [ij]
  simp
  omega
 rw [this]
 show (rgW ms t j)[j]?=_
 unfold rgW
 simp
def v4 (ms:List Mv) (t:List Int) (most:Nat) (word:String) (j:Nat):W:=if decide ((most:Int)<((Bk ms t j).length:Int))=true then .tup [.str "open",.int (j:Int)] else if V4 ms (Bk ms t j)=true then .tup [.str word,lS (Bk ms t j)] else if decide ((j:Int)=(most:Int))=true then .tup [.str "open",.int (j:Int)] else .non
theorem end_non {ms:List Mv} {t:List Int} {most:Nat} {word:String} {j:Nat}:v4 ms t most word j=.non↔((Bk ms t j).length<=most/\V4 ms (Bk ms t j)=false/\j≠most):=by
 unfold v4
 constructor
 ·intro h
  split at h
  ·cases h
  ·rename_i h1
   split at h
   ·cases h
   ·rename_i h2
    split at h
    ·cases h
    ·rename_i h3
     simp at h1 h2 h3
     exact ⟨by omega,h2,by omega⟩
 ·rintro ⟨h1,h2,h3⟩
  rw [if_neg (by simp; omega),h2,if_neg Bool.false_ne_true,if_neg (by simp; omega)]
theorem ph {n:Nat} {ms:List Mv} {t:List Int} {most j:Nat} {word:String} (h6:n<=6) (hm:∀ m∈ms,okM n m) (Fx:ms.length<=8) (ht:t.length=n) (GU:most<=30):am [tM_ ms,.lst (rgW ms t j),.int (most:Int),.str word]=.ok (v4 ms t most word j):=by
 have fin:Ok (am [tM_ ms,.lst (rgW ms t j),.int (most:Int),.str word]) fun v=>v=v4 ms t most word j:=by
  have a1:=tz ms t j
  have l1:=ij ms t j
  have hB:=Z0 (ms:=ms) ht j
  have hnum:(((j+1:Nat):Int))-1=(j:Int):=by omega
  have ee:fEq false (.int (j:Int)) (.int (most:Int))=.ok (.bl (decide ((j:Int)=(most:Int)))):=oZ false _ _
  have n1:k9 ((Bk ms t j).map tI)=true:=dq _
  exists xY,iJ,a1,l1,hnum
  refine n6 (P3 (fun h=>?_) (fun h=>?_))
  ·exists rp18
   unfold v4
   rw [if_pos h]
  have hle:(Bk ms t j).length<=most:=by have:=of_decide_eq_false h; omega
  have k1:=uw h6 hm hB.len Fx (by omega)
  exists k1
  refine P3 (fun h2=>?_) (fun h2=>?_)
  ·exists rp18
   unfold v4
   rw [if_neg (by rw [h]; exact Bool.false_ne_true),if_pos h2]
  exists ee
  refine P3 (fun h3=>?_) (fun h3=>?_)
  ·exists rp18
   unfold v4
   rw [if_neg (by rw [h]; exact Bool.false_ne_true),if_neg (by rw [h2]; exact Bool.false_ne_true),if_pos h3]
  ·exists rp18
   unfold v4
   rw [if_neg (by rw [h]; exact Bool.false_ne_true),if_neg (by rw [h2]; exact Bool.false_ne_true),if_neg (by rw [h3]; exact Bool.false_ne_true)]
 obtain ⟨v,e,rfl⟩:=fin
 exact e
theorem xJ {a b c x:Sl} {R:List W} {w:W}:cE 4 [3] w [a,b,c,.own R,x] = [a,b,c,if noL w=true then .own R else .val (.lst R),.val w]:=by
 unfold cE
 split <;> rfl
theorem yg {n:Nat} {ms:List Mv} {t:List Int} {most j:Nat} {word:String} (Fx:ms.length<=8) (GU:most<=30) (h:v4 ms t most word j=.non):(Bk ms t j).length<=100/\(Bk ms t j).length+ms.length*(Bk ms t j).length<=900:=by
 have h:=(end_non.mp h).1
 have:=Nat.mul_le_mul Fx (show (Bk ms t j).length<=30 by omega)
 omega
theorem Bp (ws:List W) (w:W):J3 (ws ++ [w]) none (some (-1))=ws:=by
 unfold J3
 rw [HT.sIx_none]
 have:HT.sIx (ws ++ [w]).length (ws ++ [w]).length (some (-1))=ws.length:=by
  show (if (-1:Int)<0 then ((-1:Int)+(((ws ++ [w]).length:Nat):Int)).toNat else min (-1:Int).toNat (ws ++ [w]).length)=_
  rw [if_pos (by omega),List.length_append,List.length_singleton]
  omega
 rw [this]
 simp
theorem Cb {n:Nat} {s:List Int} {m:Mv} (hs:s.length=n):(List.range n).map (fun k=>s.getD k 0+(m.2.getD k 0-m.1.getD k 0))=p6 s m:=by
 unfold p6
 rw [hs]
 refine List.map_congr_left fun k _=>?_
 omega
theorem pT {n:Nat} {s:List Int} {m:Mv} (h6:n<=6) (h:okM n m) (hs:s.length=n) (hc:i9 s m.1=true):Y1 [tI s,mW m]=.ok (tI (p6 s m)):=by
 rw [pR h6 h hs hc,Cb hs]
def K9 (ms:List Mv) (B:List (List Int)) (s:List Int):List Nat:=(List.range ms.length).filter fun k=>u7 B s (ms.getD k ([],[]))
theorem wD (ms:List Mv):((ms.map mW).mapIdx fun i x=>W.tup [.int (i:Int),x])=(List.range ms.length).map fun (k:Nat)=>W.tup [.int (k:Int),mW (ms.getD k ([],[]))]:=by
 apply List.ext_getElem
 ·simp
 ·intro i h1 h2
  have hi:i<ms.length:=by simpa using h1
  simp [hi]
theorem vY {n:Nat} {ms:List Mv} {B:List (List Int)} {s:List Int} (h6:n<=6) (hm:∀ m∈ms,okM n m) (Fx:ms.length<=8) (hB:∀ x∈B,x.length=n) (hs:s.length=n):U2 [tI s,tM_ ms,lS B]=.ok (lI ((K9 ms B s).map fun (k:Nat)=>(k:Int))):=by
 have he:fj [tM_ ms]=.ok ((List.range ms.length).map fun (k:Nat)=>W.tup [.int (k:Int),mW (ms.getD k ([],[]))]):=congrArg R.ok (wD ms)
 have e:∀ N mg mc me ρ,(∀ k:Nat,k<ms.length->∃ ρ1,mg (.tup [.int (k:Int),mW (ms.getD k ([],[]))]) (ρ++List.replicate (N-ρ.length) Sl.un)=some ρ1/\mc ρ1=.ok (u7 B s (ms.getD k ([],[])))/\me ρ1=.ok (.int (k:Int))) ->
   m8 N mg mc me ((List.range ms.length).map fun (k:Nat)=>W.tup [.int (k:Int),mW (ms.getD k ([],[]))]) ρ=.ok (lI ((K9 ms B s).map fun (k:Nat)=>(k:Int))):=fun N mg mc me ρ h=>by
  have:=iN (N':=N) (mg:=mg) (mc:=mc) (me:=me) (fun k:Nat=>W.int (k:Int)) (fun k:Nat=>W.tup [.int (k:Int),mW (ms.getD k ([],[]))]) (fun k=>u7 B s (ms.getD k ([],[]))) (List.range ms.length) ρ (by simp; omega) fun k hk=>by
   obtain ⟨ρ1,e1,e2,e3⟩:=h k (by simpa using hk)
   exact ⟨ρ1,e1,e2,fun _=>e3⟩
  rw [this]
  unfold lI K9
  rw [List.map_map]; rfl
 exists rpB,aX,he
 rw [e]
 ·exists rp18
 intro k hk
 have Hr:ms.getD k ([],[])∈ms:=by rw [List.getD_eq_getElem?_getD]; simp [hk]
 have hok:=hm _ Hr
 generalize ms.getD k ([],[])=m at hok
 have k1:=kH (s:=s) (m:=m) (by rw [hs]; exact hok.1)
 refine ⟨_,rfl,?_⟩
 cases q:i9 s m.1 with
 | false=>
  have a0:∀ r:R Bool,TP.rAnd (.ok false) r=.ok false:=fun r=>rfl
  have st:u7 B s m=false:=by unfold u7; rw [q]; rfl
  rw [q] at k1
  exists k1,a0,st
 | true=>
  have k2:=pT h6 hok hs q
  have k3:=V9 (s:=p6 s m) (ss:=B) fun x hx=>by rw [hB x hx,F0,hs]
  have st:u7 B s m=f9 (p6 s m) B:=by unfold u7; rw [q]; rfl
  rw [q] at k1
  exists k1,k2,k3,st
def G9 (ms:List Mv) (t:List Int):Nat->List Int->List Int
 | 0,_=>[]
 | k+1,s=>(((K9 ms (Bk ms t k) s).getD 0 0:Nat):Int)::G9 ms t k (p6 s (ms.getD ((K9 ms (Bk ms t k) s).getD 0 0) ([],[])))
theorem fO {n:Nat} {ms:List Mv} {t s:List Int} {k:Nat} (ht:t.length=n) (hs:s.length=n) (h1:f9 s (Bk ms t (k+1))=true) (h0:f9 s (Bk ms t k)=false):∃ r tl,K9 ms (Bk ms t k) s=r::tl/\r<ms.length/\u7 (Bk ms t k) s (ms.getD r ([],[]))=true:=by
 rw [ae ht k hs,h0,Bool.false_or] at h1
 obtain ⟨m,hm,hq⟩:=List.any_eq_true.mp h1
 obtain ⟨i,hi,e⟩:=List.mem_iff_getElem.mp hm
 have Fb:i∈K9 ms (Bk ms t k) s:=List.mem_filter.mpr ⟨List.mem_range.mpr hi,by
  rw [List.getD_eq_getElem?_getD,List.getElem?_eq_getElem hi]
  show u7 _ s ms[i]=true
  rw [e]; exact hq⟩
 cases q:K9 ms (Bk ms t k) s with
 | nil=>rw [q] at Fb; cases Fb
 | cons r tl=>
  have hr:r∈K9 ms (Bk ms t k) s:=by rw [q]; exact List.mem_cons_self
  obtain ⟨g1,g2⟩:=List.mem_filter.mp hr
  exact ⟨r,tl,rfl,List.mem_range.mp g1,g2⟩
theorem yn {f:Nat->W} {j i:Nat} {w:W} (h:((List.range j).map f).reverse[i]?=some w):i<j/\w=f (j-1-i):=by
 have hi:i<j:=by have:=(List.getElem?_eq_some_iff.mp h).1; simpa using this
 rw [List.getElem?_reverse (by simpa using hi)] at h
 simp at h
 obtain ⟨a,ha,e⟩:=h
 rw [List.getElem?_range (by omega)] at ha
 cases ha
 exact ⟨hi,e.symm⟩
theorem yf {n:Nat} {ms:List Mv} {b t:List Int} {j:Nat} (h6:n<=6) (hm:∀ m∈ms,okM n m) (Fx:ms.length<=8) (hb:b.length=n) (ht:t.length=n) (hj:j<=100) (hl:f9 b (Bk ms t j)=true) (hn:∀ i,i<j->f9 b (Bk ms t i)=false):L3 [.tup [tI b,tM_ ms],.lst (rgW ms t j)]=.ok (lI (G9 ms t j b)):=by
 have fin:Ok (L3 [.tup [tI b,tM_ ms],.lst (rgW ms t j)]) fun w=>w=lI (G9 ms t j b):=by
  have a0:L2.atI [tI b,tM_ ms] 0=some (tI b):=rfl
  have a1:L2.atI [tI b,tM_ ms] 1=some (tM_ ms):=rfl
  have cut:J3 (rgW ms t j) none (some (-1))=(List.range j).map fun i=>lS (Bk ms t i):=by
   have:rgW ms t j=((List.range j).map fun i=>lS (Bk ms t i)) ++ [lS (Bk ms t j)]:=by
    unfold rgW
    rw [List.range_succ,List.map_append]; rfl
   rw [this,Bp]
  exists xZ,aW,a0,cut
  refine n6 (t7 (fun i ρ=>∃ (R s:List Int) (a4 a5:Sl),ρ = [.val (.tup [tI b,tM_ ms]),.val (.lst (rgW ms t j)),.own (R.map W.int),.val (tI s),a4,a5]/\R.length=i/\i<=j/\G9 ms t j b=R++G9 ms t (j-i) s/\s.length=n/\f9 s (Bk ms t (j-i))=true/\(i<j->f9 s (Bk ms t (j-1-i))=false)) ⟨[],b,_,_,rfl,rfl,Nat.zero_le _,rfl,hb,hl,fun h=>hn _ (by omega)⟩ ?_ ?_)
  ·rintro i w ρ hw ⟨R,s,a4,a5,rfl,hR,Fa,hrow,hs,hl1,Go⟩
   obtain ⟨hi,rfl⟩:=yn hw
   obtain ⟨k,hk⟩:∃ k,j-i=k+1:=⟨j-i-1,by omega⟩
   have hk2:j-1-i=k:=by omega
   have hk3:j-(i+1)=k:=by omega
   have Go:=Go hi
   rw [hk] at hrow hl1
   rw [hk2] at Go
   obtain ⟨r,tl,er,hr,FF⟩:=fO ht hs hl1 Go
   have k1:=vY h6 hm Fx (Z0 (ms:=ms) ht k).len hs
   rw [er] at k1
   have b0:L2.atI ((((r::tl).map fun (k:Nat)=>(k:Int))).map W.int) 0=some (.int (r:Int)):=Y9 W.int (as:=(r::tl).map fun (k:Nat)=>(k:Int)) (d:=0) (i:=0) ⟨by omega,by simp⟩
   have b1:L2.atI (ms.map mW) (r:Int)=some (mW (ms.getD r ([],[]))):=by
    have:=Y9 mW (as:=ms) (d:=([],[])) (i:=(r:Int)) (by omega)
    rw [Int.toNat_natCast] at this
    exact this
   have hok:=hm (ms.getD r ([],[])) (by rw [List.getD_eq_getElem?_getD]; simp [hr])
   have IT:G9 ms t (k+1) s=(r:Int)::G9 ms t k (p6 s (ms.getD r ([],[]))):=by
    show (((K9 ms (Bk ms t k) s).getD 0 0:Nat):Int)::_=_
    rw [er]; rfl
   have Fg:ms.getD r ([],[])∈ms:=by rw [List.getD_eq_getElem?_getD]; simp [hr]
   generalize ms.getD r ([],[])=m at FF b1 hok IT Fg
   have hst':=FF
   unfold u7 at FF
   rw [Bool.and_eq_true] at FF
   have k2:=pT h6 hok hs FF.1
   refine ⟨_,rfl,?_⟩
   rw [hk2]
   generalize ((r::tl).map fun (k:Nat)=>(k:Int))=ql at k1 b0
   exists a1,k1,b0,b1,k2
   refine ⟨R ++ [(r:Int)],p6 s m,_,_,by rw [List.map_append],by simp [hR],hi,?_,by rw [F0]; exact hs,by rw [hk3]; exact FF.2,fun h=>?_⟩
   ·rw [hk3,hrow,IT,List.append_assoc]; rfl
   ·obtain ⟨k',JE⟩:∃ k',k=k'+1:=⟨k-1,by omega⟩
    rw [show j-1-(i+1)=k' by omega]
    cases q:f9 (p6 s m) (Bk ms t k') with
    | false=>rfl
    | true=>
     exfalso
     have:u7 (Bk ms t k') s m=true:=by unfold u7; rw [FF.1,q]; rfl
     have l2:f9 s (Bk ms t (k'+1))=true:=by
      rw [ae ht k' hs,List.any_eq_true.mpr ⟨m,Fg,this⟩,Bool.or_true]
     rw [JE] at Go
     rw [l2] at Go; cases Go
  ·rintro ρ ⟨R,s,a4,a5,rfl,hR,Fa,hrow,hs,hl1,Go⟩
   rw [List.length_reverse,List.length_map,List.length_range] at hrow
   exists rp18
   rw [hrow,Nat.sub_self]
   show lI R=lI (R ++ [])
   rw [List.append_nil]
 obtain ⟨v,e,rfl⟩:=fin
 exact e
theorem sD {n:Nat} {ms:List Mv} {b t:List Int} {most:Nat} (h1:1<=n) (h6:n<=6) (hm:∀ m∈ms,okM n m) (Fx:ms.length<=8) (hb:b.length=n) (ht:t.length=n) (GU:most<=30):Ok (fh [.tup [tI b,tM_ ms],tI t,.int (most:Int)]) fun w=>∃ j,(∀ i,i<j->f9 b (Bk ms t i)=false/\v4 ms t most "wall" i=.non)/\((f9 b (Bk ms t j)=true/\w=.tup [.str "row",lI (G9 ms t j b)])\/(f9 b (Bk ms t j)=false/\v4 ms t most "wall" j≠.non/\w=v4 ms t most "wall" j)):=by
 have isn:∀ w:W,isN w=true↔w=.non:=fun w=>by cases w <;> simp [isN]
 have a0:L2.atI [tI b,tM_ ms] 0=some (tI b):=rfl
 have a1:L2.atI [tI b,tM_ ms] 1=some (tM_ ms):=rfl
 have cm:chk (tM_ ms)=.ok (tM_ ms):=z9 (iD ms)
 have ct:=z9 (X5 t)
 have cb:chk (.tup [tI b,tM_ ms])=.ok (.tup [tI b,tM_ ms]):=z9 (by
  show k9 [tI b,tM_ ms]=true
  simp only [k9,X5,Bool.true_and,Bool.and_true]
  exact iD ms)
 exists rpB,jZ,ct
 refine n6 (aS ?_)
 refine cK (fun k ρ=>∃ (j:Nat) (x:Sl),ρ = [.par (.tup [tI b,tM_ ms]),.par (tI t),.par (.int (most:Int)),.own (rgW ms t j),x]/\k=most-j/\j<=most/\∀ i,i<j->f9 b (Bk ms t i)=false/\v4 ms t most "wall" i=.non) ?_ most _ ⟨0,_,rfl,rfl,Nat.zero_le _,fun i hi=>absurd hi (Nat.not_lt_zero _)⟩
 rintro k ρ ⟨j,x,rfl,hk,hjm,EN⟩
 have r0:=tz ms t j
 have l1:=ij ms t j
 have hB:=Z0 (ms:=ms) ht j
 have k1:=V9 (s:=b) (ss:=Bk ms t j) fun y hy=>by rw [hB.len y hy,hb]
 cases q:f9 b (Bk ms t j) with
 | true=>
  rw [q] at k1
  have k2:=yf h6 hm (by omega) hb ht (by omega) q fun i hi=>(EN i hi).1
  refine ⟨false,?_,?_⟩
  ·exists a0,r0,k1
  rw [if_neg Bool.false_ne_true]
  exists cb,k2
  exact ⟨j,EN,.inl ⟨q,rfl⟩⟩
 | false=>
  rw [q] at k1
  refine ⟨true,?_,?_⟩
  ·exists a0,r0,k1
  rw [if_pos rfl]
  have e1:=ph (j:=j) (word := "wall") h6 hm (by omega) ht GU
  exists xV,oX,so,Ck,a1,cm,e1,xJ
  by_cases hw:v4 ms t most "wall" j=.non
  ·have rm:=yg (n:=n) Fx GU hw
   have hj:=(end_non.mp hw).2.2
   have k3:=uu h1 h6 hm hB.len (by omega) rm.1 rm.2
   have k3':O1 [tM_ ms,lS (Bk ms t j)]=.ok (lS (Bk ms t (j+1))):=k3
   have r1:=ym ms t j
   have nn0:noL W.non=true:=rfl
   rw [hw]
   exists nn0,a1,r0,k3'
   refine ⟨most-(j+1),by omega,j+1,_,by rw [<- r1],rfl,by omega,fun i hi=>?_⟩
   by_cases e:i=j
   ·rw [e]; exact ⟨q,hw⟩
   ·exact EN i (by omega)
  ·have Iq:isN (v4 ms t most "wall" j)=false:=by
    cases q:isN (v4 ms t most "wall" j) with
    | false=>rfl
    | true=>exact absurd ((isn _).mp q) hw
   generalize hE:v4 ms t most "wall" j=w at hw Iq
   exists Iq
   exact ⟨j,EN,.inr ⟨q,by rw [hE]; exact hw,hE.symm⟩⟩
theorem pi (ms:List Mv) (t:List Int) (most:Nat) (word:String) (j:Nat):v4 ms t most word j=.non\/v4 ms t most word j=.tup [.str "open",.int (j:Int)]\/(v4 ms t most word j=.tup [.str word,lS (Bk ms t j)]/\(Bk ms t j).length<=most/\V4 ms (Bk ms t j)=true):=by
 unfold v4
 split
 ·exact .inr (.inl rfl)
 ·rename_i h1
  split
  ·rename_i h2
   exact .inr (.inr ⟨rfl,by simp at h1; omega,h2⟩)
  ·split
   ·exact .inr (.inl rfl)
   ·exact .inl rfl
def covP (ms:List Mv) (b t:List Int) (most:Nat) (w:W):Prop:=∃ j,(∀ i,i<j->f9 b (Bk ms t i)=false/\v4 ms t most "wall" i=.non)/\((f9 b (Bk ms t j)=true/\w=.tup [.str "row",lI (G9 ms t j b)])\/(f9 b (Bk ms t j)=false/\v4 ms t most "wall" j≠.non/\w=v4 ms t most "wall" j))
def O0 (ms:List Mv):List Int->List Int->Option (List Int)
 | [],s=>some s
 | r::rs,s=>if i9 s (ms.getD r.toNat ([],[])).1=true then O0 ms rs (p6 s (ms.getD r.toNat ([],[]))) else none
theorem ig {n:Nat} {ms:List Mv} {t:List Int} (ht:t.length=n):∀ (k:Nat) (s:List Int),s.length=n->f9 s (Bk ms t k)=true->(∀ i,i<k->f9 s (Bk ms t i)=false)->(∃ s',O0 ms (G9 ms t k s) s=some s'/\s'.length=n/\i9 s' t=true)/\∀ r∈G9 ms t k s,0<=r/\r<(ms.length:Int)
 | 0,s,hs,hl,_=>⟨⟨s,rfl,hs,by rw [show Bk ms t 0 = [t] from rfl,lV] at hl; exact hl⟩,fun r h=>nomatch h⟩
 | k+1,s,hs,hl,hn=>by
  obtain ⟨r,tl,er,hr,FF⟩:=fO ht hs hl (hn k (by omega))
  have IT:G9 ms t (k+1) s=(r:Int)::G9 ms t k (p6 s (ms.getD r ([],[]))):=by
   show (((K9 ms (Bk ms t k) s).getD 0 0:Nat):Int)::_=_
   rw [er]; rfl
  have Fg:ms.getD r ([],[])∈ms:=by rw [List.getD_eq_getElem?_getD]; simp [hr]
  have Gj:=FF
  unfold u7 at Gj
  rw [Bool.and_eq_true] at Gj
  have ih:=ig ht k (p6 s (ms.getD r ([],[]))) (by rw [F0]; exact hs) Gj.2 fun i hi=>by
   cases q:f9 (p6 s (ms.getD r ([],[]))) (Bk ms t i) with
   | false=>rfl
   | true=>
    exfalso
    have:u7 (Bk ms t i) s (ms.getD r ([],[]))=true:=by unfold u7; rw [Gj.1,q]; rfl
    have l2:f9 s (Bk ms t (i+1))=true:=by
     rw [ae ht i hs,List.any_eq_true.mpr ⟨_,Fg,this⟩,Bool.or_true]
    rw [hn (i+1) (by omega)] at l2; cases l2
  rw [IT]
  refine ⟨?_,fun x hx=>?_⟩
  ·obtain ⟨s',e,h1,h2⟩:=ih.1
   refine ⟨s',?_,h1,h2⟩
   unfold O0
   rw [Int.toNat_natCast,if_pos Gj.1]; exact e
  ·rcases List.mem_cons.mp hx with rfl | hx
   ·omega
   ·exact ih.2 x hx
theorem rQ {n:Nat} {ms:List Mv} {ss:List (List Int)} (hs:∀ x∈ss,x.length=n) (GT:V4 ms ss=true) {s:List Int} {m:Mv} (hm:m∈ms) (hl:s.length=n) (hc:i9 s m.1=true) (h0:f9 s ss=false):f9 (p6 s m) ss=false:=by
 cases q:f9 (p6 s m) ss with
 | false=>rfl
 | true=>
  exfalso
  unfold f9 at q
  obtain ⟨b,hb,cb⟩:=List.any_eq_true.mp q
  have c1:=(dW (m:=m) hl (hs b hb)).mpr ⟨hc,cb⟩
  have Fb:srcL b m.1 m.2∈u3 ms ss:=List.mem_flatMap.mpr ⟨m,hm,List.mem_map.mpr ⟨b,hb,rfl⟩⟩
  unfold V4 at GT
  have c2:=List.all_eq_true.mp GT _ Fb
  unfold f9 at c2
  obtain ⟨d,hd,cd⟩:=List.any_eq_true.mp c2
  have:f9 s ss=true:=List.any_eq_true.mpr ⟨d,hd,fR (by rw [hl]; exact (cC hs _ Fb).symm) c1 cd⟩
  rw [this] at h0; cases h0
inductive Rch (ms:List Mv) (b:List Int):List Int->Prop where
 | beg:Rch ms b b
 | go {s:List Int} {m:Mv}:Rch ms b s->m∈ms->i9 s m.1=true->Rch ms b (p6 s m)
theorem Rch.len {ms:List Mv} {b s:List Int} (h:Rch ms b s):s.length=b.length:=by
 induction h with
 | beg=>rfl
 | go _ _ _ ih=>rw [F0]; exact ih
theorem Rch.out {n:Nat} {ms:List Mv} {b s:List Int} {ss:List (List Int)} (hs:∀ x∈ss,x.length=n) (GT:V4 ms ss=true) (hb:b.length=n) (h0:f9 b ss=false) (h:Rch ms b s):f9 s ss=false:=by
 induction h with
 | beg=>exact h0
 | go r hm hc ih=>exact rQ hs GT hm (by rw [r.len]; exact hb) hc ih
theorem px {n:Nat} {ms:List Mv} {b t:List Int} {most:Nat} {w:W} (hb:b.length=n) (ht:t.length=n) (h:covP ms b t most w):(∃ j,w=.tup [.str "row",lI (G9 ms t j b)]/\f9 b (Bk ms t j)=true/\∀ i,i<j->f9 b (Bk ms t i)=false)\/(∃ L:List (List Int),w=.tup [.str "wall",lS L]/\(∀ s,Rch ms b s->i9 s t=false))\/∃ z,w=.tup [.str "open",.int z]/\i9 b t=false:=by
 obtain ⟨j,a,⟨l,rfl⟩ | ⟨l,ne,rfl⟩⟩:=h
 ·exact .inl ⟨j,rfl,l,fun i hi=>(a i hi).1⟩
 ·rcases pi ms t most "wall" j with q | q | ⟨q,_,GT⟩
  ·exact absurd q ne
  ·refine .inr (.inr ⟨_,q,?_⟩)
   have:f9 b (Bk ms t 0)=false:=by
    cases j with
    | zero=>exact l
    | succ j=>exact (a 0 (by omega)).1
   rw [show Bk ms t 0 = [t] from rfl,lV] at this
   exact this
  ·refine .inr (.inl ⟨_,q,fun s hs=>?_⟩)
   have:=hs.out (Z0 (ms:=ms) ht j).len GT hb l
   cases c:i9 s t with
   | false=>rfl
   | true=>
    rw [kf ht j (by rw [hs.len]; exact hb) c] at this; cases this
def nn (xs:List Int):Prop:=∀ x∈xs,0<=x
def okN (n:Nat) (m:Mv):Prop:=m.1.length=n/\m.2.length=n/\nn m.1/\nn m.2
theorem atM {ms:List Mv} {r:Int} (h0:0<=r) (h1:r<ms.length):L2.atI (ms.map mW) r=some (mW (ms.getD r.toNat ([],[]))):=by
 unfold L2.atI
 rw [X8 h0 (by rw [List.length_map]; exact h1)]
 show (ms.map mW)[r.toNat]?=_
 have hi:r.toNat<ms.length:=by omega
 rw [List.getElem?_map,List.getD_eq_getElem?_getD]
 simp [hi]
theorem getM {n:Nat} {ms:List Mv} {i:Nat} (hm:∀ m∈ms,okN n m) (h1:i<ms.length):okN n (ms.getD i ([],[])):=by
 refine hm _ ?_
 rw [List.getD_eq_getElem?_getD]; simp [h1]
def D6 (a b:Option Int):Bool:=match b with
 | none=>true
 | some y=>match a with
  | none=>false
  | some x=>decide (x<=y)
def g7 (cs ds:List (Option Int)):Bool:=(List.range cs.length).all fun k=>D6 (cs.getD k none) (ds.getD k none)
abbrev tC (cs:List (Option Int)):W:=.tup (cs.map oW)
abbrev lC (cs:List (Option Int)):W:=.lst (cs.map oW)
theorem Co {cs ds:List (Option Int)} {i:Nat} (hi:i<cs.length) (h:D6 (cs.getD i none) (ds.getD i none)=false):g7 cs ds=false:=by
 unfold g7
 rw [List.all_eq_false]
 exact ⟨i,by simpa using hi,by rw [h]; exact Bool.false_ne_true⟩
theorem bw {cs ds:List (Option Int)} (h:∀ k,k<cs.length->D6 (cs.getD k none) (ds.getD k none)=true):g7 cs ds=true:=by
 unfold g7
 rw [List.all_eq_true]
 exact fun k hk=>h k (by simpa using hk)
theorem cz {cs ds:List (Option Int)} (hl:ds.length=cs.length):S1 [tC cs,tC ds]=.ok (.bl (g7 cs ds)):=by
 have fin:Ok (S1 [tC cs,tC ds]) fun v=>v=.bl (g7 cs ds):=by
  have hz:=S2 (tC cs) (tC ds) _ _ rfl rfl
  rw [dU oW oW hl none none] at hz
  exists rpB,jX,hz
  refine n6 (t7 (fun i ρ=>∃ a b,ρ = [.par (tC cs),.par (tC ds),a,b]/\∀ k,k<i->D6 (cs.getD k none) (ds.getD k none)=true) ⟨_,_,rfl,fun k hk=>absurd hk (Nat.not_lt_zero _)⟩ ?_ ?_)
  ·rintro i u ρ hu ⟨a,b,rfl,EN⟩
   obtain ⟨hi,rfl⟩:=il hu
   refine ⟨_,rfl,?_⟩
   have key:D6 (cs.getD i none) (ds.getD i none)=true->∀ k,k<i+1->D6 (cs.getD k none) (ds.getD k none)=true:=fun h k hk=>by
    by_cases e:k=i
    ·subst e; exact h
    ·exact EN k (by omega)
   have bad:=Co (ds:=ds) hi
   revert key bad
   cases hd:ds.getD i none with
   | none=>
    intro key bad
    exists rp18
    exact ⟨_,_,rfl,key rfl⟩
   | some y=>
    cases hc:cs.getD i none with
    | none=>
     intro key bad
     exists rp18
     rw [bad rfl]
    | some x=>
     intro key bad
     exists rp18
     refine K6 (fun h=>?_) (fun h=>?_)
     ·exists rp18
      rw [bad (by show decide (x<=y)=false; simp only [decide_eq_true_eq] at h; exact decide_eq_false (by omega))]
     ·exists rp18
      exact ⟨_,_,rfl,key (by show decide (x<=y)=true; simp only [decide_eq_false_iff_not] at h; exact decide_eq_true (by omega))⟩
  ·rintro ρ ⟨a,b,rfl,EN⟩
   rw [List.length_map,List.length_range] at EN
   exists rp18
   rw [bw EN]
 obtain ⟨v,e,rfl⟩:=fin
 exact e
def aM (c e:Option Int):Option Int:=if c=e then c else none
def v8 (cs es:List (Option Int)):List (Option Int):=if g7 es cs=true then (List.range cs.length).map fun k=>aM (cs.getD k none) (es.getD k none) else cs
theorem cJ (cs es:List (Option Int)):(v8 cs es).length=cs.length:=by unfold v8; split <;> simp
theorem nV {cs es:List (Option Int)} (hl:es.length=cs.length) (h6:cs.length<=6):al [tC cs,tC es]=.ok (tC (v8 cs es)):=by
 have hu:=cz (cs:=es) (ds:=cs) hl.symm
 have fin:Ok (al [tC cs,tC es]) fun v=>v=tC (v8 cs es):=by
  have hz:=S2 (tC cs) (tC es) _ _ rfl rfl
  rw [dU oW oW hl none none] at hz
  exists rpB,iG,hu
  refine n6 (P3 (fun h=>?_) (fun h=>?_))
  ·exists z9 (show noL (tC cs)=true from y4 cs)
   unfold v8
   rw [if_neg (by simpa using h)]
  ·exists hz
   refine ze (rp (CT ?_))
   refine ⟨lC (v8 cs es),?_,?_⟩
   ·rw [n8 (fun k=>oW (aM (cs.getD k none) (es.getD k none))) _ _ _ (by simpa using (by omega:cs.length<=1000))]
    ·unfold v8
     rw [if_pos (by simpa using h)]
     exact congrArg (fun l=>R.ok (W.lst l)) (by rw [List.map_map]; rfl)
    ·intro k hk
     refine ⟨_,rfl,?_⟩
     have hk:k<cs.length:=by simpa using hk
     cases hc:cs.getD k none with
     | none=>
      cases he:es.getD k none with
      | none=>
       exists rp18
       rfl
      | some y=>
       exists rp18
       rfl
     | some x=>
      cases he:es.getD k none with
      | none=>
       exists rp18
       rfl
      | some y=>
       exists rp18
       unfold aM
       by_cases e:x=y
       ·subst e; simp; rfl
       ·simp [e]; rfl
   ·exact ⟨_,by rw [oY,pC],rfl⟩
 obtain ⟨v,e,rfl⟩:=fin
 exact e
theorem pE {n:Nat} {m:Mv} (h6:n<=6) (h:okN n m):U5 [mW m]=.ok (tI ((List.range n).map fun k=>m.2.getD k 0-m.1.getD k 0)):=by
 have a0:L2.atI [tI m.1,tI m.2] 0=some (tI m.1):=rfl
 have a1:L2.atI [tI m.1,tI m.2] 1=some (tI m.2):=rfl
 have hz:=S2 (tI m.1) (tI m.2) _ _ rfl rfl
 rw [br (by rw [h.1,h.2.1]),h.1] at hz
 exists rpB,cN,a0,a1,hz
 have e:∀ N mg me ρ (h:∀ k,k<n->∃ ρ1,mg (.tup [.int (m.1.getD k 0),.int (m.2.getD k 0)]) (ρ++List.replicate (N-ρ.length) Sl.un)=some ρ1/\me ρ1=.ok (.int (m.2.getD k 0-m.1.getD k 0))),m8 N mg yes me ((List.range n).map fun k=>W.tup [.int (m.1.getD k 0),.int (m.2.getD k 0)]) ρ=.ok (lI ((List.range n).map fun k=>m.2.getD k 0-m.1.getD k 0)):=fun N mg me ρ h=>by
  rw [n8 (fun k=>.int (m.2.getD k 0-m.1.getD k 0)) _ _ ρ (by simpa using (by omega:n<=1000)) (fun k hk=>h k (by simpa using hk)),lQ]
 rw [e]
 ·exists rp18
 ·intro k hk
  refine ⟨_,rfl,?_⟩
  exists rp18
abbrev Cap:=List (Option Int)
abbrev GEnt:=Cap×Nat×Nat
abbrev gW (e:GEnt):W:=.tup [tC e.1,.int (e.2.1:Int),.int (e.2.2:Int)]
abbrev g0 (c:Cap):W:=.tup [tC c,.non,.non]
abbrev k5 (c:Cap) (es:List GEnt):List W:=g0 c::es.map gW
def stC (c:Cap) (es:List GEnt):List Cap:=c::es.map (·.1)
def sC (c:Cap) (es:List GEnt) (a:Nat):Cap:=(stC c es).getD a []
def mvN (ms:List Mv) (k:Nat):Mv:=ms.getD k ([],[])
def cdG (e:GEnt):Nat:=e.2.1*8+e.2.2
theorem R8 (c:Cap) (es:List GEnt):(stC c es).length=es.length+1:=by simp [stC]
theorem eB {c:Cap} {es:List GEnt} {e:GEnt} {a:Nat} (h:a<=es.length):sC c (es ++ [e]) a=sC c es a:=by
 unfold sC stC
 rw [List.map_append,<- List.cons_append,List.getD_eq_getElem?_getD,List.getD_eq_getElem?_getD,List.getElem?_append_left (by simp; omega)]
theorem nN {c:Cap} {es:List GEnt} {i:Nat} {e:GEnt} (h:es[i]?=some e):sC c es (i+1)=e.1:=by
 unfold sC stC
 rw [List.getD_eq_getElem?_getD,List.getElem?_cons_succ,List.getElem?_map,h]; rfl
theorem hZ {c:Cap} {es:List GEnt} {a:Nat} (h:a<=es.length):sC c es a∈stC c es:=by
 unfold sC
 rw [List.getD_eq_getElem?_getD,List.getElem?_eq_getElem (by rw [R8]; omega)]
 exact List.getElem_mem _
theorem tj (b:List Int):tI b=tC (b.map some):=congrArg W.tup (by rw [List.map_map]; rfl)
def cy (es:List GEnt):Nat->Nat->List Nat
 | _,0=>[0]
 | 0,n+1=>[n+1]
 | f+1,i+1=>(i+1)::cy es f (es.getD i ([],0,0)).2.1
def p9 (es:List GEnt) (n:Nat):List Nat:=cy es n n
def W9 (es:List GEnt):Prop:=∀ (i:Nat) (e:GEnt),es[i]?=some e->e.2.1<=i
theorem gB (es:List GEnt):p9 es 0 = [0]:=rfl
theorem getD_at {es:List GEnt} {i:Nat} {e:GEnt} (h:es[i]?=some e):es.getD i ([],0,0)=e:=by rw [List.getD_eq_getElem?_getD,h]; rfl
theorem mT {es:List GEnt} (hp:W9 es):∀ n f,n<=f->n<=es.length->cy es f n=cy es n n:=by
 intro n
 induction n using Nat.strongRecOn with
 | _ n ih=>
  intro f hf hn
  cases n with
  | zero=>cases f <;> rfl
  | succ i=>
   obtain ⟨f,rfl⟩:∃ g,f=g+1:=⟨f-1,by omega⟩
   have he:es[i]?=some es[i]:=List.getElem?_eq_getElem (by omega)
   have hq:=hp i _ he
   show (i+1)::cy es f (es.getD i ([],0,0)).2.1=(i+1)::cy es i (es.getD i ([],0,0)).2.1
   rw [getD_at he,ih es[i].2.1 (by omega) f (by omega) (by omega),ih es[i].2.1 (by omega) i (by omega) (by omega)]
theorem J5 {es:List GEnt} (hp:W9 es) {i:Nat} {e:GEnt} (h:es[i]?=some e):p9 es (i+1)=(i+1)::p9 es e.2.1:=by
 have hi:=(List.getElem?_eq_some_iff.mp h).1
 have hq:=hp i e h
 show (i+1)::cy es i (es.getD i ([],0,0)).2.1=_
 rw [getD_at h,mT hp e.2.1 i hq (by omega)]; rfl
theorem bt {es:List GEnt} (hp:W9 es):∀ n,n<=es.length->(∀ q∈p9 es n,q<=n)/\(p9 es n).length<=n+1:=by
 intro n
 induction n using Nat.strongRecOn with
 | _ n ih=>
  intro hn
  cases n with
  | zero=>rw [gB]; exact ⟨by simp,by simp⟩
  | succ i=>
   have he:es[i]?=some es[i]:=List.getElem?_eq_getElem (by omega)
   have hq:=hp i _ he
   obtain ⟨h1,h2⟩:=ih es[i].2.1 (by omega) (by omega)
   rw [J5 hp he]
   refine ⟨fun q GA=>?_,by rw [List.length_cons]; omega⟩
   rcases List.mem_cons.mp GA with rfl | h
   ·exact Nat.le_refl _
   ·have:=h1 q h; omega
theorem mU {es:List GEnt} {x:GEnt} (hp:W9 es) (hx:x.2.1<=es.length):∀ n,n<=es.length->p9 (es ++ [x]) n=p9 es n:=by
 have IV:W9 (es ++ [x]):=fun i e he=>by
  by_cases hi:i<es.length
  ·rw [List.getElem?_append_left hi] at he; exact hp i e he
  ·have Fh:=(List.getElem?_eq_some_iff.mp he).1
   rw [List.length_append,List.length_singleton] at Fh
   have:i=es.length:=by omega
   subst this
   rw [List.getElem?_append_right (Nat.le_refl _),Nat.sub_self] at he
   cases he; exact hx
 intro n
 induction n using Nat.strongRecOn with
 | _ n ih=>
  intro hn
  cases n with
  | zero=>rfl
  | succ i=>
   have he:es[i]?=some es[i]:=List.getElem?_eq_getElem (by omega)
   have he':(es ++ [x])[i]?=some es[i]:=by rw [List.getElem?_append_left (by omega)]; exact he
   have hq:=hp i _ he
   rw [J5 hp he,J5 IV he',ih es[i].2.1 (by omega) (by omega)]
def Q4 (c:Cap) (m:Mv):Bool:=g7 (m.1.map some) c
def C0 (c:Cap) (m:Mv):Cap:=(List.range c.length).map fun k=>(c.getD k none).map fun x=>x+(m.2.getD k 0-m.1.getD k 0)
theorem N3 (c:Cap) (m:Mv):(C0 c m).length=c.length:=by simp [C0]
theorem dN {c:Cap} {m:Mv} (hm:okN c.length m):R0 [tC c,mW m]=.ok (.bl (Q4 c m)):=by
 have a0:L2.atI [tI m.1,tI m.2] 0=some (tI m.1):=rfl
 have k:=cz (cs:=m.1.map some) (ds:=c) (by rw [List.length_map,hm.1])
 rw [<- tj] at k
 exists rpB,dy,a0,k
 rfl
theorem jE {c:Cap} {m:Mv} (h6:c.length<=6) (hm:okN c.length m) (ha:Q4 c m=true):W6 [tC c,mW m]=.ok (tC (C0 c m)):=by
 have k1:=dN hm
 rw [ha] at k1
 have k2:=pE h6 hm
 have hz:=S2 (tC c) (tI ((List.range c.length).map fun k=>m.2.getD k 0-m.1.getD k 0)) _ _ rfl rfl
 rw [dU oW W.int (by simp) none 0] at hz
 exists rpB,cr,k1,k2,hz
 have e:∀ N mg me ρ (h:∀ k,k<c.length->∃ ρ1,mg (.tup [oW (c.getD k none),.int (((List.range c.length).map fun k=>m.2.getD k 0-m.1.getD k 0).getD k 0)]) (ρ++List.replicate (N-ρ.length) Sl.un)=some ρ1/\me ρ1=.ok (oW ((c.getD k none).map fun x=>x+(m.2.getD k 0-m.1.getD k 0)))),m8 N mg yes me ((List.range c.length).map fun k=>W.tup [oW (c.getD k none),.int (((List.range c.length).map fun k=>m.2.getD k 0-m.1.getD k 0).getD k 0)]) ρ=.ok (lC (C0 c m)):=fun N mg me ρ h=>by
  rw [n8 (fun k=>oW ((c.getD k none).map fun x=>x+(m.2.getD k 0-m.1.getD k 0))) _ _ ρ (by simp; omega) (fun k hk=>h k (by simpa using hk))]
  unfold C0
  exact congrArg (fun l=>R.ok (W.lst l)) (by rw [List.map_map]; rfl)
 rw [e]
 ·exists rp18
 ·intro k hk
  refine ⟨_,rfl,?_⟩
  have hg:((List.range c.length).map fun k=>m.2.getD k 0-m.1.getD k 0).getD k 0=m.2.getD k 0-m.1.getD k 0:=by rw [List.getD_eq_getElem?_getD,List.getElem?_map,List.getElem?_range hk]; rfl
  rw [hg]
  cases c.getD k none with
  | none=>
   exists rp18
   rfl
  | some x=>
   exists rp18
   rfl
def A0 (cs:List Cap) (x:Cap):Bool:=cs.any fun d=>g7 x d
theorem bZ {cs:List Cap} {x:Cap} (hl:∀ d∈cs,d.length=x.length):F9 [tC x,.lst (cs.map tC)]=.ok (.bl (A0 cs x)):=by
 have fin:Ok (F9 [tC x,.lst (cs.map tC)]) fun v=>v=.bl (A0 cs x):=by
  exists rpB,cp
  refine n6 (t7 (fun i ρ=>∃ a2,ρ = [.par (tC x),.par (.lst (cs.map tC)),a2]/\∀ k (hk:k<cs.length),k<i->g7 x cs[k]=false) ⟨_,rfl,fun k _ hk=>absurd hk (Nat.not_lt_zero _)⟩ ?_ ?_)
  ·rintro i u ρ hu ⟨a2,rfl,EN⟩
   rw [List.getElem?_map] at hu
   obtain ⟨d,hd,rfl⟩:=Option.map_eq_some_iff.mp hu
   obtain ⟨hi,ed⟩:=List.getElem?_eq_some_iff.mp hd
   have Io:=List.mem_of_getElem? hd
   have k:=cz (cs:=x) (ds:=d) (hl d Io)
   refine ⟨_,rfl,?_⟩
   exists k
   refine K6 (fun h=>?_) (fun h=>?_)
   ·exists rp18
    have:A0 cs x=true:=List.any_eq_true.mpr ⟨d,Io,h⟩
    rw [this]
   ·exists rp18
    refine ⟨_,rfl,fun k hk hki=>?_⟩
    by_cases e:k=i
    ·subst e; rw [ed]; exact h
    ·exact EN k hk (by omega)
  ·rintro ρ ⟨a2,rfl,EN⟩
   exists rp18
   have:A0 cs x=false:=by
    unfold A0
    rw [List.any_eq_false]
    intro d hd
    obtain ⟨k,hk,e⟩:=List.mem_iff_getElem.mp hd
    have:=EN k hk (by rw [List.length_map]; exact hk)
    rw [e] at this
    rw [this]; decide
   rw [this]
 obtain ⟨v,e,rfl⟩:=fin
 exact e
theorem jM {c:Cap} {es:List GEnt} {i:Nat} {e:GEnt} (h:es[i]?=some e):L2.atI (k5 c es) ((i+1:Nat):Int)=some (gW e):=dQ (k:=i+1) (by show (es.map gW)[i]?=_; rw [List.getElem?_map,h]; rfl)
theorem ie {c:Cap} {es:List GEnt} {a:Nat} (h:a<=es.length):∃ x y:W,L2.atI (k5 c es) (a:Int)=some (.tup [tC (sC c es a),x,y]):=by
 cases a with
 | zero=>exact ⟨.non,.non,dQ (k:=0) rfl⟩
 | succ a=>
  have he:es[a]?=some es[a]:=List.getElem?_eq_getElem (by omega)
  rw [nN he]
  exact ⟨_,_,jM he⟩
theorem pY {c:Cap} {es:List GEnt} {n:Nat} (hp:W9 es) (hl:es.length<=100) (hn:n<=es.length):Q9 [.lst (k5 c es),.int (n:Int)]=.ok (lI ((p9 es n).map fun (k:Nat)=>(k:Int))):=by
 have fin:Ok (Q9 [.lst (k5 c es),.int (n:Int)]) fun v=>v=lI ((p9 es n).map fun (k:Nat)=>(k:Int)):=by
  have HH:=(bt hp n hn).2
  exists rpB,dv
  refine n6 (aS ?_)
  refine cK (fun m ρ=>∃ (xs l':List Nat) (w:W) (a3:Sl),ρ = [.par (.lst (k5 c es)),.par (.int (n:Int)),.own ((xs.map fun (k:Nat)=>(k:Int)).map W.int),a3]/\(a3=.val w\/a3=.par w)/\xs++l'=p9 es n/\((w=.non/\l' = [])\/∃ (n':Nat),w=.int (n':Int)/\l'=p9 es n'/\n'<m/\n'<=es.length)) ?_ (n+1) _ ⟨[],p9 es n,.int (n:Int),.val (.int (n:Int)),rfl,.inl rfl,rfl,.inr ⟨n,rfl,rfl,Nat.lt_succ_self n,hn⟩⟩
  rintro m ρ ⟨xs,l',w,a3,rfl,ha,hx,hc⟩
  rcases hc with ⟨rfl,rfl⟩ | ⟨n',rfl,rfl,hm,hn'⟩
  ·refine ⟨false,?_,?_⟩
   ·rcases ha with rfl | rfl
    ·exists rp18
    ·exists rp18
   ·rw [if_neg Bool.false_ne_true]
    rw [List.append_nil] at hx
    subst hx
    exists rp18
  ·refine ⟨true,?_,?_⟩
   ·rcases ha with rfl | rfl
    ·exists rp18
    ·exists rp18
   ·rw [if_pos rfl]
    have HF:xs.length<=(p9 es n).length:=by rw [<- hx,List.length_append]; omega
    cases n' with
    | zero=>
     have Jj:L2.atI (k5 c es) (((0:Nat)):Int)=some (g0 c):=dQ (k:=0) rfl
     have r01:L2.atI (k5 c es) 0=some (g0 c):=Jj
     have b1:L2.atI [tC c,W.non,W.non] 1=some W.non:=rfl
     have Ic:(xs ++ [0]) ++ []=p9 es n:=by rw [<- hx,List.append_nil]; rfl
     rcases ha with rfl | rfl
     ·exists Jj,r01,b1
      exact ⟨0,by omega,xs ++ [0],[],.non,_,by simp only [List.map_append,List.map_cons,List.map_nil]; rfl,.inr rfl,Ic,.inl ⟨rfl,rfl⟩⟩
     ·exists Jj,r01,b1
      exact ⟨0,by omega,xs ++ [0],[],.non,_,by simp only [List.map_append,List.map_cons,List.map_nil]; rfl,.inr rfl,Ic,.inl ⟨rfl,rfl⟩⟩
    | succ i=>
     have h:es[i]?=some es[i]:=List.getElem?_eq_getElem (by omega)
     generalize es[i]=e at h
     have r1:=jM (c:=c) h
     have b1:L2.atI [tC e.1,.int (e.2.1:Int),.int (e.2.2:Int)] 1=some (.int (e.2.1:Int)):=rfl
     have hpi:=hp i e h
     have Ic:(xs ++ [i+1])++p9 es e.2.1=p9 es n:=by rw [<- hx,J5 hp h,List.append_assoc]; rfl
     rcases ha with rfl | rfl
     ·exists r1,b1
      exact ⟨i+1,by omega,xs ++ [i+1],p9 es e.2.1,.int (e.2.1:Int),_,by simp only [List.map_append,List.map_cons,List.map_nil],.inr rfl,Ic,.inr ⟨e.2.1,rfl,rfl,by omega,by omega⟩⟩
     ·exists r1,b1
      exact ⟨i+1,by omega,xs ++ [i+1],p9 es e.2.1,.int (e.2.1:Int),_,by simp only [List.map_append,List.map_cons,List.map_nil],.inr rfl,Ic,.inr ⟨e.2.1,rfl,rfl,by omega,by omega⟩⟩
 obtain ⟨v,e,rfl⟩:=fin
 exact e
def upC (c:Cap) (es:List GEnt) (l:List Nat) (x:Cap):Cap:=l.foldl (fun y q=>v8 y (sC c es q)) x
def n4 (c:Cap) (ms:List Mv) (es:List GEnt) (a k:Nat):Cap:=upC c es (p9 es a) (C0 (sC c es a) (mvN ms k))
theorem X1 (c:Cap) (es:List GEnt):∀ (l:List Nat) (x:Cap),(upC c es l x).length=x.length
 | [],_=>rfl
 | q::l,x=>by
  show (upC c es l (v8 x (sC c es q))).length=_
  rw [X1 c es l,cJ]
theorem W2 (c:Cap) (ms:List Mv) (es:List GEnt) (a k:Nat):(n4 c ms es a k).length=(sC c es a).length:=by unfold n4; rw [X1,N3]
theorem gE {c:Cap} {es:List GEnt} {e:GEnt}:∀ (l:List Nat) (x:Cap),(∀ q∈l,q<=es.length)->upC c (es ++ [e]) l x=upC c es l x
 | [],_,_=>rfl
 | q::l,x,h=>by
  show upC c (es ++ [e]) l (v8 x (sC c (es ++ [e]) q))=upC c es l (v8 x (sC c es q))
  rw [eB (h q List.mem_cons_self),gE l _ fun q' GA=>h q' (List.mem_cons_of_mem _ GA)]
theorem mw {c:Cap} {ms:List Mv} {es:List GEnt} {e:GEnt} {a k:Nat} (hp:W9 es) (hx:e.2.1<=es.length) (ha:a<=es.length):n4 c ms (es ++ [e]) a k=n4 c ms es a k:=by
 unfold n4
 rw [mU hp hx a ha,eB ha,gE]
 intro q hq
 have:=(bt hp a ha).1 q hq
 omega
def F1 (c:Cap) (ms:List Mv) (es:List GEnt) (a k:Nat):List GEnt:=if (Q4 (sC c es a) (mvN ms k)&&!A0 (stC c es) (n4 c ms es a k))=true then es ++ [(n4 c ms es a k,a,k)] else es
def ar (c:Cap):Option GEnt->Cap
 | none=>c
 | some e=>e.1
def V6 (c:Cap):Option GEnt->W
 | none=>g0 c
 | some e=>gW e
theorem eC (c:Cap) (es:List GEnt):k5 c es=(none::es.map some).map (V6 c):=by rw [List.map_cons,List.map_map]; rfl
theorem tm (c:Cap) (es:List GEnt):(none::es.map some).map (ar c)=stC c es:=by rw [List.map_cons,List.map_map]; rfl
theorem lH (c:Cap) (es:List GEnt):k9 (k5 c es)=true:=by
 rw [eC]
 refine T7 (V6 c) (fun o=>?_) _
 cases o with
 | none=>show (k9 (c.map oW)&&(true&&(true&&true)))=true; rw [y4]; rfl
 | some e=>show (k9 (e.1.map oW)&&(true&&(true&&true)))=true; rw [y4]; rfl
theorem P0 {c:Cap} {es:List GEnt} (hl:∀ e∈es,e.1.length=c.length) {a:Nat} (ha:a<=es.length):(sC c es a).length=c.length:=by
 have:=hZ (c:=c) ha
 unfold stC at this
 rcases List.mem_cons.mp this with e | e
 ·rw [e]
 ·obtain ⟨z,hz,ez⟩:=List.mem_map.mp e
  rw [<- ez]; exact hl z hz
theorem wb {b:List Int} {ms:List Mv} {es:List GEnt} {a k:Nat} (h6:b.length<=6) (hm:∀ m∈ms,okN b.length m) (hp:W9 es) (hl:∀ e∈es,e.1.length=b.length) (h100:es.length<=90) (ha:a<=es.length) (hk:k<ms.length):dF (.tup [tI b,tM_ ms]) (k5 (b.map some) es) [.int (a:Int),.int (k:Int)]=.ok (k5 (b.map some) (F1 (b.map some) ms es a k)):=by
 obtain ⟨c,hc⟩:∃ c:Cap,c=b.map some:=⟨_,rfl⟩
 have FR:c.length=b.length:=by rw [hc,List.length_map]
 rw [<- hc]
 refine nR fun p=>?_
 have Ht:∀ e∈es,e.1.length=c.length:=fun e he=>by rw [FR]; exact hl e he
 have Gf:=P0 Ht ha
 have hmk:okN (sC c es a).length (mvN ms k):=by rw [Gf,FR]; exact getM hm hk
 have a1:L2.atI [tI b,tM_ ms] 1=some (tM_ ms):=rfl
 have ej:L2.atI (ms.map mW) (k:Int)=some (mW (mvN ms k)):=by
  have:=atM (ms:=ms) (r:=(k:Int)) (by omega) (by omega)
  rw [Int.toNat_natCast] at this
  exact this
 obtain ⟨x,y,er⟩:=ie (c:=c) (es:=es) ha
 have b0:L2.atI [tC (sC c es a),x,y] 0=some (tC (sC c es a)):=rfl
 have k1:=dN (c:=sC c es a) hmk
 have HL:=lH c es
 unfold V5
 rw [if_pos ⟨rfl,HL⟩]
 obtain ⟨Ff,FV⟩:∃ Ff,Ff=k5 c es:=⟨_,rfl⟩
 rw [<- FV] at er
 cases EU:Q4 (sC c es a) (mvN ms k) with
 | false=>
  rw [EU] at k1
  have e:P5 p [.par (.tup [tI b,tM_ ms]),.iop p Ff,.par (.int (a:Int)),.par (.int (k:Int)),.un,.un,.un]=.ok (.bk [.par (.tup [tI b,tM_ ms]),.iop p Ff,.par (.int (a:Int)),.par (.int (k:Int)),.par (mW (mvN ms k)),.un,.un]):=by
   exists rpB,P5,a1,ej,er,b0,k1
  rw [FV] at e
  show (match P5 p [.par (.tup [tI b,tM_ ms]),.iop p (k5 c es),.par (.int (a:Int)),.par (.int (k:Int)),.un,.un,.un] with | .ok (.nx ρ)=>ioR p ρ | .ok (.bk ρ)=>ioR p ρ | _=>.stuck)=_
  rw [e]
  show (if p=p then R.ok (k5 c es) else .stuck)=_
  rw [if_pos rfl]
  unfold F1
  rw [EU]; rfl
 | true=>
  rw [EU] at k1
  have h6':(sC c es a).length<=6:=by omega
  have k2:=jE h6' hmk EU
  have kw:=pY (c:=c) hp (by omega) ha
  have HH:=bt hp a ha
  have JG:(C0 (sC c es a) (mvN ms k)).length=c.length:=by rw [N3,Gf]
  have kU:=bZ (cs:=stC c es) (x:=n4 c ms es a k) (fun d hd=>by
   rw [W2,Gf]
   unfold stC at hd
   rcases List.mem_cons.mp hd with q | q
   ·rw [q]
   ·obtain ⟨z,hz,ez⟩:=List.mem_map.mp q
    rw [<- ez]; exact Ht z hz)
  have Jd:∀ N mg me ρ (h:∀ o∈(none::es.map some:List (Option GEnt)),∃ ρ1,mg (V6 c o) (ρ++List.replicate (N-ρ.length) Sl.un)=some ρ1/\me ρ1=.ok (tC (ar c o))),m8 N mg yes me Ff ρ=.ok (.lst ((stC c es).map tC)):=fun N mg me ρ h=>by
   rw [FV,eC,n8 (fun o=>tC (ar c o)) _ _ ρ (by simp; omega) h]
   rw [<- tm]
   refine congrArg (fun l=>R.ok (W.lst l)) ?_
   rw [List.map_map]; rfl
  have Hm:Ff.length=es.length+1:=by rw [FV]; simp
  have hsel:∀ q,q<=es.length->∃ x y:W,L2.atI Ff (q:Int)=some (.tup [tC (sC c es q),x,y]):=fun q hq=>by rw [FV]; exact ie hq
  rw [<- FV] at kw
  have po:Po (P5 p [.par (.tup [tI b,tM_ ms]),.iop p Ff,.par (.int (a:Int)),.par (.int (k:Int)),.un,.un,.un]) (fun ρ=>ρ[1]?=some (.iop p (k5 c (F1 c ms es a k)))) (fun _=>False):=by
   exists rpB,P5,a1,ej,er,b0,k1,k2,kw
   refine S8 (fun ρ=>∃ a6,ρ = [.par (.tup [tI b,tM_ ms]),.iop p Ff,.par (.int (a:Int)),.par (.int (k:Int)),.par (mW (mvN ms k)),.val (tC (n4 c ms es a k)),a6]) (CH ?_) ?_
   ·refine dg (fun i ρ=>∃ a6,ρ = [.par (.tup [tI b,tM_ ms]),.iop p Ff,.par (.int (a:Int)),.par (.int (k:Int)),.par (mW (mvN ms k)),.val (tC (upC c es ((p9 es a).take i) (C0 (sC c es a) (mvN ms k)))),a6]) ⟨_,rfl⟩ ?_ ?_
    ·rintro i u ρ hu ⟨a6,rfl⟩
     rw [List.map_map,List.getElem?_map] at hu
     obtain ⟨q,hq,rfl⟩:=Option.map_eq_some_iff.mp hu
     have hqn:=HH.1 q (List.mem_of_getElem? hq)
     obtain ⟨x2,y2,er2⟩:=hsel q (by omega)
     have b2:L2.atI [tC (sC c es q),x2,y2] 0=some (tC (sC c es q)):=rfl
     have kr:=nV (cs:=upC c es ((p9 es a).take i) (C0 (sC c es a) (mvN ms k))) (es:=sC c es q) (by rw [X1,JG]; exact P0 Ht (by omega)) (by rw [X1,JG]; omega)
     have FF:v8 (upC c es ((p9 es a).take i) (C0 (sC c es a) (mvN ms k))) (sC c es q)=upC c es ((p9 es a).take (i+1)) (C0 (sC c es a) (mvN ms k)):=by
      rw [List.take_add_one,hq]
      unfold upC
      rw [List.foldl_append]; rfl
     rw [FF] at kr
     refine ⟨_,rfl,?_⟩
     have hcq:(W.int∘fun (k:Nat)=>(k:Int)) q=.int (q:Int):=rfl
     exists hcq,er2,b2,kr
     exact ⟨_,rfl⟩
    ·rintro ρ ⟨a6,rfl⟩
     rw [List.length_map,List.length_map,List.take_length]
     exact ⟨_,rfl⟩
   ·rintro ρ ⟨a6,rfl⟩
    exists rp18
    rw [Jd]
    rotate_left
    ·intro o ho
     refine ⟨_,rfl,?_⟩
     cases o with
     | none=>
      have b0:L2.atI [tC c,W.non,W.non] 0=some (tC c):=rfl
      have b1:V6 c none=.tup [tC c,.non,.non]:=rfl
      have b2:ar c none=c:=rfl
      exists b1,b0,b2,z9 (show noL (tC c)=true from y4 c)
     | some e=>
      have b0:L2.atI [tC e.1,.int (e.2.1:Int),.int (e.2.2:Int)] 0=some (tC e.1):=rfl
      have b1:V6 c (some e)=.tup [tC e.1,.int (e.2.1:Int),.int (e.2.2:Int)]:=rfl
      have b2:ar c (some e)=e.1:=rfl
      exists b1,b0,b2,z9 (show noL (tC e.1)=true from y4 e.1)
    exists kU
    cases hU:A0 (stC c es) (n4 c ms es a k) with
    | true=>
     exists rp18
     unfold F1
     rw [EU,hU,FV]
     rfl
    | false=>
     exists rp18
     rw [rK (ws:=Ff) (w:=gW (n4 c ms es a k,a,k)) rfl ?_ (by omega)]
     ·show ((List.map clI _).set 1 _)[1]?=_
      rw [List.getElem?_set_self (by simp)]
      unfold F1
      rw [EU,hU,FV]
      show some (Sl.iop p (g0 c::es.map gW ++ [_]))=some (Sl.iop p (g0 c::(es ++ [_]).map gW))
      rw [List.map_append]; rfl
     ·exists rp18
  rw [FV] at po
  show (match P5 p [.par (.tup [tI b,tM_ ms]),.iop p (k5 c es),.par (.int (a:Int)),.par (.int (k:Int)),.un,.un,.un] with | .ok (.nx ρ)=>ioR p ρ | .ok (.bk ρ)=>ioR p ρ | _=>.stuck)=_
  revert po
  cases P5 p [.par (.tup [tI b,tM_ ms]),.iop p (k5 c es),.par (.int (a:Int)),.par (.int (k:Int)),.un,.un,.un] with
  | stuck=>exact fun h=>h.elim
  | ex e=>exact fun h=>h.elim
  | ok f=>
   cases f with
   | nx ρ=>
    intro h
    have h:ρ[1]?=some (.iop p (k5 c (F1 c ms es a k))):=h
    show ioR p ρ=_
    unfold ioR
    rw [h]
    exact if_pos rfl
   | rt w=>exact fun h=>h.elim
   | bk ρ=>exact fun h=>h.elim
   | ct ρ=>exact fun h=>h.elim
structure GK (c:Cap) (ms:List Mv) (es:List GEnt) (A kk:Nat):Prop where
 len:∀ e∈es,e.1.length=c.length
 k8:∀ e∈es,e.2.2<ms.length
 lt:∀ e∈es,e.2.1<A\/(e.2.1=A/\e.2.2<kk)
 inc:es.Pairwise fun x y=>cdG x<cdG y
 par:W9 es
 beh:∀ (i:Nat) (e:GEnt),es[i]?=some e->Q4 (sC c es e.2.1) (mvN ms e.2.2)=true/\e.1=n4 c ms es e.2.1 e.2.2/\∀ j,j<=i->g7 e.1 (sC c es j)=false
 set:∀ a k,(a<A\/(a=A/\k<kk))->k<ms.length->Q4 (sC c es a) (mvN ms k)=true->(∃ e∈es,e.2=(a,k))\/∃ j,j<=es.length/\(∀ (i:Nat) (e:GEnt),j=i+1->es[i]?=some e->cdG e<a*8+k)/\g7 (n4 c ms es a k) (sC c es j)=true
theorem GK.start (c:Cap) (ms:List Mv):GK c ms [] 0 0 where
 len:=by simp
 k8:=by simp
 lt:=by simp
 inc:=List.Pairwise.nil
 par:=fun i e h=>by simp at h
 beh:=fun i e h=>by simp at h
 set:=fun a k h=>by omega
section
variable {c:Cap} {ms:List Mv} {es:List GEnt} {A kk:Nat}
theorem GK.below (h:GK c ms es A kk) (h8:ms.length<=8):∀ e∈es,cdG e<A*8+kk:=fun e he=>by
 have:=h.k8 e he
 unfold cdG
 rcases h.lt e he with q | ⟨q,q'⟩
 ·omega
 ·omega
theorem GK.stay (h:GK c ms es A kk) (h8:ms.length<=8) (Gg:Q4 (sC c es A) (mvN ms kk)=true->A0 (stC c es) (n4 c ms es A kk)=true):GK c ms es A (kk+1) where
 len:=h.len
 k8:=h.k8
 lt:=fun e he=>by
  rcases h.lt e he with q | ⟨q,q'⟩
  ·exact .inl q
  ·exact .inr ⟨q,by omega⟩
 inc:=h.inc
 par:=h.par
 beh:=h.beh
 set:=fun a k hj hk EU=>by
  by_cases e:a=A/\k=kk
  ·obtain ⟨rfl,rfl⟩:=e
   obtain ⟨d,hd,hu⟩:=List.any_eq_true.mp (Gg EU)
   obtain ⟨j,hj,ej⟩:=List.mem_iff_getElem.mp hd
   rw [R8] at hj
   refine .inr ⟨j,by omega,fun i e _ he=>h.below h8 e (List.mem_of_getElem? he),?_⟩
   have:sC c es j=d:=by unfold sC; rw [List.getD_eq_getElem?_getD,List.getElem?_eq_getElem (by rw [R8]; exact hj),ej]; rfl
   rw [this]; exact hu
  ·exact h.set a k (by omega) hk EU
theorem GK.snoc (h:GK c ms es A kk) (h8:ms.length<=8) (hA:A<=es.length) (hk:kk<ms.length) (EU:Q4 (sC c es A) (mvN ms kk)=true) (Gg:A0 (stC c es) (n4 c ms es A kk)=false):GK c ms (es ++ [(n4 c ms es A kk,A,kk)]) A (kk+1):=by
 have hS:∀ a,a<=es.length->sC c (es ++ [(n4 c ms es A kk,A,kk)]) a=sC c es a:=fun a ha=>eB ha
 have hC:∀ a k,a<=es.length->n4 c ms (es ++ [(n4 c ms es A kk,A,kk)]) a k=n4 c ms es a k:=fun a k ha=>mw h.par hA ha
 have hpar:∀ (i:Nat) (e:GEnt),es[i]?=some e->e.2.1<=es.length:=fun i e he=>by
  have:=h.par i e he
  have:=(List.getElem?_eq_some_iff.mp he).1
  omega
 have FP:∀ (i:Nat) (e:GEnt),(es ++ [(n4 c ms es A kk,A,kk)])[i]?=some e->(es[i]?=some e/\i<es.length)\/(i=es.length/\e=(n4 c ms es A kk,A,kk)):=fun i e he=>by
  by_cases hi:i<es.length
  ·rw [List.getElem?_append_left hi] at he; exact .inl ⟨he,hi⟩
  ·have Fh:=(List.getElem?_eq_some_iff.mp he).1
   rw [List.length_append,List.length_singleton] at Fh
   have:i=es.length:=by omega
   subst this
   rw [List.getElem?_append_right (Nat.le_refl _),Nat.sub_self] at he
   cases he; exact .inr ⟨rfl,rfl⟩
 refine ⟨fun e he=>?_,fun e he=>?_,fun e he=>?_,?_,fun i e he=>?_,fun i e he=>?_,fun a k hj hkm Iv=>?_⟩
 ·rcases List.mem_append.mp he with q | q
  ·exact h.len e q
  ·rw [List.mem_singleton.mp q]
   show (n4 c ms es A kk).length=_
   rw [W2]; exact P0 h.len hA
 ·rcases List.mem_append.mp he with q | q
  ·exact h.k8 e q
  ·rw [List.mem_singleton.mp q]; exact hk
 ·rcases List.mem_append.mp he with q | q
  ·rcases h.lt e q with q1 | ⟨q1,q2⟩
   ·exact .inl q1
   ·exact .inr ⟨q1,by omega⟩
  ·rw [List.mem_singleton.mp q]; exact .inr ⟨rfl,Nat.lt_succ_self kk⟩
 ·refine List.pairwise_append.mpr ⟨h.inc,List.pairwise_singleton _ _,fun x hx y hy=>?_⟩
  rw [List.mem_singleton.mp hy]
  exact h.below h8 x hx
 ·rcases FP i e he with ⟨q,_⟩ | ⟨rfl,rfl⟩
  ·exact h.par i e q
  ·exact hA
 ·rcases FP i e he with ⟨q,hi⟩ | ⟨rfl,rfl⟩
  ·obtain ⟨p1,p2,p3⟩:=h.beh i e q
   have hp:=hpar i e q
   rw [hS _ hp,hC _ _ hp]
   exact ⟨p1,p2,fun j hj=>by rw [hS j (by omega)]; exact p3 j hj⟩
  ·refine ⟨by rw [hS _ hA]; exact EU,by rw [hC _ _ hA],fun j hj=>?_⟩
   rw [hS j hj]
   unfold A0 at Gg
   rw [List.any_eq_false] at Gg
   have:=Gg _ (hZ hj)
   simpa using this
 ·have ha:a<=es.length:=by omega
  rw [hS a ha] at Iv
  rw [hC a k ha]
  by_cases e:a=A/\k=kk
  ·obtain ⟨rfl,rfl⟩:=e
   exact .inl ⟨_,List.mem_append_right _ (List.mem_singleton_self _),rfl⟩
  ·rcases h.set a k (by omega) hkm Iv with ⟨e,he,q⟩ | ⟨j,hj,h1,h2⟩
   ·exact .inl ⟨e,List.mem_append_left _ he,q⟩
   ·refine .inr ⟨j,by rw [List.length_append,List.length_singleton]; omega,fun i e hji he=>?_,by rw [hS j hj]; exact h2⟩
    rcases FP i e he with ⟨q,_⟩ | ⟨rfl,_⟩
    ·exact h1 i e hji q
    ·omega
theorem GK.step (h:GK c ms es A kk) (h8:ms.length<=8) (hA:A<=es.length) (hk:kk<ms.length):GK c ms (F1 c ms es A kk) A (kk+1):=by
 unfold F1
 cases EU:Q4 (sC c es A) (mvN ms kk) with
 | false=>
  rw [if_neg (by simp)]
  exact h.stay h8 fun q=>by rw [EU] at q; cases q
 | true=>
  cases hU:A0 (stC c es) (n4 c ms es A kk) with
  | true=>
   rw [if_neg (by simp)]
   exact h.stay h8 fun _=>hU
  | false=>
   rw [if_pos (by simp)]
   exact h.snoc h8 hA hk EU hU
theorem GK.next (h:GK c ms es A ms.length):GK c ms es (A+1) 0 where
 len:=h.len
 k8:=h.k8
 lt:=fun e he=>by
  have:=h.k8 e he
  rcases h.lt e he with q | ⟨q,q'⟩
  ·exact .inl (by omega)
  ·exact .inl (by omega)
 inc:=h.inc
 par:=h.par
 beh:=h.beh
 set:=fun a k hj hk EU=>h.set a k (by omega) hk EU
theorem nv (c:Cap) (ms:List Mv) (es:List GEnt) (a k:Nat):es.length<=(F1 c ms es a k).length/\(F1 c ms es a k).length<=es.length+1:=by
 unfold F1
 split
 ·rw [List.length_append,List.length_singleton]; omega
 ·omega
end
theorem lX {b:List Int} {ms:List Mv} {most:Nat} (h6:b.length<=6) (hm:∀ m∈ms,okN b.length m) (h8:ms.length<=8) (h1:1<=most) (Ja:most<=30):Ok (U3 [.tup [tI b,tM_ ms],.int (most:Int)]) fun w=>(w=.non/\∃ es A,GK (b.map some) ms es A 0/\most<es.length+1)\/∃ es,w=.lst (k5 (b.map some) es)/\es.length+1<=most/\GK (b.map some) ms es (es.length+1) 0:=by
 have FR:(b.map some).length=b.length:=List.length_map ..
 have a0:L2.atI [tI b,tM_ ms] 0=some (tI b):=rfl
 have a1:L2.atI [tI b,tM_ ms] 1=some (tM_ ms):=rfl
 have gr:∀ (es:List GEnt) (A k:Nat),GK (b.map some) ms es A k->A<=es.length->k<ms.length->es.length<=90->dF (.tup [tI b,tM_ ms]) (k5 (b.map some) es) [.int (A:Int),.int (k:Int)]=.ok (k5 (b.map some) (F1 (b.map some) ms es A k)):=fun es A k hK hA hk hl=>wb h6 hm hK.par (fun e he=>by rw [<- FR]; exact hK.len e he) hl hA hk
 have IY:(.lst [.tup [tI b,.non,.non]]:W)=.lst (k5 (b.map some) []):=by rw [tj]; rfl
 generalize hc:b.map some=c at *
 exists rpB,iI,a0,z9 (X5 b)
 refine n6 (aS ?_)
 refine cK (fun m ρ=>∃ (es:List GEnt) (at_:Nat) (a4:Sl),ρ = [.par (.tup [tI b,tM_ ms]),.par (.int (most:Int)),.own (k5 c es),.val (.int (at_:Int)),a4]/\GK c ms es at_ 0/\at_<=es.length+1/\es.length+1<=most/\m+at_=102) ?_ 102 _ ⟨[],0,_,by rw [show k5 c [] = [.tup [tI b,.non,.non]] from by injection IY with h; exact h.symm]; rfl,GK.start c ms,by simp,by simpa using h1,rfl⟩
 rintro m ρ ⟨es,at_,a4,rfl,hK,hat,hmost,Hr⟩
 have Hm:(k5 c es).length=es.length+1:=by simp
 by_cases Fe:at_<es.length+1
 ·refine ⟨true,?_,?_⟩
  ·have d1:decide ((at_:Int)<((es.length+1:Nat):Int))=true:=decide_eq_true (by omega)
   exists Hm,d1
  ·rw [if_pos rfl]
   exists a1
   refine S8 (fun ρ=>∃ (es:List GEnt) (a4:Sl),ρ = [.par (.tup [tI b,tM_ ms]),.par (.int (most:Int)),.own (k5 c es),.val (.int (at_:Int)),a4]/\GK c ms es at_ ms.length/\at_<=es.length/\es.length<=60) ?_ ?_
   ·refine dg (fun i ρ=>∃ (es:List GEnt) (a4:Sl),ρ = [.par (.tup [tI b,tM_ ms]),.par (.int (most:Int)),.own (k5 c es),.val (.int (at_:Int)),a4]/\GK c ms es at_ i/\at_<=es.length/\es.length<=30+i) ⟨es,_,rfl,hK,by omega,by omega⟩ ?_ ?_
    ·rintro i u ρ hu ⟨es,a4,rfl,hK,hA,hl⟩
     obtain ⟨hi,rfl⟩:=aJ hu
     have kg:=gr es at_ i hK hA hi (by omega)
     have Gf:=nv c ms es at_ i
     refine ⟨_,rfl,?_⟩
     obtain ⟨Ff,FV⟩:∃ Ff,Ff=k5 c es:=⟨_,rfl⟩
     rw [<- FV] at kg ⊢
     exists kg
     exact ⟨F1 c ms es at_ i,_,rfl,hK.step h8 hA hi,by omega,by omega⟩
    ·rintro ρ ⟨es,a4,rfl,hK,hA,hl⟩
     simp only [List.length_map,List.length_range] at hK hl
     exact ⟨es,_,rfl,hK,hA,by omega⟩
   ·rintro ρ ⟨es,a4,rfl,hK,hA,hl⟩
    have Hm:(k5 c es).length=es.length+1:=by simp
    exists Hm
    refine P3 (fun h=>?_) (fun h=>?_)
    ·have h:=of_decide_eq_true h
     exists rp18
     exact .inl ⟨es,at_+1,hK.next,by omega⟩
    ·have h:=of_decide_eq_false h
     exists rp18
     exact ⟨101-at_,by omega,es,at_+1,_,by rw [show ((at_+1:Nat):Int)=(at_:Int)+1 by omega],hK.next,by omega,by omega,by omega⟩
 ·refine ⟨false,?_,?_⟩
  ·have d1:decide ((at_:Int)<((es.length+1:Nat):Int))=false:=decide_eq_false (by omega)
   exists Hm,d1
  ·rw [if_neg Bool.false_ne_true]
   exists rp18
   have:at_=es.length+1:=by omega
   subst this
   exact .inr ⟨es,rfl,hmost,hK⟩
theorem oU {b:List Int} {ms:List Mv} {most:Nat} (h6:b.length<=6) (hm:∀ m∈ms,okN b.length m) (h8:ms.length<=8) (h1:1<=most) (Ja:most<=30):Ok (U3 [.tup [tI b,tM_ ms],.int (most:Int)]) fun w=>w=.non\/∃ es,w=.lst (k5 (b.map some) es)/\es.length+1<=most/\GK (b.map some) ms es (es.length+1) 0:=by
 obtain ⟨w,e,h⟩:=lX h6 hm h8 h1 Ja
 refine ⟨w,e,?_⟩
 rcases h with ⟨h,_⟩ | h
 ·exact .inl h
 ·exact .inr h
theorem U9 {ns:List Int} {k:Int}:Ok (r9 [.scr (ns.map W.int),.int k]) fun w=>∃ z:Int,w=.int z:=by
 by_cases hl:0<(ns.length:Int)
 ·have m0:0<=k%(ns.length:Int):=Int.emod_nonneg _ (by omega)
  have m1:k%(ns.length:Int)<(ns.length:Int):=Int.emod_lt_of_pos _ hl
  exists rpB,M3,decide_eq_true hl
  exact ⟨_,rfl,_,rfl⟩
 ·exists rpB,M3,decide_eq_false hl
  exact ⟨_,rfl,_,rfl⟩
theorem sqk {k:Int} (h0:0<=k) (h1:k<=1000):0<=k*k/\k*k<=1000000:=⟨Int.mul_nonneg h0 h0,by
 have:=Int.mul_le_mul h1 h1 h0 (by omega:(0:Int)<=1000)
 omega⟩
theorem y6 {ns:List Int} {k m:Int} (h0:0<=k) (h1:k<=1000) (hm:0<m):Ok (l4 [.scr (ns.map W.int),.int k,.int m]) fun w=>∃ z:Int,w=.int z/\0<=z/\z<m:=by
 obtain ⟨_,e1,c,rfl⟩:=U9 (ns:=ns) (k:=k)
 have:=sqk h0 h1
 exists rpB,cw,e1
 exact ⟨_,rfl,_,rfl,Int.emod_nonneg _ (by omega),Int.emod_lt_of_pos _ hm⟩
theorem jS {xs:List Int} {z:Int} (h:nn xs) (hz:0<=z):nn (xs ++ [z]):=fun x hx=>by
 rcases List.mem_append.mp hx with q | q
 ·exact h x q
 ·rw [List.mem_singleton.mp q]; exact hz
theorem ab {ns mn:List Int} {a s:Int} {n:Nat} (hn:n<=6) (ha:0<=a) (Ix:a<=300) (HJ:0<=s) (Gz:s<=1000000000) (Fx:0<mn.length) (hmn:nn mn):Ok (o5 [.scr (ns.map W.int),.int a,.int (n:Int),lI mn,.int s]) fun w=>∃ xs:List Int,w=tI xs/\xs.length=n/\nn xs:=by
 exists rpB,X6
 refine n6 (t7 (fun i ρ=>∃ (xs:List Int) (a6 a7:Sl),ρ = [.par (.scr (ns.map W.int)),.par (.int a),.par (.int (n:Int)),.par (lI mn),.par (.int s),.own (xs.map W.int),a6,a7]/\xs.length=i/\nn xs) ⟨[],_,_,rfl,rfl,fun x hx=>by cases hx⟩ ?_ ?_)
 ·rintro i u ρ hu ⟨xs,a6,a7,rfl,HF,GF⟩
  obtain ⟨hi,rfl⟩:=aJ hu
  obtain ⟨_,e1,d,rfl,hd0,hd1⟩:=y6 (ns:=ns) (k:=a+(i:Int)) (m:=(mn.length:Int)) (by omega) (by omega) (by omega)
  obtain ⟨_,e2,c,rfl⟩:=U9 (ns:=ns) (k:=a+(i:Int))
  have hh:0<=mn.getD d.toNat 0:=mem_getD hmn (by omega)
  refine ⟨_,rfl,?_⟩
  exists e1
  generalize mn.getD d.toNat 0=held at hh
  refine P3 (fun h=>?_) (fun h=>?_)
  ·exists rp18
   rw [e2]
   exists rp18
   exact ⟨xs ++ [(c+(i:Int))*48271%1000000001],_,_,by rw [List.map_append],by simp [HF],jS GF (by omega)⟩
  ·exists rp18
   exact ⟨xs ++ [held*s],_,_,by rw [List.map_append],by simp [HF],jS GF (Int.mul_nonneg hh HJ)⟩
 ·rintro ρ ⟨xs,a6,a7,rfl,HF,GF⟩
  rw [List.length_map,List.length_range] at HF
  exists rp18
  exact ⟨xs,rfl,HF,GF⟩
theorem qB {ns:List Int}:Ok (U6 [.scr (ns.map W.int)]) fun w=>∃ z:Int,w=.int z/\0<=z/\z<=1000000000:=by
 obtain ⟨_,e1,d,rfl,hd0,hd1⟩:=y6 (ns:=ns) (k:=2) (m:=8) (by omega) (by omega) (by omega)
 obtain ⟨_,e2,c,rfl⟩:=U9 (ns:=ns) (k:=2)
 exists rpB,aY,e1
 refine n6 (P3 (fun h=>?_) (fun h=>?_))
 ·exists rp18
  exact ⟨_,rfl,by omega,by omega⟩
 exists rp18
 refine P3 (fun h=>?_) (fun h=>?_)
 ·exists e2
  exact ⟨_,rfl,by omega,by omega⟩
 ·exists rp18
  exact ⟨_,rfl,by omega,by omega⟩
theorem eU {l:List Int} (h:l.all (fun x=>decide (0<=x))=true):nn l:=fun x hx=>of_decide_eq_true (List.all_eq_true.mp h x hx)
theorem pl8b {d:Int} (h0:0<=d) (h:d<8):∃ p:Nat,L2.atI [W.int 2,W.int 3,W.int 1,W.int 2,W.int 3,W.int 4,W.int 2,W.int 3] d=some (.int (p:Int))/\(1<=p/\p<=4):=by
 have:d=0\/d=1\/d=2\/d=3\/d=4\/d=5\/d=6\/d=7:=by omega
 rcases this with rfl | rfl | rfl | rfl | rfl | rfl | rfl | rfl
 ·exact ⟨2,rfl,by omega⟩
 ·exact ⟨3,rfl,by omega⟩
 ·exact ⟨1,rfl,by omega⟩
 ·exact ⟨2,rfl,by omega⟩
 ·exact ⟨3,rfl,by omega⟩
 ·exact ⟨4,rfl,by omega⟩
 ·exact ⟨2,rfl,by omega⟩
 ·exact ⟨3,rfl,by omega⟩
theorem mv9 {d:Int} (h0:0<=d) (h:d<9):∃ p:Nat,L2.atI [W.int 3,W.int 2,W.int 4,W.int 1,W.int 3,W.int 5,W.int 2,W.int 4,W.int 0] d=some (.int (p:Int))/\p<=5:=by
 have:d=0\/d=1\/d=2\/d=3\/d=4\/d=5\/d=6\/d=7\/d=8:=by omega
 rcases this with rfl | rfl | rfl | rfl | rfl | rfl | rfl | rfl | rfl
 ·exact ⟨3,rfl,by omega⟩
 ·exact ⟨2,rfl,by omega⟩
 ·exact ⟨4,rfl,by omega⟩
 ·exact ⟨1,rfl,by omega⟩
 ·exact ⟨3,rfl,by omega⟩
 ·exact ⟨5,rfl,by omega⟩
 ·exact ⟨2,rfl,by omega⟩
 ·exact ⟨4,rfl,by omega⟩
 ·exact ⟨0,rfl,by omega⟩
theorem zF {xs:List Int} {j:Nat} {z:Int} (h:nn xs) (hz:0<=z):nn (xs.set j z):=fun x hx=>by
 rcases List.mem_or_eq_of_mem_set hx with q | q
 ·exact h x q
 ·rw [q]; exact hz
theorem rZ {ns:List Int}:Ok (W7 [.scr (ns.map W.int)]) fun w=>∃ (b:List Int) (ms:List Mv),w=.tup [tI b,tM_ ms]/\1<=b.length/\b.length<=4/\nn b/\(∀ m∈ms,okN b.length m)/\ms.length<=5:=by
 obtain ⟨_,e0,d0,rfl,h00,h01⟩:=y6 (ns:=ns) (k:=0) (m:=8) (by omega) (by omega) (by omega)
 obtain ⟨_,e1,d1,rfl,h10,h11⟩:=y6 (ns:=ns) (k:=1) (m:=9) (by omega) (by omega) (by omega)
 obtain ⟨_,e9,d9,rfl,h90,h91⟩:=y6 (ns:=ns) (k:=49) (m:=8) (by omega) (by omega) (by omega)
 obtain ⟨_,ec,c,rfl⟩:=U9 (ns:=ns) (k:=48)
 obtain ⟨_,es,sc,rfl,HJ,Gz⟩:=qB (ns:=ns)
 obtain ⟨p,hp,hp1,hp4⟩:=pl8b h00 h01
 have Jw:p<=6:=by omega
 obtain ⟨q,hq,hq8⟩:=mv9 h10 h11
 exists rpB,cu,e0,hp,es,e1,hq
 refine n6 (t7 (fun i ρ=>∃ (ms:List Mv) (a4 a5 a6 a7:Sl),ρ = [.par (.scr (ns.map W.int)),.val (.int (p:Int)),.val (.int sc),.own (ms.map mW),a4,a5,a6,a7,.un]/\(∀ m∈ms,okN p m)/\ms.length=i) ⟨[],_,_,_,_,rfl,by simp,rfl⟩ ?_ ?_)
 ·rintro i u ρ hu ⟨ms,a4,a5,a6,a7,rfl,GI,Fx⟩
  obtain ⟨hi,rfl⟩:=aJ hu
  have hpr:0<=(p:Int)*(2*(i:Int)+1)/\(p:Int)*(2*(i:Int)+1)<=6*17:=⟨Int.mul_nonneg (by omega) (by omega),Int.mul_le_mul (by omega) (by omega) (by omega) (by omega)⟩
  obtain ⟨_,e5,t,rfl,Fp,Gw⟩:=ab (ns:=ns) (mn:=[0,1,0,2,1,0]) (a:=5+(p:Int)*(2*(i:Int)+1)) (s:=sc) Jw (by omega) (by omega) HJ Gz (by decide) (eU (by decide))
  obtain ⟨_,e6,u,rfl,hul,hun⟩:=ab (ns:=ns) (mn:=[1,0,0,1,2,0]) (a:=5+(p:Int)*(2*(i:Int)+1)+(p:Int)) (s:=sc) Jw (by omega) (by omega) HJ Gz (by decide) (eU (by decide))
  have e5:o5 [.scr (ns.map W.int),.int (5+(p:Int)*(2*(i:Int)+1)),.int (p:Int),.lst [.int 0,.int 1,.int 0,.int 2,.int 1,.int 0],.int sc]=.ok (tI t):=e5
  have e6:o5 [.scr (ns.map W.int),.int (5+(p:Int)*(2*(i:Int)+1)+(p:Int)),.int (p:Int),.lst [.int 1,.int 0,.int 0,.int 1,.int 2,.int 0],.int sc]=.ok (tI u):=e6
  refine ⟨_,rfl,?_⟩
  exists e5,e6
  refine ⟨ms ++ [(t,u)],_,_,_,_,by rw [List.map_append]; rfl,fun m hm=>?_,by simp [Fx]⟩
  rcases List.mem_append.mp hm with q | q
  ·exact GI m q
  ·rw [List.mem_singleton.mp q]; exact ⟨Fp,hul,Gw,hun⟩
 ·rintro ρ ⟨ms,a4,a5,a6,a7,rfl,GI,Fx⟩
  rw [List.length_map,List.length_range] at Fx
  obtain ⟨_,e5,t,rfl,Fp,Gw⟩:=ab (ns:=ns) (mn:=[1,0,2,1,3,0]) (a:=5) (s:=sc) Jw (by omega) (by omega) HJ Gz (by decide) (eU (by decide))
  have e5:o5 [.scr (ns.map W.int),.int 5,.int (p:Int),.lst [.int 1,.int 0,.int 2,.int 1,.int 3,.int 0],.int sc]=.ok (tI t):=e5
  obtain ⟨_,e8,d8,rfl,h80,h81⟩:=y6 (ns:=ns) (k:=48) (m:=(p:Int)) (by omega) (by omega) (by omega)
  exists e5,e9
  refine S8 (fun ρ=>∃ (b:List Int),ρ = [.par (.scr (ns.map W.int)),.val (.int (p:Int)),.val (.int sc),.own (ms.map mW),a4,a5,a6,a7,.own (b.map W.int)]/\b.length=p/\nn b) ?_ ?_
  ·refine K6 (fun h=>?_) (fun h=>?_)
   ·exists ec,e8
    exact ⟨t.set d8.toNat (c*982451653%1000000000000000000000000000000000000000000000000000000000000),rfl,by rw [List.length_set]; exact Fp,zF Gw (Int.emod_nonneg _ (by decide))⟩
   ·exists rp18
    exact ⟨t,rfl,Fp,Gw⟩
  rintro ρ ⟨b,rfl,Gq,Iq⟩
  exists Y6 (iD ms),z9 (X5 b)
  exact ⟨b,ms,rfl,by omega,by omega,Iq,by rw [Gq]; exact GI,by omega⟩
def kO:Option Int->List Int
 | none=>[1,0]
 | some n=>[0,n]
def l5 (c:Cap):List (List Int):=c.map kO
theorem zV {x y:Option Int} (h:kO x=kO y):x=y:=by
 cases x with
 | none=>
  cases y with
  | none=>rfl
  | some m=>simp [kO] at h
 | some n=>
  cases y with
  | none=>simp [kO] at h
  | some m=>simp [kO] at h; rw [h]
theorem cO:∀ {a b:Cap},l5 a=l5 b->a=b
 | [],[],_=>rfl
 | [],_::_,h=>by simp [l5] at h
 | _::_,[],h=>by simp [l5] at h
 | x::a,y::b,h=>by
  have h:kO x::l5 a=kO y::l5 b:=h
  injection h with h1 h2
  rw [zV h1,cO h2]
theorem ft (x y:Option Int) (a b:Cap):g7 (x::a) (y::b)=(D6 x y&&g7 a b):=by
 unfold g7
 rw [List.length_cons,List.range_succ_eq_map,List.all_cons,List.all_map]
 rfl
theorem qd {x y:Option Int} (h:D6 x y=true) (hn:kO y≠kO x):lexLt (kO y) (kO x)=false:=by
 cases y with
 | none=>
  cases x with
  | none=>exact absurd rfl hn
  | some n=>simp [kO,TP.lexLt]
 | some m=>
  cases x with
  | none=>cases h
  | some n=>
   have h:n<=m:=of_decide_eq_true h
   simp [kO,TP.lexLt]
   omega
theorem jH:∀ {a b:Cap},a.length=b.length->g7 a b=true->n5 (l5 b) (l5 a)=false
 | [],[],_,_=>rfl
 | [],_::_,h,_=>by simp at h
 | _::_,[],h,_=>by simp at h
 | x::a,y::b,hl,h=>by
  rw [ft,Bool.and_eq_true] at h
  show (if kO y=kO x then n5 (l5 b) (l5 a) else lexLt (kO y) (kO x))=false
  by_cases e:kO y=kO x
  ·rw [if_pos e]; exact jH (by simpa using hl) h.2
  ·rw [if_neg e]; exact qd h.1 e
theorem L9 (a:Cap):g7 a a=true:=bw fun k _=>by
 cases a.getD k none with
 | none=>rfl
 | some x=>exact decide_eq_true (Int.le_refl x)
theorem xt {a b:Cap} (hl:a.length=b.length) (h1:n5 (l5 a) (l5 b)=false) (h2:g7 a b=true):a=b:=cO (af _ _ h1 (jH hl h2))
theorem kX {c:Cap} (h6:c.length<=6):F4 [tC c]=.ok (kW (l5 c)):=by
 have e:∀ N mg me ρ (h:∀ z:Option Int,∃ ρ1,mg (oW z) (ρ++List.replicate (N-ρ.length) Sl.un)=some ρ1/\me ρ1=.ok (.tup ((kO z).map W.int))),m8 N mg yes me (c.map oW) ρ=.ok (.lst (cV (l5 c))):=fun N mg me ρ h=>by
  rw [n8 (fun z=>.tup ((kO z).map W.int)) oW c ρ (by omega) (fun z _=>h z)]
  unfold cV l5
  exact congrArg (fun l=>R.ok (W.lst l)) (by rw [List.map_map]; rfl)
 exists rpB,dw
 rw [e]
 ·have hn:k9 (cV (l5 c))=true:=cL (l5 c)
  exists Y6 hn
  rfl
 ·intro z
  refine ⟨_,rfl,?_⟩
  cases z with
  | none=>
   exists rp18
   rfl
  | some n=>
   exists rp18
   rfl
theorem oH {c:Cap} (h1:1<=c.length):keyOf (.ok (kW (l5 c)))=some (l5 c):=by
 have ht:K1 (cV (l5 c))=some (l5 c):=cA _
 unfold keyOf kW
 dsimp only
 rw [ht]
 cases c with
 | nil=>simp at h1
 | cons a c=>rfl
theorem fM:∀ {cs:List Cap},(∀ c∈cs,1<=c.length/\c.length<=6)->C8 F4 (cs.map tC)=some (cs.map l5)
 | [],_=>rfl
 | c::cs,h=>by
  have hc:=h c List.mem_cons_self
  rw [List.map_cons]
  unfold C8
  rw [kX hc.2,oH hc.1,fM fun d hd=>h d (List.mem_cons_of_mem _ hd)]
  rfl
theorem rc {α β:Type} (f:α->β) {ks:List (List (List Int))} {d:α} {e:β} {vs:List α} (hl:vs.length=ks.length):o9 ks e (vs.map f)=(o9 ks d vs).map f:=by
 unfold o9
 rw [List.map_reverse,List.map_map]
 refine congrArg List.reverse (List.map_congr_left fun i hi=>?_)
 have Fh:i<vs.reverse.length:=by
  have:=(J8 ks.reverse).mem_iff.mp hi
  rw [List.mem_range,List.length_reverse] at this
  rw [List.length_reverse]; omega
 rw [<- List.map_reverse,List.getD_eq_getElem?_getD,List.getElem?_map,List.getElem?_eq_getElem Fh]
 show _=f (vs.reverse.getD i d)
 rw [List.getD_eq_getElem?_getD,List.getElem?_eq_getElem Fh]
 rfl
def srt (cs:List Cap):List Cap:=o9 (cs.map l5) [] cs
theorem qr (cs:List Cap):(srt cs).Perm cs:=oo (by simp)
theorem qs (cs:List Cap):(srt cs).Pairwise fun a b=>n5 (l5 a) (l5 b)=false:=by
 unfold srt o9
 rw [List.pairwise_reverse,List.pairwise_map]
 have hm:∀ i∈M1 (cs.map l5).reverse,i<cs.reverse.length:=fun i hi=>by
  have:=(J8 (cs.map l5).reverse).mem_iff.mp hi
  rw [List.mem_range,List.length_reverse,List.length_map] at this
  rw [List.length_reverse]; exact this
 have hk:∀ i,i<cs.reverse.length->(cs.map l5).reverse.getD i []=l5 (cs.reverse.getD i []):=fun i hi=>by
  rw [<- List.map_reverse,List.getD_eq_getElem?_getD,List.getElem?_map,List.getElem?_eq_getElem hi,List.getD_eq_getElem?_getD,List.getElem?_eq_getElem hi]
  rfl
 refine List.Pairwise.imp_of_mem (fun {i j} hi hj h=>?_) (vk (cs.map l5).reverse)
 rw [hk i (hm i hi),hk j (hm j hj)] at h
 exact h
theorem oA (cs:List Cap):k9 (cs.map tC)=true:=T7 tC (fun c=>y4 c) cs
theorem lf {cs:List Cap} {c:Bool} (hl:∀ c∈cs,1<=c.length/\c.length<=6) (Fy:cs.length<64):bf c F4 [.lst (cs.map tC)]=.ok (.lst ((srt cs).map tC)):=by
 show (match C8 F4 (cs.map tC) with | some ks=>if (cs.map tC).length<64 then chks c (o9 ks W.non (cs.map tC)) else .stuck | none=>.stuck)=_
 rw [fM hl]
 dsimp only
 rw [if_pos (by rw [List.length_map]; exact Fy),rc tC (d:=[]) (by simp),bW (oA _)]
 rfl
theorem uo {cs:List Cap} {n:Nat} (hl:∀ c∈cs,c.length=n) (h1:1<=n) (h6:n<=6) (Fy:cs.length<64):Ok (iY [.lst (cs.map tC)]) fun w=>∃ ts:List Cap,w=.lst (ts.map tC)/\(∀ t∈ts,t∈cs)/\ts.length<=cs.length/\(ts.Pairwise fun a b=>n5 (l5 a) (l5 b)=true/\g7 a b=false/\g7 b a=false)/\∀ c∈cs,∃ t∈ts,g7 c t=true:=by
 have hs:=lf (cs:=cs) (c:=false) (fun c hc=>by rw [hl c hc]; exact ⟨h1,h6⟩) Fy
 have hp:=qr cs
 have hd:=qs cs
 have Gf:(srt cs).length=cs.length:=hp.length_eq
 have GW:∀ c∈srt cs,c.length=n:=fun c hc=>hl c (hp.mem_iff.mp hc)
 generalize srt cs=ss at *
 exists rpB,oD,hs
 refine n6 (t7 (fun i ρ=>∃ (fs:List Cap) (a2:Sl),ρ = [.par (.lst (cs.map tC)),.own (fs.map tC),a2]/\(∀ t∈fs,t∈ss.take i)/\fs.length<=i/\(fs.Pairwise fun a b=>n5 (l5 a) (l5 b)=false/\g7 b a=false)/\∀ c∈ss.take i,∃ t∈fs,g7 c t=true) ⟨[],_,rfl,by simp,by simp,List.Pairwise.nil,by simp⟩ ?_ ?_)
 ·rintro i u ρ hu ⟨fs,a2,rfl,hfm,hfl,hfp,hfc⟩
  rw [List.getElem?_map] at hu
  obtain ⟨x,hx,rfl⟩:=Option.map_eq_some_iff.mp hu
  obtain ⟨hi,ex⟩:=List.getElem?_eq_some_iff.mp hx
  have hxm:=List.mem_of_getElem? hx
  have ht:ss.take (i+1)=ss.take i ++ [x]:=by rw [List.take_add_one,hx]; rfl
  have Im:∀ t∈fs,t.length=x.length:=fun t IQ=>by rw [GW t (List.mem_of_mem_take (hfm t IQ)),GW x hxm]
  have ku:=bZ (cs:=fs) (x:=x) Im
  have hf64:fs.length<64:=by omega
  refine ⟨_,rfl,?_⟩
  exists ku
  cases hU:A0 fs x with
  | true=>
   exists rp18
   refine ⟨fs,_,rfl,fun t q=>by rw [ht]; exact List.mem_append_left _ (hfm t q),by omega,hfp,fun c hc=>?_⟩
   rw [ht] at hc
   rcases List.mem_append.mp hc with q | q
   ·exact hfc c q
   ·rw [List.mem_singleton.mp q]
    obtain ⟨t,h1,h2⟩:=List.any_eq_true.mp hU
    exact ⟨t,h1,h2⟩
  | false=>
   exists z9 (show noL (tC x)=true from y4 x)
   refine ⟨fs ++ [x],_,by rw [List.map_append]; rfl,fun t q=>?_,by rw [List.length_append,List.length_singleton]; omega,?_,fun c hc=>?_⟩
   ·rw [ht]
    rcases List.mem_append.mp q with q | q
    ·exact List.mem_append_left _ (hfm t q)
    ·exact List.mem_append_right _ q
   ·refine List.pairwise_append.mpr ⟨hfp,List.pairwise_singleton _ _,fun t IQ y hy=>?_⟩
    rw [List.mem_singleton.mp hy]
    refine ⟨?_,?_⟩
    ·obtain ⟨j,hj,ej⟩:=List.mem_iff_getElem.mp (hfm t IQ)
     rw [List.length_take] at hj
     rw [List.getElem_take] at ej
     have:=List.pairwise_iff_getElem.mp hd j i (by omega) hi (by omega)
     rw [ej,ex] at this
     exact this
    ·unfold A0 at hU
     rw [List.any_eq_false] at hU
     have:=hU t IQ
     simpa using this
   ·rw [ht] at hc
    rcases List.mem_append.mp hc with q | q
    ·obtain ⟨t,h1,h2⟩:=hfc c q
     exact ⟨t,List.mem_append_left _ h1,h2⟩
    ·rw [List.mem_singleton.mp q]
     exact ⟨x,List.mem_append_right _ (List.mem_singleton_self _),L9 x⟩
 ·rintro ρ ⟨fs,a2,rfl,hfm,hfl,hfp,hfc⟩
  rw [List.length_map] at hfl
  rw [List.length_map,List.take_length] at hfm hfc
  exists rp18
  refine ⟨fs.reverse,by rw [List.map_reverse],fun t q=>hp.mem_iff.mp (hfm t (List.mem_reverse.mp q)),by rw [List.length_reverse]; omega,?_,fun c hc=>?_⟩
  ·rw [List.pairwise_reverse]
   refine List.Pairwise.imp_of_mem (fun {b a} hb ha h=>?_) hfp
   have Gq:=GW b (hfm b hb)
   have JG:=GW a (hfm a ha)
   have key:g7 b a=false:=by
    cases hq:g7 b a with
    | false=>rfl
    | true=>
     have:=xt (by omega) h.1 hq
     subst this
     rw [L9] at hq
     have h2:=h.2
     rw [L9] at h2
     cases h2
   refine ⟨?_,h.2,key⟩
   cases hq:n5 (l5 a) (l5 b) with
   | true=>rfl
   | false=>
    have:=cO (af _ _ h.1 hq)
    subst this
    rw [L9] at key
    cases key
  ·obtain ⟨t,q1,q2⟩:=hfc c (hp.mem_iff.mpr hc)
   exact ⟨t,List.mem_reverse.mpr q1,q2⟩
theorem kL {x y z:Option Int} (h1:D6 x y=true) (h2:D6 y z=true):D6 x z=true:=by
 cases z with
 | none=>rfl
 | some c=>
  cases y with
  | none=>cases h2
  | some b=>
   cases x with
   | none=>cases h1
   | some a=>
    have h1:a<=b:=of_decide_eq_true h1
    have h2:b<=c:=of_decide_eq_true h2
    exact decide_eq_true (by omega)
theorem E5:∀ {a b c:Cap},a.length=b.length->b.length=c.length->g7 a b=true->g7 b c=true->g7 a c=true
 | [],[],[],_,_,_,_=>rfl
 | [],_::_,_,h,_,_,_=>by simp at h
 | _::_,[],_,h,_,_,_=>by simp at h
 | _,[],_::_,_,h,_,_=>by simp at h
 | _,_::_,[],_,h,_,_=>by simp at h
 | x::a,y::b,z::c,h1,h2,h3,h4=>by
  rw [ft,Bool.and_eq_true] at h3 h4 ⊢
  exact ⟨kL h3.1 h4.1,E5 (by simpa using h1) (by simpa using h2) h3.2 h4.2⟩
theorem sA {b:List Int} {ms:List Mv} {most:Nat} (h1:1<=b.length) (h6:b.length<=6) (hm:∀ m∈ms,okN b.length m) (h8:ms.length<=8) (hm1:1<=most) (Ja:most<=30):∃ w u:W,U3 [.tup [tI b,tM_ ms],.int (most:Int)]=.ok w/\bO [.tup [tI b,tM_ ms],.int (most:Int)]=.ok u/\((w=.non/\u=.non)\/∃ (es:List GEnt) (ts:List Cap),w=.lst (k5 (b.map some) es)/\es.length+1<=most/\GK (b.map some) ms es (es.length+1) 0/\u=.lst (ts.map tC)/\(∀ t∈ts,t∈stC (b.map some) es)/\ts.length<=es.length+1/\(ts.Pairwise fun a b=>n5 (l5 a) (l5 b)=true/\g7 a b=false/\g7 b a=false)/\∀ c∈stC (b.map some) es,∃ t∈ts,g7 c t=true):=by
 obtain ⟨w,eg,hw⟩:=oU (most:=most) h6 hm h8 hm1 Ja
 have FR:(b.map some).length=b.length:=List.length_map ..
 rcases hw with rfl | ⟨es,rfl,hes,hK⟩
 ·refine ⟨_,.non,eg,?_,.inl ⟨rfl,rfl⟩⟩
  exists rpB,eV,eg
 ·generalize hc:b.map some=c at *
  have hsn:∀ d∈stC c es,d.length=b.length:=fun d hd=>by
   unfold stC at hd
   rcases List.mem_cons.mp hd with q | q
   ·rw [q,FR]
   ·obtain ⟨z,hz,ez⟩:=List.mem_map.mp q
    rw [<- ez,hK.len z hz,FR]
  obtain ⟨u,et,ts,rfl,q1,q2,q3,q4⟩:=uo (cs:=stC c es) (n:=b.length) hsn h1 h6 (by rw [R8]; omega)
  rw [R8] at q2
  refine ⟨_,.lst (ts.map tC),eg,?_,.inr ⟨es,ts,rfl,hes,hK,rfl,q1,q2,q3,q4⟩⟩
  have Jd:∀ N mg me ρ (h:∀ o∈(none::es.map some:List (Option GEnt)),∃ ρ1,mg (V6 c o) (ρ++List.replicate (N-ρ.length) Sl.un)=some ρ1/\me ρ1=.ok (tC (ar c o))),m8 N mg yes me (k5 c es) ρ=.ok (.lst ((stC c es).map tC)):=fun N mg me ρ h=>by
   rw [eC,n8 (fun o=>tC (ar c o)) _ _ ρ (by simp; omega) h]
   rw [<- tm]
   refine congrArg (fun l=>R.ok (W.lst l)) ?_
   rw [List.map_map]; rfl
  obtain ⟨Ff,FV⟩:∃ Ff,Ff=k5 c es:=⟨_,rfl⟩
  rw [<- FV] at eg Jd
  exists rpB,eV,eg
  rw [Jd]
  ·exists et
  ·intro o ho
   refine ⟨_,rfl,?_⟩
   cases o with
   | none=>
    have b0:L2.atI [tC c,W.non,W.non] 0=some (tC c):=rfl
    have b1:V6 c none=.tup [tC c,.non,.non]:=rfl
    have b2:ar c none=c:=rfl
    exists b1,b0,b2,z9 (show noL (tC c)=true from y4 c)
   | some e=>
    have b0:L2.atI [tC e.1,.int (e.2.1:Int),.int (e.2.2:Int)] 0=some (tC e.1):=rfl
    have b1:V6 c (some e)=.tup [tC e.1,.int (e.2.1:Int),.int (e.2.2:Int)]:=rfl
    have b2:ar c (some e)=e.1:=rfl
    exists b1,b0,b2,z9 (show noL (tC e.1)=true from y4 e.1)
theorem K2 {l:List Int} {k:Nat} (h:k<l.length):(l.map some).getD k none=some (l.getD k 0):=by
 rw [List.getD_eq_getElem?_getD,List.getElem?_map,List.getElem?_eq_getElem h,List.getD_eq_getElem?_getD,List.getElem?_eq_getElem h]; rfl
theorem gF {cs ds:Cap} (h:g7 cs ds=true) {k:Nat} (hk:k<cs.length):D6 (cs.getD k none) (ds.getD k none)=true:=by
 unfold g7 at h
 exact List.all_eq_true.mp h k (by simpa using hk)
theorem no (x:Option Int):D6 x x=true:=by
 cases x with
 | none=>rfl
 | some a=>exact decide_eq_true (Int.le_refl a)
theorem cH {α:Type} (n k:Nat) (f:Nat->α) (d:α) (h:k<n):((List.range n).map f).getD k d=f k:=by
 rw [List.getD_eq_getElem?_getD,List.getElem?_map,List.getElem?_range h]; rfl
theorem um (x e:Cap):g7 x (v8 x e)=true:=by
 unfold v8
 by_cases h:g7 e x=true
 ·rw [if_pos h]
  refine bw fun k hk=>?_
  rw [cH _ _ _ _ hk]
  unfold aM
  by_cases q:x.getD k none=e.getD k none
  ·rw [if_pos q]; exact no _
  ·rw [if_neg q]; rfl
 ·rw [if_neg h]; exact L9 x
theorem nj (c:Cap) (es:List GEnt):∀ (l:List Nat) (x:Cap),g7 x (upC c es l x)=true
 | [],x=>L9 x
 | q::l,x=>E5 (cJ x (sC c es q)).symm (X1 c es l (v8 x (sC c es q))).symm (um x (sC c es q)) (nj c es l (v8 x (sC c es q)))
def mK (st:List Int) (m:Mv):Bool:=(List.range st.length).all fun k=>decide (m.1.getD k 0<=st.getD k 0)
def bhS (st:List Int) (m:Mv):List Int:=(List.range st.length).map fun k=>st.getD k 0-m.1.getD k 0+m.2.getD k 0
theorem bX (st:List Int) (m:Mv):(bhS st m).length=st.length:=by simp [bhS]
theorem xc {st:List Int} {m:Mv} (h:mK st m=true) {k:Nat} (hk:k<st.length):m.1.getD k 0<=st.getD k 0:=by
 unfold mK at h
 exact of_decide_eq_true (List.all_eq_true.mp h k (by simpa using hk))
theorem xb {st:List Int} {m:Mv} {t:Cap} (hm:okN st.length m) (hl:st.length=t.length) (h:mK st m=true) (hu:g7 (st.map some) t=true):Q4 t m=true:=by
 refine E5 (b:=st.map some) (by rw [List.length_map,List.length_map,hm.1]) (by rw [List.length_map]; exact hl) (bw fun k hk=>?_) hu
 rw [List.length_map,hm.1] at hk
 rw [K2 (by rw [hm.1]; exact hk),K2 hk]
 exact decide_eq_true (xc h hk)
theorem Ca {st:List Int} {m:Mv} {t:Cap} (hl:st.length=t.length) (hu:g7 (st.map some) t=true):g7 ((bhS st m).map some) (C0 t m)=true:=by
 refine bw fun k hk=>?_
 rw [List.length_map,bX] at hk
 have hu:=gF hu (k:=k) (by rw [List.length_map]; exact hk)
 rw [K2 hk] at hu
 rw [K2 (by rw [bX]; exact hk)]
 unfold bhS C0
 rw [cH _ _ _ _ hk,cH _ _ _ _ (by omega)]
 cases hy:t.getD k none with
 | none=>rfl
 | some y=>
  rw [hy] at hu
  have hu:st.getD k 0<=y:=of_decide_eq_true hu
  exact decide_eq_true (show st.getD k 0-m.1.getD k 0+m.2.getD k 0<=y+(m.2.getD k 0-m.1.getD k 0) by omega)
theorem gP {c:Cap} {es:List GEnt} {t:Cap} (h:t∈stC c es):∃ a,a<=es.length/\t=sC c es a:=by
 obtain ⟨a,ha,ea⟩:=List.mem_iff_getElem.mp h
 refine ⟨a,by rw [R8] at ha; omega,?_⟩
 unfold sC
 rw [List.getD_eq_getElem?_getD,List.getElem?_eq_getElem ha,ea]; rfl
theorem CV {ms:List Mv} {m:Mv} (h:m∈ms):∃ k,k<ms.length/\m=mvN ms k:=by
 obtain ⟨k,hk,ek⟩:=List.mem_iff_getElem.mp h
 refine ⟨k,hk,?_⟩
 unfold mvN
 rw [List.getD_eq_getElem?_getD,List.getElem?_eq_getElem hk,ek]; rfl
theorem qi {c:Cap} {ms:List Mv} {es:List GEnt} {t:Cap} {m:Mv} (hK:GK c ms es (es.length+1) 0) (ht:t∈stC c es) (hm:m∈ms) (EU:Q4 t m=true):∃ d∈stC c es,g7 (C0 t m) d=true:=by
 obtain ⟨a,ha,rfl⟩:=gP ht
 obtain ⟨k,hk,rfl⟩:=CV hm
 have hl:=P0 hK.len ha
 have h1:g7 (C0 (sC c es a) (mvN ms k)) (n4 c ms es a k)=true:=nj c es (p9 es a) _
 rcases hK.set a k (by omega) hk EU with ⟨e,he,q⟩ | ⟨j,hj,_,h2⟩
 ·obtain ⟨i,hi,ei⟩:=List.mem_iff_getElem.mp he
  have:=(hK.beh i e (by rw [List.getElem?_eq_getElem hi,ei])).2.1
  rw [q] at this
  refine ⟨e.1,List.mem_cons_of_mem _ (List.mem_map.mpr ⟨e,he,rfl⟩),?_⟩
  rw [this]; exact h1
 ·exact ⟨_,hZ hj,E5 (by rw [N3,W2]) (by rw [W2,hl]; exact (P0 hK.len hj).symm) h1 h2⟩
theorem gO {c:Cap} {ms:List Mv} {es:List GEnt} {A kk:Nat} (hK:GK c ms es A kk):∀ d∈stC c es,d.length=c.length:=fun d hd=>by
 obtain ⟨a,ha,rfl⟩:=gP hd
 exact P0 hK.len ha
theorem pq {c:Cap} {ms:List Mv} {es:List GEnt} {ts:List Cap} {st:List Int} {m:Mv} (hK:GK c ms es (es.length+1) 0) (GI:∀ m∈ms,okN c.length m) (q1:∀ t∈ts,t∈stC c es) (q4:∀ d∈stC c es,∃ t∈ts,g7 d t=true)
  (hl:st.length=c.length) (hm:m∈ms) (EU:mK st m=true) (hu:∃ t∈ts,g7 (st.map some) t=true):∃ t∈ts,g7 ((bhS st m).map some) t=true:=by
 obtain ⟨t,ht,hu⟩:=hu
 have hlen:=gO hK
 have lt:=hlen t (q1 t ht)
 have hb:=Ca (m:=m) (by omega) hu
 obtain ⟨d,hd,h2⟩:=qi hK (q1 t ht) hm (xb (by rw [hl]; exact GI m hm) (by omega) EU hu)
 obtain ⟨t',ht',h3⟩:=q4 d hd
 have ld:=hlen d hd
 have lt':=hlen t' (q1 t' ht')
 exact ⟨t',ht',E5 (by rw [List.length_map,bX]; omega) (by omega) (E5 (by rw [List.length_map,bX,N3]; omega) (by rw [N3]; omega) hb h2) h3⟩
theorem atO {cs:List (Option Int)} {k:Nat} (h:k<cs.length):L2.atI (cs.map oW) (k:Int)=some (oW (cs.getD k none)):=dQ (by rw [List.getElem?_map,List.getD_eq_getElem?_getD,List.getElem?_eq_getElem h]; rfl)
def mvD (m:Mv) (p:Nat):Int:=m.2.getD p 0-m.1.getD p 0
def dsp (ms:List Mv):List Nat->Nat->Int
 | [],_=>0
 | k::r,p=>mvD (mvN ms k) p+dsp ms r p
def gos (n:Nat) (ms:List Mv):List Nat->(Nat->Int)->Prop
 | [],_=>True
 | k::r,s=>k<ms.length/\(∀ p,p<n->(mvN ms k).1.getD p 0<=s p)/\gos n ms r fun p=>s p+mvD (mvN ms k) p
section
variable {n:Nat} {ms:List Mv}
theorem E8:∀ (r:List Nat) (s t:Nat->Int),(∀ p,p<n->s p<=t p)->gos n ms r s->gos n ms r t
 | [],_,_,_,_=>trivial
 | k::r,s,t,h,⟨h1,h2,h3⟩=>⟨h1,fun p hp=>Int.le_trans (h2 p hp) (h p hp),E8 r _ _ (fun p hp=>by have:=h p hp; show s p+_<=t p+_; omega) h3⟩
theorem bQ (q:List Nat) (p:Nat):∀ r:List Nat,dsp ms (r++q) p=dsp ms r p+dsp ms q p
 | []=>by show dsp ms q p=0+dsp ms q p; omega
 | k::r=>by
  show mvD (mvN ms k) p+dsp ms (r++q) p=mvD (mvN ms k) p+dsp ms r p+dsp ms q p
  rw [bQ q p r]; omega
theorem bM (q:List Nat):∀ (r:List Nat) (s:Nat->Int),gos n ms r s->gos n ms q (fun p=>s p+dsp ms r p)->gos n ms (r++q) s
 | [],s,_,h=>E8 q _ s (fun p _=>by show s p+0<=s p; omega) h
 | k::r,s,⟨h1,h2,h3⟩,h=>⟨h1,h2,bM q r _ h3 (E8 q _ _ (fun p _=>by show s p+(mvD (mvN ms k) p+dsp ms r p)<=s p+mvD (mvN ms k) p+dsp ms r p; omega) h)⟩
def aL (r:List Nat):Nat->List Nat
 | 0=>[]
 | k+1=>r++aL r k
theorem ko (r:List Nat) (p:Nat):∀ k:Nat,dsp ms (aL r k) p=(k:Int)*dsp ms r p
 | 0=>by show (0:Int)=((0:Nat):Int)*_; simp
 | k+1=>by
  show dsp ms (r++aL r k) p=_
  rw [bQ,ko r p k]
  push_cast
  rw [Int.add_mul]; omega
theorem km (r:List Nat):∀ (k:Nat) (s:Nat->Int),(∀ j:Nat,j<k->gos n ms r fun p=>s p+(j:Int)*dsp ms r p)->gos n ms (aL r k) s
 | 0,_,_=>trivial
 | k+1,s,h=>by
  refine bM _ r s (E8 r _ s (fun p _=>by simp) (h 0 (by omega))) (km r k _ fun j hj=>E8 r _ _ (fun p _=>?_) (h (j+1) (by omega)))
  push_cast
  rw [Int.add_mul]; omega
end
theorem bnd (g:Nat->Int):∀ n:Nat,∃ B:Int,0<=B/\∀ p,p<n->g p<=B
 | 0=>⟨0,Int.le_refl 0,fun p hp=>absurd hp (Nat.not_lt_zero _)⟩
 | n+1=>by
  obtain ⟨B,h0,hB⟩:=bnd g n
  refine ⟨max B (g n),by omega,fun p hp=>?_⟩
  by_cases e:p=n
  ·subst e; omega
  ·have:=hB p (by omega); omega
def m5 (c:Cap) (N:Int) (p:Nat):Int:=(c.getD p none).getD N
def Cv (n:Nat) (N:Int) (c:Cap) (s:Nat->Int):Prop:=∀ p,p<n->(∀ v,c.getD p none=some v->s p=v)/\(c.getD p none=none->N<=s p)
def Rz (n:Nat) (ms:List Mv) (x c:Cap):Prop:=∀ N:Int,∃ (N0:Int) (r:List Nat),gos n ms r (m5 x N0)/\Cv n N c fun p=>m5 x N0 p+dsp ms r p
section
variable {n:Nat} {ms:List Mv} {x c e:Cap}
theorem Rz.refl (c:Cap):Rz n ms c c:=fun N=>⟨N,[],trivial,fun p _=>⟨fun v h=>by show m5 c N p+0=v; unfold m5; rw [h]; simp,fun h=>by show N<=m5 c N p+0; unfold m5; rw [h]; simp⟩⟩
theorem nk {a b:Cap} (h:g7 a b=true) {p:Nat} (hp:p<a.length):D6 (a.getD p none) (b.getD p none)=true:=by
 unfold g7 at h
 rw [List.all_eq_true] at h
 exact h p (by simpa using hp)
theorem Rz.aft {k:Nat} (h:Rz n ms x c) (hk:k<ms.length) (hl:c.length=n) (hm:(mvN ms k).1.length=n) (ha:Q4 c (mvN ms k)=true):Rz n ms x (C0 c (mvN ms k)):=fun N=>by
 obtain ⟨B1,b1,hB1⟩:=bnd (fun p=>(mvN ms k).1.getD p 0) n
 obtain ⟨B2,b2,hB2⟩:=bnd (fun p =>-mvD (mvN ms k) p) n
 obtain ⟨MN,n0,n1⟩:∃ x:Int,0<=x/\N<=x:=⟨max N 0,Int.le_max_right _ _,Int.le_max_left _ _⟩
 obtain ⟨N0,r,hg,hr⟩:=h (MN+B1+B2)
 refine ⟨N0,r ++ [k],bM _ r _ hg ⟨hk,fun p hp=>?_,trivial⟩,fun p hp=>?_⟩
 ·obtain ⟨h1,h2⟩:(∀ v,c.getD p none=some v->m5 x N0 p+dsp ms r p=v)/\(c.getD p none=none->MN+B1+B2<=m5 x N0 p+dsp ms r p):=hr p hp
  have hu:=nk ha (p:=p) (by rw [List.length_map,hm]; exact hp)
  have e1:((mvN ms k).1.map some).getD p none=some ((mvN ms k).1.getD p 0):=by
   rw [List.getD_eq_getElem?_getD,List.getElem?_map,List.getD_eq_getElem?_getD,List.getElem?_eq_getElem (by omega)]; rfl
  rw [e1] at hu
  show (mvN ms k).1.getD p 0<=m5 x N0 p+dsp ms r p
  cases q:c.getD p none with
  | some v=>
   rw [q] at hu
   have hu:(mvN ms k).1.getD p 0<=v:=of_decide_eq_true hu
   rw [h1 v q]; exact hu
  | none=>
   have:=h2 q
   have:(mvN ms k).1.getD p 0<=B1:=hB1 p hp
   omega
 ·obtain ⟨h1,h2⟩:(∀ v,c.getD p none=some v->m5 x N0 p+dsp ms r p=v)/\(c.getD p none=none->MN+B1+B2<=m5 x N0 p+dsp ms r p):=hr p hp
  show (∀ v,(C0 c (mvN ms k)).getD p none=some v->m5 x N0 p+dsp ms (r ++ [k]) p=v)/\((C0 c (mvN ms k)).getD p none=none->N<=m5 x N0 p+dsp ms (r ++ [k]) p)
  have ed:dsp ms (r ++ [k]) p=dsp ms r p+mvD (mvN ms k) p:=by
   rw [bQ]
   show _+(mvD (mvN ms k) p+0)=_
   omega
  have ea:(C0 c (mvN ms k)).getD p none=(c.getD p none).map fun x=>x+mvD (mvN ms k) p:=by
   unfold C0 mvD
   rw [List.getD_eq_getElem?_getD,List.getElem?_map,List.getElem?_range (by omega)]; rfl
  rw [ea,ed]
  refine ⟨fun v hv=>?_,fun hv=>?_⟩
  ·cases q:c.getD p none with
   | none=>rw [q] at hv; cases hv
   | some u=>
    rw [q] at hv
    have:=h1 u q
    have hv:u+mvD (mvN ms k) p=v:=Option.some.inj hv
    omega
  ·cases q:c.getD p none with
   | some u=>rw [q] at hv; cases hv
   | none=>
    have h2:=h2 q
    have :-mvD (mvN ms k) p<=B2:=hB2 p hp
    omega
theorem Rz.rai (h:Rz n ms x c) (he:Rz n ms e c) (hl:c.length=n) (hel:e.length=n):Rz n ms x (v8 c e):=by
 by_cases hu:¬ g7 e c=true
 ·unfold v8
  rw [if_neg hu]; exact h
 have hu:g7 e c=true:=by simpa using hu
 intro N
 obtain ⟨L1,l1,hL1⟩:=bnd (fun p=>(e.getD p none).getD 0) n
 obtain ⟨U,u0,hU⟩:=bnd (fun p =>-(c.getD p none).getD 0) n
 obtain ⟨Ne,rl,hgl,Hm⟩:=he (L1+1)
 obtain ⟨D,d0,hD⟩:=bnd (fun p =>-dsp ms rl p) n
 obtain ⟨MN,n0,n1⟩:∃ x:Int,0<=x/\N<=x:=⟨max N 0,Int.le_max_right _ _,Int.le_max_left _ _⟩
 obtain ⟨ME,e0,e1⟩:∃ x:Int,0<=x/\Ne<=x:=⟨max Ne 0,Int.le_max_right _ _,Int.le_max_left _ _⟩
 obtain ⟨k,hk⟩:∃ k:Nat,(k:Int)=MN+U:=⟨(MN+U).toNat,Int.toNat_of_nonneg (Int.add_nonneg n0 u0)⟩
 have kD:0<=(k:Int)*D:=Int.mul_nonneg (by omega) d0
 obtain ⟨Nx,r1,hg1,hr1⟩:=h (MN+ME+L1+1+(k:Int)*D)
 -- how the loop moves each place
 have mv:∀ p,p<n->(∃ v u,e.getD p none=some v/\c.getD p none=some u/\v<=u/\v+dsp ms rl p=u)\/(∃ v,e.getD p none=some v/\c.getD p none=none/\1<=dsp ms rl p/\v<=L1)\/(e.getD p none=none/\c.getD p none=none):=fun p hp=>by
  have Gv:=nk hu (p:=p) (by omega)
  obtain ⟨g1,g2⟩:(∀ v,c.getD p none=some v->m5 e Ne p+dsp ms rl p=v)/\(c.getD p none=none->L1+1<=m5 e Ne p+dsp ms rl p):=Hm p hp
  cases q:e.getD p none with
  | none=>
   cases q2:c.getD p none with
   | none=>exact .inr (.inr ⟨rfl,rfl⟩)
   | some u=>rw [q,q2] at Gv; cases Gv
  | some v=>
   have GZ:m5 e Ne p=v:=by unfold m5; rw [q]; rfl
   have hL:(e.getD p none).getD 0<=L1:=hL1 p hp
   rw [q] at hL
   have hL:v<=L1:=hL
   cases q2:c.getD p none with
   | none=>
    have g2:=g2 q2
    rw [GZ] at g2
    exact .inr (.inl ⟨v,rfl,rfl,by omega,hL⟩)
   | some u=>
    have g1:=g1 u q2
    rw [GZ] at g1
    rw [q,q2] at Gv
    exact .inl ⟨v,u,rfl,rfl,of_decide_eq_true Gv,g1⟩
 refine ⟨Nx,r1++aL rl k,bM _ r1 _ hg1 (km rl k _ fun j hj=>E8 rl _ _ (fun p hp=>?_) hgl),fun p hp=>?_⟩
 ·obtain ⟨g1,g2⟩:(∀ v,c.getD p none=some v->m5 x Nx p+dsp ms r1 p=v)/\(c.getD p none=none->MN+ME+L1+1+(k:Int)*D<=m5 x Nx p+dsp ms r1 p):=hr1 p hp
  have Iz :-dsp ms rl p<=D:=hD p hp
  show m5 e Ne p<=m5 x Nx p+dsp ms r1 p+(j:Int)*dsp ms rl p
  have j0:(0:Int)<=(j:Int):=by omega
  have jk:(j:Int)*D<=(k:Int)*D:=Int.mul_le_mul_of_nonneg_right (by omega) d0
  rcases mv p hp with ⟨v,u,q1,q2,h1,h2⟩ | ⟨v,q1,q2,h1,h2⟩ | ⟨q1,q2⟩
  ·have:=g1 u q2
   have hj:=Int.mul_nonneg j0 (show 0<=dsp ms rl p by omega)
   have GZ:m5 e Ne p=v:=by unfold m5; rw [q1]; rfl
   rw [GZ]; omega
  ·have:=g2 q2
   have hj:=Int.mul_nonneg j0 (show 0<=dsp ms rl p by omega)
   have GZ:m5 e Ne p=v:=by unfold m5; rw [q1]; rfl
   rw [GZ]; omega
  ·have:=g2 q2
   have hj:(j:Int)*(-D)<=(j:Int)*dsp ms rl p:=Int.mul_le_mul_of_nonneg_left (by omega) j0
   rw [Int.mul_neg] at hj
   have GZ:m5 e Ne p=Ne:=by unfold m5; rw [q1]; rfl
   rw [GZ]; omega
 ·obtain ⟨g1,g2⟩:(∀ v,c.getD p none=some v->m5 x Nx p+dsp ms r1 p=v)/\(c.getD p none=none->MN+ME+L1+1+(k:Int)*D<=m5 x Nx p+dsp ms r1 p):=hr1 p hp
  have Iz :-dsp ms rl p<=D:=hD p hp
  have JH :-(c.getD p none).getD 0<=U:=hU p hp
  show (∀ v,(v8 c e).getD p none=some v->m5 x Nx p+dsp ms (r1++aL rl k) p=v)/\((v8 c e).getD p none=none->N<=m5 x Nx p+dsp ms (r1++aL rl k) p)
  have k0:(0:Int)<=(k:Int):=by omega
  have ed:dsp ms (r1++aL rl k) p=dsp ms r1 p+(k:Int)*dsp ms rl p:=by rw [bQ,ko]
  have er:(v8 c e).getD p none=aM (c.getD p none) (e.getD p none):=by
   unfold v8
   rw [if_pos hu,List.getD_eq_getElem?_getD,List.getElem?_map,List.getElem?_range (by omega)]; rfl
  rw [er,ed]
  rcases mv p hp with ⟨v,u,q1,q2,h1,h2⟩ | ⟨v,q1,q2,h1,h2⟩ | ⟨q1,q2⟩
  ·have g1:=g1 u q2
   rw [q1,q2]
   unfold aM
   by_cases euv:u=v
   ·subst euv
    have hz:dsp ms rl p=0:=by omega
    rw [if_pos rfl,hz]
    exact ⟨(fun w hw=>by have hw:=Option.some.inj hw; omega),(fun hw=>by cases hw)⟩
   ·rw [if_neg (fun z=>euv (Option.some.inj z))]
    refine ⟨(fun w hw=>by cases hw),fun _=>?_⟩
    have hj:(k:Int)*1<=(k:Int)*dsp ms rl p:=Int.mul_le_mul_of_nonneg_left (by omega) k0
    rw [q2] at JH
    have JH:-u<=U:=JH
    omega
  ·have g2:=g2 q2
   rw [q1,q2]
   unfold aM
   rw [if_neg (fun z=>by cases z)]
   refine ⟨(fun w hw=>by cases hw),fun _=>?_⟩
   have hj:=Int.mul_nonneg k0 (show 0<=dsp ms rl p by omega)
   omega
  ·have g2:=g2 q2
   rw [q1,q2]
   unfold aM
   rw [if_pos rfl]
   refine ⟨(fun w hw=>by cases hw),fun _=>?_⟩
   have hj:(k:Int)*(-D)<=(k:Int)*dsp ms rl p:=Int.mul_le_mul_of_nonneg_left (by omega) k0
   rw [Int.mul_neg] at hj
   omega
end
section
variable {c:Cap} {ms:List Mv} {es:List GEnt} {A kk:Nat}
theorem nh {n:Nat} {S:List Nat}:∀ (l:List Nat) (x:Cap),(∀ q∈l,q∈S)->(∀ q∈S,(sC c es q).length=n)->x.length=n->(∀ q∈S,Rz n ms (sC c es q) x)->∀ q∈S,Rz n ms (sC c es q) (upC c es l x)
 | [],_,_,_,_,h=>h
 | a::l,x,hl,hn,hx,h=>by
  show ∀ q∈S,Rz n ms (sC c es q) (upC c es l (v8 x (sC c es a)))
  have ha:=hl a List.mem_cons_self
  exact nh l _ (fun q hq=>hl q (List.mem_cons_of_mem _ hq)) hn (by rw [cJ]; exact hx) fun q hq=>(h q hq).rai (h a ha) hx (hn a ha)
theorem GK.rz (h:GK c ms es A kk) (hm:∀ m∈ms,m.1.length=c.length):∀ j,j<=es.length->∀ i∈p9 es j,Rz c.length ms (sC c es i) (sC c es j):=by
 intro j
 induction j using Nat.strongRecOn with
 | _ j ih=>
  intro hj i hi
  cases j with
  | zero=>rw [gB] at hi; rw [List.mem_singleton.mp hi]; exact .refl _
  | succ j=>
   have he:es[j]?=some es[j]:=List.getElem?_eq_getElem (by omega)
   have hp:=h.par j _ he
   rw [J5 h.par he] at hi
   rcases List.mem_cons.mp hi with rfl | hi
   ·exact .refl _
   obtain ⟨EU,GL,_⟩:=h.beh j _ he
   have hk:=h.k8 _ (List.mem_of_getElem? he)
   have hle:=(bt h.par es[j].2.1 (by omega)).1
   have hlen:∀ q∈p9 es es[j].2.1,(sC c es q).length=c.length:=fun q hq=>P0 h.len (by have:=hle q hq; omega)
   have Hr:(mvN ms es[j].2.2).1.length=c.length:=hm _ (by unfold mvN; rw [List.getD_eq_getElem?_getD,List.getElem?_eq_getElem hk]; exact List.getElem_mem _)
   have hla:=P0 h.len (a:=es[j].2.1) (by omega)
   rw [nN he,GL]
   unfold n4
   exact nh _ _ (fun q hq=>hq) hlen (by rw [N3]; exact hla) (fun q hq=>(ih es[j].2.1 (by omega) (by omega) q hq).aft hk hla Hr EU) i hi
theorem pZ (hp:W9 es):∀ j,j<=es.length->0∈p9 es j:=by
 intro j
 induction j using Nat.strongRecOn with
 | _ j ih=>
  intro hj
  cases j with
  | zero=>rw [gB]; exact List.mem_singleton.mpr rfl
  | succ j=>
   have he:es[j]?=some es[j]:=List.getElem?_eq_getElem (by omega)
   have:=hp j _ he
   rw [J5 hp he]
   exact List.mem_cons_of_mem _ (ih es[j].2.1 (by omega) (by omega))
end
theorem kn {n:Nat} {ms:List Mv} {b:List Int}:∀ (r:List Nat) (s0:List Int),Rch ms b s0->s0.length=n->gos n ms r (fun p=>s0.getD p 0)->∃ s,Rch ms b s/\s.length=n/\∀ p,p<n->s.getD p 0=s0.getD p 0+dsp ms r p
 | [],s0,h,hl,_=>⟨s0,h,hl,fun p _=>by show s0.getD p 0=s0.getD p 0+0; omega⟩
 | k::r,s0,h,hl,⟨h1,h2,h3⟩=>by
  have Fg:mvN ms k∈ms:=by unfold mvN; rw [List.getD_eq_getElem?_getD,List.getElem?_eq_getElem h1]; exact List.getElem_mem _
  have hc:i9 s0 (mvN ms k).1=true:=cov_iff.mpr fun p hp=>h2 p (by omega)
  have hb:∀ p,p<n->(p6 s0 (mvN ms k)).getD p 0=s0.getD p 0+mvD (mvN ms k) p:=fun p hp=>by
   rw [show (p6 s0 (mvN ms k)).getD p 0=_ from L7 (by omega)]
   unfold mvD
   omega
  obtain ⟨s,g1,g2,g3⟩:=kn r (p6 s0 (mvN ms k)) (.go h Fg hc) (by rw [F0]; exact hl) (E8 r _ _ (fun p hp=>by rw [hb p hp]; exact Int.le_refl _) h3)
  refine ⟨s,g1,g2,fun p hp=>?_⟩
  rw [g3 p hp,hb p hp]
  show _=s0.getD p 0+(mvD (mvN ms k) p+dsp ms r p)
  omega
theorem pF {b:List Int} {ms:List Mv} {es:List GEnt} {A kk:Nat} (hK:GK (b.map some) ms es A kk) (hm:∀ m∈ms,m.1.length=b.length) {d:Cap} (hd:d∈stC (b.map some) es) (N:Int):∃ s,Rch ms b s/\s.length=b.length/\∀ p,p<b.length->(∀ v,d.getD p none=some v->s.getD p 0=v)/\(d.getD p none=none->N<=s.getD p 0):=by
 obtain ⟨j,hj,rfl⟩:=gP hd
 have FR:(b.map some).length=b.length:=List.length_map ..
 obtain ⟨N0,r,hg,hr⟩:=hK.rz (by rw [FR]; exact hm) j hj 0 (pZ hK.par j hj) N
 rw [FR] at hg hr
 have h0:sC (b.map some) es 0=b.map some:=rfl
 have hc:∀ p,p<b.length->m5 (sC (b.map some) es 0) N0 p=b.getD p 0:=fun p hp=>by unfold m5; rw [h0,K2 hp]; rfl
 obtain ⟨s,g1,g2,g3⟩:=kn (b:=b) r b .beg rfl (E8 r _ _ (fun p hp=>by rw [hc p hp]; exact Int.le_refl _) hg)
 refine ⟨s,g1,g2,fun p hp=>?_⟩
 obtain ⟨r1,r2⟩:(∀ v,(sC (b.map some) es j).getD p none=some v->m5 (sC (b.map some) es 0) N0 p+dsp ms r p=v)/\((sC (b.map some) es j).getD p none=none->N<=m5 (sC (b.map some) es 0) N0 p+dsp ms r p):=hr p hp
 rw [hc p hp] at r1 r2
 rw [g3 p hp]
 exact ⟨r1,r2⟩
theorem all_congr {l:List Nat} {f g:Nat->Bool} (h:∀ k∈l,f k=g k):l.all f=l.all g:=by
 induction l with
 | nil=>rfl
 | cons a l ih=>rw [List.all_cons,List.all_cons,h a List.mem_cons_self,ih fun k hk=>h k (List.mem_cons_of_mem _ hk)]
theorem ni {t:List Int} {ts:List Cap} (h6:t.length<=6) (hl:∀ d∈ts,d.length=t.length):w6 [lI t,.lst (ts.map tC)]=.ok (.bl (A0 ts (t.map some))):=by
 have fin:Ok (w6 [lI t,.lst (ts.map tC)]) fun v=>v=.bl (A0 ts (t.map some)):=by
  exists rpB,T9
  refine n6 (t7 (fun i ρ=>∃ a,ρ = [.par (lI t),.par (.lst (ts.map tC)),a]/\∀ d∈ts.take i,g7 (t.map some) d=false) ⟨_,rfl,fun d hd=>(nomatch hd)⟩ ?_ ?_)
  ·rintro i u ρ hu ⟨a,rfl,Gg⟩
   rw [List.getElem?_map] at hu
   obtain ⟨d,hd,rfl⟩:=Option.map_eq_some_iff.mp hu
   have Io:=List.mem_of_getElem? hd
   have IW:=hl d Io
   have HR:ts.take (i+1)=ts.take i ++ [d]:=by rw [List.take_succ,hd]; rfl
   have e:∀ N mg me ρ (h:∀ k,k<t.length->∃ ρ1,mg (.int (k:Nat)) (ρ++List.replicate (N-ρ.length) Sl.un)=some ρ1/\me ρ1=.ok (.bl (D6 (some (t.getD k 0)) (d.getD k none)))),m8 N mg yes me ((List.range t.length).map fun k=>W.int (k:Nat)) ρ=.ok (.lst (((List.range t.length).map fun k=>D6 (some (t.getD k 0)) (d.getD k none)).map W.bl)):=fun N mg me ρ h=>by
    rw [n8 (fun k=>W.bl (D6 (some (t.getD k 0)) (d.getD k none))) _ _ ρ (by simp; omega) (fun k hk=>h k (by simpa using hk)),List.map_map]; rfl
   have eg:U0 ((List.range t.length).map fun k=>D6 (some (t.getD k 0)) (d.getD k none))=g7 (t.map some) d:=by
    unfold U0 g7
    rw [List.all_map,List.length_map]
    refine all_congr fun k hk=>?_
    rw [K2 (List.mem_range.mp hk)]; rfl
   refine ⟨_,rfl,?_⟩
   exists rp18
   rw [e]
   ·exists eg
    refine K6 (fun h=>?_) (fun h=>?_)
    ·exists rp18
     have:A0 ts (t.map some)=true:=List.any_eq_true.mpr ⟨d,Io,h⟩
     rw [this]
    ·exists rp18
     refine ⟨_,rfl,fun d' HP=>?_⟩
     rw [HR] at HP
     rcases List.mem_append.mp HP with z | z
     ·exact Gg d' z
     ·rw [List.mem_singleton.mp z]; exact h
   ·intro k hk
    have d1:=atO (cs:=d) (k:=k) (by omega)
    refine ⟨_,rfl,?_⟩
    revert d1
    cases d.getD k none with
    | none=>
     intro d1
     exists d1
     rfl
    | some y=>
     intro d1
     exists d1
     rfl
  ·rintro ρ ⟨a,rfl,Gg⟩
   rw [List.length_map,List.take_length] at Gg
   exists rp18
   have:A0 ts (t.map some)=false:=by
    unfold A0
    rw [List.any_eq_false]
    intro d hd
    rw [Gg d hd]; decide
   rw [this]
 obtain ⟨v,e,rfl⟩:=fin
 exact e
def P8 (s:List Int) (m:Mv) (q:Nat):List Int:=(List.range s.length).map fun k=>if k<q then s.getD k 0-m.1.getD k 0+m.2.getD k 0 else s.getD k 0
theorem Da (s:List Int) (m:Mv):P8 s m 0=s:=Cd s
theorem CZ (s:List Int) (m:Mv):P8 s m s.length=p6 s m:=by
 unfold P8 p6
 refine List.map_congr_left fun k hk=>?_
 rw [if_pos (List.mem_range.mp hk)]
theorem vH (s:List Int) (m:Mv) (q:Nat):(P8 s m q).length=s.length:=by simp [P8]
theorem vG {s:List Int} {m:Mv} {q:Nat} (h:q<s.length):(P8 s m q).set q (s.getD q 0-m.1.getD q 0+m.2.getD q 0)=P8 s m (q+1):=by
 apply List.ext_getElem?
 intro k
 unfold P8
 by_cases e:q=k
 ·subst e
  rw [List.getElem?_set_self (by simp; exact h),List.getElem?_map,List.getElem?_range h]
  simp
 ·rw [List.getElem?_set_ne e,List.getElem?_map,List.getElem?_map]
  by_cases hk:k<s.length
  ·rw [List.getElem?_range hk]
   by_cases h1:k<q
   ·simp [h1,show k<q+1 by omega]
   ·simp [h1,show ¬ k<q+1 by omega]
  ·rw [List.getElem?_eq_none (by simp; omega)]; rfl
theorem wc {n:Nat} {ms:List Mv} {b t rs s':List Int} (h6:n<=6) (hm:∀ m∈ms,okM n m) (hb:b.length=n) (ht:t.length=n) (hr:∀ r∈rs,0<=r/\r<(ms.length:Int)) (hg:O0 ms rs b=some s') (FY:i9 s' t=true):O2 [tI b,tM_ ms,lI rs,lI t]=.ok (.bl true):=by
 have fin:Ok (O2 [tI b,tM_ ms,lI rs,lI t]) fun v=>v=.bl true:=by
  have i1:fIsi [lI rs,.ty "list"]=.ok (.bl true):=rfl
  have i2:∀ z:Int,fIsi [.int z,.ty "int"]=.ok (.bl true):=fun _=>rfl
  have i3:∀ z:Int,fIsi [.int z,.ty "bool"]=.ok (.bl false):=fun _=>rfl
  exists rpB,cv,i1
  refine n6 (t7 (fun i ρ=>∃ (s:List Int) (a c d e:Sl),ρ = [.par (tI b),.par (tM_ ms),.par (lI rs),.par (lI t),.own (s.map W.int),a,c,d,e]/\s.length=n/\O0 ms (rs.drop i) s=some s') ⟨b,_,_,_,_,rfl,hb,hg⟩ ?_ ?_)
  ·rintro i w ρ hw ⟨s,a,c,d,e,rfl,hs,hgo⟩
   obtain ⟨hi,rfl⟩:=zK hw
   have IS:=hr _ (mem_getD (P:=fun x=>x∈rs) (fun x h=>h) hi)
   have hd:rs.drop i=rs.getD i 0::rs.drop (i+1):=by
    rw [List.drop_eq_getElem_cons hi,List.getD_eq_getElem?_getD]; simp [hi]
   rw [hd] at hgo
   generalize rs.getD i 0=r at IS hgo ⊢
   unfold O0 at hgo
   have b1:=Y9 mW (as:=ms) (d:=([],[])) (i:=r) IS
   have hok:=hm (ms.getD r.toNat ([],[])) (by rw [List.getD_eq_getElem?_getD]; simp [show r.toNat<ms.length by omega])
   generalize ms.getD r.toNat ([],[])=m at hgo b1 hok
   cases hc:i9 s m.1 with
   | false=>rw [hc,if_neg Bool.false_ne_true] at hgo; cases hgo
   | true=>
    rw [hc,if_pos rfl] at hgo
    have e1:decide ((0:Int)<=r)=true:=decide_eq_true IS.1
    have e2:decide (r<(ms.length:Int))=true:=decide_eq_true IS.2
    have p1:=hok.1
    have p2:=hok.2
    refine ⟨_,rfl,?_⟩
    exists i2,i3,e1,e2,b1
    refine dg (fun q ρ=>∃ (e:Sl),ρ = [.par (tI b),.par (tM_ ms),.par (lI rs),.par (lI t),.own ((P8 s m q).map W.int),.par (.int r),.par (tI m.1),.par (tI m.2),e]) ⟨e,by rw [Da]⟩ ?_ ?_
    ·rintro q w ρ hw ⟨e,rfl⟩
     obtain ⟨hq,rfl⟩:=aJ hw
     have hq:q<s.length:=by simpa using hq
     have hcq:=cov_iff.mp hc q hq
     have lm:=vH s m q
     have gq:(P8 s m q).getD q 0=s.getD q 0:=by
      rw [show (P8 s m q).getD q 0=_ from L7 hq,if_neg (Nat.lt_irrefl _)]
     have es:=vG (m:=m) hq
     have dl:decide (s.getD q 0<m.1.getD q 0)=false:=decide_eq_false (by omega)
     generalize P8 s m q=M at lm gq es
     refine ⟨_,rfl,?_⟩
     exists gq,dl
     rw [es]
     exact ⟨_,rfl⟩
    ·rintro ρ ⟨e,rfl⟩
     rw [List.length_map,List.length_range,CZ]
     exact ⟨p6 s m,_,_,_,_,rfl,by rw [F0]; exact hs,hgo⟩
  ·rintro ρ ⟨s,a,c,d,e,rfl,hs,hgo⟩
   rw [List.length_map,List.drop_length] at hgo
   have e:s=s':=by unfold O0 at hgo; cases hgo; rfl
   subst e
   have ec:∀ N mg me ρ (h:∀ k,k<s.length->∃ ρ1,mg (.int (k:Nat)) (ρ++List.replicate (N-ρ.length) Sl.un)=some ρ1/\me ρ1=.ok (.bl (decide (t.getD k 0<=s.getD k 0)))),m8 N mg yes me ((List.range s.length).map fun k=>W.int (k:Nat)) ρ=.ok (.lst (((List.range s.length).map fun k=>decide (t.getD k 0<=s.getD k 0)).map W.bl)):=fun N mg me ρ h=>by
    rw [n8 (fun k=>W.bl (decide (t.getD k 0<=s.getD k 0))) _ _ ρ (by simp; omega) (fun k hk=>h k (by simpa using hk)),List.map_map]; rfl
   have eg:U0 ((List.range s.length).map fun k=>decide (t.getD k 0<=s.getD k 0))=true:=by
    unfold U0
    rw [List.all_map]; exact FY
   exists rp18
   rw [ec]
   ·exists eg
   ·intro k hk
    refine ⟨_,rfl,?_⟩
    exists rp18
 obtain ⟨v,e,rfl⟩:=fin
 exact e
theorem nt {ns:List Int} {n:Nat} {at_:Int} {ts:List Cap} (h1:1<=n) (h6:n<=6) (h0:0<=at_) (ha:at_<=100) (ES:0<ts.length) (hl:∀ d∈ts,d.length=n):Ok (Q2 [.scr (ns.map W.int),.int at_,.lst (ts.map tC),.int (n:Int)]) fun w=>∃ t:List Int,w=lI t/\t.length=n:=by
 obtain ⟨_,e0,d0,rfl,h00,h01⟩:=y6 (ns:=ns) (k:=at_) (m:=(ts.length:Int)) (by omega) (by omega) (by omega)
 obtain ⟨_,e6,d6,rfl,h60,h61⟩:=y6 (ns:=ns) (k:=at_+6) (m:=(n:Int)) (by omega) (by omega) (by omega)
 obtain ⟨_,e7,d7,rfl,h70,h71⟩:=y6 (ns:=ns) (k:=at_+7) (m:=5) (by omega) (by omega) (by omega)
 obtain ⟨_,ec,c,rfl⟩:=U9 (ns:=ns) (k:=at_+8)
 have ac:=Y9 tC (as:=ts) (d:=[]) (i:=d0) (by omega)
 have FR:=hl (ts.getD d0.toNat []) (by rw [List.getD_eq_getElem?_getD]; simp [show d0.toNat<ts.length by omega])
 generalize ts.getD d0.toNat []=cap at ac FR
 exists rpB,ay,e0,ac
 refine n6 (t7 (fun i ρ=>∃ (t:List Int) (a:Sl),ρ = [.par (.scr (ns.map W.int)),.par (.int at_),.par (.lst (ts.map tC)),.par (.int (n:Int)),.par (tC cap),.own (t.map W.int),a,.un,.un]/\t.length=i) ⟨[],_,rfl,rfl⟩ ?_ ?_)
 ·rintro i w ρ hw ⟨t,a,rfl,Fp⟩
  obtain ⟨hi,rfl⟩:=aJ hw
  have d1:=atO (cs:=cap) (k:=i) (by omega)
  obtain ⟨_,ed,dd,rfl,_,_⟩:=y6 (ns:=ns) (k:=at_+1+(i:Int)) (m:=5) (by omega) (by omega) (by omega)
  refine ⟨_,rfl,?_⟩
  revert d1
  cases cap.getD i none with
  | none=>
   intro d1
   have d1:L2.atI (cap.map oW) (i:Int)=some .non:=d1
   exists d1,ed
   exact ⟨t ++ [dd],_,rfl,by simp [Fp]⟩
  | some y=>
   intro d1
   have d1:L2.atI (cap.map oW) (i:Int)=some (.int y):=d1
   exists d1
   exact ⟨t ++ [y],_,rfl,by simp [Fp]⟩
 ·rintro ρ ⟨t,a,rfl,Fp⟩
  rw [List.length_map,List.length_range] at Fp
  exists e6,e7
  have cutJ:∀ (ρ0:Rho),ρ0=ρ0:=fun _=>rfl
  refine S8 (fun ρ=>∃ (t:List Int),ρ = [.par (.scr (ns.map W.int)),.par (.int at_),.par (.lst (ts.map tC)),.par (.int (n:Int)),.par (tC cap),.own (t.map W.int),a,.val (.int d6),.val (.int d7)]/\t.length=n) ?_ ?_
  ·refine K6 (fun h=>?_) (fun h=>?_)
   ·exists rp18
    exact ⟨_,rfl,by rw [List.length_set]; exact Fp⟩
   ·exists rp18
    exact ⟨t,rfl,Fp⟩
  rintro ρ ⟨t,rfl,Fp⟩
  exists rp18
  refine S8 (fun ρ=>∃ (t:List Int),ρ = [.par (.scr (ns.map W.int)),.par (.int at_),.par (.lst (ts.map tC)),.par (.int (n:Int)),.par (tC cap),.own (t.map W.int),a,.val (.int d6),.val (.int d7)]/\t.length=n) ?_ ?_
  ·refine K6 (fun h=>?_) (fun h=>?_)
   ·exists rp18
    exact ⟨_,rfl,by rw [List.length_set]; exact Fp⟩
   ·exists rp18
    exact ⟨t,rfl,Fp⟩
  rintro ρ ⟨t,rfl,Fp⟩
  exists rp18
  refine S8 (fun ρ=>∃ (t:List Int),ρ = [.par (.scr (ns.map W.int)),.par (.int at_),.par (.lst (ts.map tC)),.par (.int (n:Int)),.par (tC cap),.own (t.map W.int),a,.val (.int d6),.val (.int d7)]/\t.length=n) ?_ ?_
  ·refine K6 (fun h=>?_) (fun h=>?_)
   ·exists ec
    exact ⟨_,rfl,by rw [List.length_set]; exact Fp⟩
   ·exists rp18
    exact ⟨t,rfl,Fp⟩
  rintro ρ ⟨t,rfl,Fp⟩
  exists rp18
  refine S8 (fun ρ=>∃ (t:List Int),ρ = [.par (.scr (ns.map W.int)),.par (.int at_),.par (.lst (ts.map tC)),.par (.int (n:Int)),.par (tC cap),.own (t.map W.int),a,.val (.int d6),.val (.int d7)]/\t.length=n) ?_ ?_
  ·refine K6 (fun h=>?_) (fun h=>?_)
   ·exists rp18
    refine zd ?_
    refine vq (as:=List.range n) (s:=fun k=>W.int (k:Nat)) (fun _ _=>True) (by simp; omega) ?_ ?_
    ·intro k hk
     have hk:k<n:=by simpa using hk
     obtain ⟨_,ed,dd,rfl,_,_⟩:=y6 (ns:=ns) (k:=at_+1+(k:Int)) (m:=7) (by omega) (by omega) (by omega)
     refine ⟨_,rfl,?_⟩
     exists ed
     exact ⟨_,rfl,_,rfl⟩
    intro t2 IR
    replace IR:=Paired.length IR
    rw [List.length_range] at IR
    exact ⟨t2,rfl,IR.symm⟩
   ·exists rp18
    exact ⟨t,rfl,Fp⟩
  rintro ρ ⟨t,rfl,Fp⟩
  exists rp18
  exact ⟨t,rfl,Fp⟩
theorem uL {b:List Int} {ms:List Mv} {es:List GEnt} {ts:List Cap} {s:List Int} (hK:GK (b.map some) ms es (es.length+1) 0) (GI:∀ m∈ms,okN b.length m) (q1:∀ t∈ts,t∈stC (b.map some) es) (q4:∀ d∈stC (b.map some) es,∃ t∈ts,g7 d t=true) (h:Rch ms b s):∃ t∈ts,g7 (s.map some) t=true:=by
 induction h with
 | beg=>exact q4 _ List.mem_cons_self
 | @go s m r hm hc ih=>exact pq (st:=s) hK (by rw [List.length_map]; exact GI) q1 q4 (by rw [List.length_map]; exact r.len) hm hc ih
theorem wH {s t:List Int} {d:Cap} (hl:t.length=s.length) (hd:d.length=s.length) (hc:i9 s t=true) (hu:g7 (s.map some) d=true):g7 (t.map some) d=true:=by
 refine E5 (b:=s.map some) (by simp [hl]) (by simp [hd]) (bw fun k hk=>?_) hu
 rw [List.length_map] at hk
 rw [K2 hk,K2 (by omega)]
 exact decide_eq_true (cov_iff.mp hc k (by omega))
theorem iX {ms:List Mv} {b:List Int}:∀ (rs s0 s':List Int),(∀ r∈rs,0<=r/\r<(ms.length:Int))->Rch ms b s0->O0 ms rs s0=some s'->Rch ms b s'
 | [],s0,s',_,h,e=>by unfold O0 at e; cases e; exact h
 | r::rs,s0,s',hr,h,e=>by
  unfold O0 at e
  have hr0:=hr r List.mem_cons_self
  have Fg:ms.getD r.toNat ([],[])∈ms:=by rw [List.getD_eq_getElem?_getD]; simp [show r.toNat<ms.length by omega]
  cases hc:i9 s0 (ms.getD r.toNat ([],[])).1 with
  | false=>rw [hc,if_neg Bool.false_ne_true] at e; cases e
  | true=>
   rw [hc,if_pos rfl] at e
   exact iX rs _ s' (fun x hx=>hr x (List.mem_cons_of_mem _ hx)) (.go h Fg hc) e
theorem law_pure (ns:List Int) (h:ns.length<=63):gu [.scr (ns.map W.int)]=.ok (.bl true):=by
 have fin:Ok (gu [.scr (ns.map W.int)]) fun v=>v=.bl true:=by
  obtain ⟨_,e0,b,ms,rfl,Iu,hb4,Iq,hm,Fx⟩:=rZ (ns:=ns)
  obtain ⟨w,u,eg,ec,hw⟩:=sA (most:=30) Iu (by omega) hm (by omega) (by omega) (by omega)
  have ec:bO [.tup [tI b,tM_ ms],.int 30]=.ok u:=ec
  rcases hw with ⟨rfl,rfl⟩ | ⟨es,ts,rfl,hes,hK,rfl,q1,q2,q3,q4⟩
  ·exists rpB,lR,e0,ec
   exact ⟨_,rfl,rfl⟩
  have FR:(b.map some).length=b.length:=List.length_map ..
  have hlen:∀ d∈ts,d.length=b.length:=fun d hd=>by rw [gO hK d (q1 d hd)]; exact FR
  have ES:0<ts.length:=by
   obtain ⟨t,ht,_⟩:=q4 _ (List.mem_cons_self (a:=b.map some) (l:=es.map (·.1)))
   exact List.length_pos_of_mem ht
  have hmM:∀ m∈ms,okM b.length m:=fun m h=>⟨(hm m h).1,(hm m h).2.1⟩
  have i0:∀ ws:List W,fIsi [.lst ws,.ty "list"]=.ok (.bl true):=fun _=>rfl
  have dn:decide ((ts.length:Int)=0)=false:=decide_eq_false (by omega)
  obtain ⟨tw,IP⟩:∃ tw,tw=ts.map tC:=⟨_,rfl⟩
  have Fp:tw.length=ts.length:=by rw [IP,List.length_map]
  rw [<- IP] at ec
  exists rpB,lR,e0,ec,i0,Fp,dn
  refine n6 (t7 (fun i ρ=>∃ a c d:Sl,ρ = [.par (.scr (ns.map W.int)),.par (tI b),.par (tM_ ms),.own tw,a,c,d]) ⟨_,_,_,rfl⟩ ?_ ?_)
  ·rintro i w ρ hw ⟨a,c,d,rfl⟩
   obtain ⟨at_,rfl,Iy,Ix⟩:∃ at_:Int,w=.int at_/\0<=at_/\at_<=100:=by
    match i,hw with
    | 0,hw=>cases hw; exact ⟨36,rfl,by omega,by omega⟩
    | 1,hw=>cases hw; exact ⟨50,rfl,by omega,by omega⟩
    | i+2,hw=>simp at hw
   obtain ⟨_,kt,t,rfl,Gw⟩:=nt (ns:=ns) (n:=b.length) (at_:=at_) (ts:=ts) Iu (by omega) Iy Ix ES hlen
   rw [<- IP] at kt
   obtain ⟨_,ed,d9,rfl,h90,h91⟩:=y6 (ns:=ns) (k:=at_+9) (m:=9) (by omega) (by omega) (by omega)
   obtain ⟨most,GU⟩:∃ m:Nat,4+d9=(m:Int):=⟨(4+d9).toNat,by omega⟩
   obtain ⟨w0,kc,pc⟩:=sD (b:=b) (t:=t) (most:=most) Iu (by omega) hmM (by omega) rfl Gw (by omega)
   have ku:=ni (t:=t) (ts:=ts) (by omega) fun d hd=>by rw [hlen d hd,Gw]
   rw [<- IP] at ku
   have i1:∀ x y:W,fIsi [.tup [x,y],.ty "tuple"]=.ok (.bl true):=fun _ _=>rfl
   have JV:decide (((2:Nat):Int)=2)=true:=rfl
   have b0:∀ x y:W,L2.atI [x,y] 0=some x:=fun _ _=>rfl
   have b1:∀ x y:W,L2.atI [x,y] 1=some y:=fun _ _=>rfl
   have s1:p5 false (W.str "row") (W.str "row")=.ok (.bl true):=rfl
   have s2:p5 false (W.str "wall") (W.str "row")=.ok (.bl false):=rfl
   have s3:p5 false (W.str "wall") (W.str "wall")=.ok (.bl true):=rfl
   have s4:p5 false (W.str "open") (W.str "row")=.ok (.bl false):=rfl
   have s5:p5 false (W.str "open") (W.str "wall")=.ok (.bl false):=rfl
   have s6:p5 true (W.str "open") (W.str "open")=.ok (.bl false):=rfl
   refine ⟨_,rfl,?_⟩
   rcases px (n:=b.length) rfl Gw pc with ⟨j,rfl,hl,hmin⟩ | ⟨L,rfl,ho⟩ | ⟨z,rfl,_⟩
   ·obtain ⟨⟨s',hg,hs',FY⟩,hr⟩:=ig Gw j b rfl hl hmin
    have kg:=wc (show b.length<=6 by omega) hmM rfl Gw hr hg FY
    have hR:=iX _ b s' hr .beg hg
    obtain ⟨d,hd,hu⟩:=uL hK hm q1 q4 hR
    have Hz:A0 ts (t.map some)=true:=List.any_eq_true.mpr ⟨d,hd,wH (by omega) (by rw [hlen d hd]; omega) FY hu⟩
    rw [Hz] at ku
    generalize G9 ms t j b=rs at kc kg
    exists kt,ed,GU,kc,i1,JV,b0,b1,s1,ku,kg
    exact ⟨_,_,_,rfl⟩
   ·have Hz:A0 ts (t.map some)=false:=by
     unfold A0
     rw [List.any_eq_false]
     intro d hd hu
     obtain ⟨N,_,hN⟩:=bnd (fun p=>t.getD p 0) b.length
     obtain ⟨s,g1,g2,g3⟩:=pF hK (fun m h=>(hm m h).1) (q1 d hd) N
     have hc:i9 s t=true:=cov_iff.mpr fun p hp=>by
      have IV:p<b.length:=by omega
      obtain ⟨r1,r2⟩:=g3 p IV
      have Gv:=gF hu (k:=p) (by rw [List.length_map]; omega)
      rw [K2 (by omega)] at Gv
      cases q:d.getD p none with
      | none=>
       have:=r2 q
       have:t.getD p 0<=N:=hN p IV
       omega
      | some v=>
       rw [q] at Gv
       have Gv:t.getD p 0<=v:=of_decide_eq_true Gv
       rw [r1 v q]; exact Gv
     rw [ho s g1] at hc; cases hc
    rw [Hz] at ku
    exists kt,ed,GU,kc,i1,JV,b0,b1,s2,s3,ku
    exact ⟨_,_,_,rfl⟩
   ·exists kt,ed,GU,kc,i1,JV,b0,b1,s4,s5,s6
    exact ⟨_,_,_,rfl⟩
  ·rintro ρ ⟨a,c,d,rfl⟩
   exists rp18
 obtain ⟨v,e,rfl⟩:=fin
 exact e
end K47
set_option maxHeartbeats 4000000
open PySem L2 TP
namespace K47
def p8 {K:Frag} {d:Mode}:=(bH (K:=K) (d:=d) (g:=o7) (fun _ _=>rfl) (fun _ _ _=>.int))
def gA {K:Frag} {d:Mode}:=(bH (K:=K) (d:=d) (g:=gSub) (fun _ _=>rfl) (fun _ _ _=>.int))
def xLt {K:Frag} {d:Mode}:=(bH (K:=K) (d:=d) (g:=gLt) (fun _ _=>rfl) (fun _ _ _=>.bl))
def xLe {K:Frag} {d:Mode}:=(bH (K:=K) (d:=d) (g:=gLe) (fun _ _=>rfl) (fun _ _ _=>.bl))
def xGt {K:Frag} {d:Mode}:=(bH (K:=K) (d:=d) (g:=gGt) (fun _ _=>rfl) (fun _ _ _=>.bl))
local macro_rules | `(tactic| trivial)=>`(tactic| first | exact Or.inl rfl | exact Or.inr rfl | exact Or.inr (Or.inl rfl) | exact Or.inr (Or.inr rfl) | assumption | exact ⟨rfl,rfl,rfl,by decide +kernel,rfl,by decide +kernel,by decide +kernel⟩ | exact Room.mono (by assumption) (by decide) | exact iB _ | rfl | exact ⟨rfl,by decide +kernel,by decide +kernel,by decide +kernel,by decide +kernel,by decide,by decide +kernel,by decide +kernel⟩)
def top (i:Nat):Stmt:=PySem.Challenge.pw_tokenmoor_k47_whole_covered_or_under_no.main.body.getD i (.Pass ⟨0,0,0,0⟩)
abbrev hxS (s:String) (t:Nat):Value:=.str (Str.ofString s) t
abbrev hxI (i:Int):Value:=.int i 0
abbrev hxO (c:String) (d:Data):Obj:=⟨.type c,none,d,#[]⟩
abbrev hxE (P:Params) (s:String) (t:Nat) (v:Value):DictEntry:=⟨PyData.keyHash P (Str.ofString s),.str (Str.ofString s) t,v⟩
abbrev hxF (n q:String) (st:Stmt) (dV kV doc pm:Value) (an:Option Addr) (cd ct:Value):Data:=.func (PySem.W.fnOf (Str.ofString n) (Str.ofString q) (M7 st) (B9 st) (b7 st) dV kV doc pm an cd ct)
abbrev hxG (n:String) (i:Nat) (pm:Value) (c:Nat):Obj:=hxO "function" (hxF n n (top i) .none .none .none pm none (.ref c) .none)
abbrev hxD (n:String) (t:Nat) (l a:Int) (r8:Nat) (r11:Nat) (v13 v14:Value) (r15:Nat) (x16:Int) (t18:Nat):Data:=.fields #[.str (Str.ofString n) t,.str (Str.ofString n) (t+1),.str (Str.ofString "/claim/cut.py") (t+2),hxI l,hxI a,hxI 0,hxI 0,hxI 3,.ref r8,.bool true,hxI 181,.ref r11,.none,v13,v14,.ref r15,hxI x16,hxI l,.str (Str.ofString "/claim/cut.py") t18]
abbrev p4:Value:=hxS "law_tokenmoor_k47_whole_covered_or_under_no" 442
abbrev Q0:Value:=hxS "tokenmoor.backs" 399
abbrev D8:Value:=hxS "tokenmoor.bases" 353
abbrev m9:Value:=hxS "tokenmoor.crowns" 264
abbrev P9:Value:=hxS "tokenmoor.moors" 232
def oS:Params->Frag:=fun P=>
 (nat_lit 2,⟨.none,none,(.dict #[] 0),#[]⟩) ::
 (nat_lit 3,hxO "dict" (.dict #[hxE P "__name__" 165 (hxS "law_tokenmoor_k47_whole_covered_or_under_no" 442),hxE P "__doc__" 166 .none,hxE P "__package__" 167 .none,hxE P "__loader__" 168 (.builtin "__main__.__loader__#opaque"),hxE P "__spec__" 169 .none,hxE P "__annotations__" 170 (.ref 6),hxE P "__builtins__" 171 (.ref 4),hxE P "__file__" 173 (hxS "/claim/cut.py" 172),hxE P "__cached__" 174 .none,hxE P "MoorError" 206 (.ref 24),hxE P "Stuck" 231 (.ref 44),hxE P "covers" 243 (.ref 53),hxE P "able" 251 (.ref 60),hxE P "after" 257 (.ref 65),hxE P "change" 263 (.ref 70),hxE P "under" 275 (.ref 77),hxE P "under_any" 284 (.ref 84),hxE P "cap_able" 292 (.ref 91),hxE P "cap_after" 298 (.ref 96),hxE P "raised" 304 (.ref 101),hxE P "tops" 313 (.ref 108),hxE P "sort_key" 319 (.ref 113),hxE P "growth" 330 (.ref 120),hxE P "grow" 336 (.ref 125),hxE P "way_back" 346 (.ref 132),hxE P "crown" 352 (.ref 137),hxE P "least" 363 (.ref 144),hxE P "lifted" 372 (.ref 151),hxE P "source" 378 (.ref 156),hxE P "sources" 384 (.ref 161),hxE P "step_back" 392 (.ref 168),hxE P "is_shut" 398 (.ref 173),hxE P "cover" 411 (.ref 180),hxE P "ending" 423 (.ref 187),hxE P "row_inward" 435 (.ref 194),hxE P "moves_into" 441 (.ref 199),hxE P "_law_cell_at" 451 (.ref 206),hxE P "_law_draw" 460 (.ref 213),hxE P "_law_numbers" 474 (.ref 220),hxE P "_law_scale" 482 (.ref 227),hxE P "_law_moor" 497 (.ref 234),hxE P "_law_target" 503 (.ref 239),hxE P "_law_under_one" 509 (.ref 244),hxE P "_law_goes" 515 (.ref 249),hxE P "law" 528 (.ref 256)] 45)) ::
 (nat_lit 15,hxO "tuple" (.seq #[(.type "ValueError")] 0)) ::
 (nat_lit 22,hxO "tuple" (.seq #[] 0)) ::
 (nat_lit 23,hxO "dict" (.dict #[hxE P "__module__" 196 (hxS "tokenmoor.errors" 187),hxE P "__firstlineno__" 200 (.int 2 199),hxE P "__static_attributes__" 201 (.ref 22),hxE P "__weakref__" 203 (.ref 25),hxE P "__doc__" 204 .none] 3)) ::
 (nat_lit 25,hxO "getset_descriptor" (.fields #[(hxS "__weakref__" 202),(.ref 24),(.builtin "ExceptionGroup.__weakref__"),.none])) ::
 (nat_lit 28,hxO "tuple" (.seq #[(.ref 24)] 0)) ::
 (nat_lit 40,hxO "code" (.fields #[(hxS "__init__" 219),(hxS "Stuck.__init__" 220),(hxS "/claim/cut.py" 221),(hxI 6),(hxI 2),(hxI 0),(hxI 0),(hxI 3),(.ref 35),(.bool true),(hxI 181),(.ref 36),.none,(.ref 37),(.ref 38),(.ref 39),(hxI 224),(hxI 6),(hxS "/claim/cut.py" 225)])) ::
 (nat_lit 42,hxO "tuple" (.seq #[(hxS "at" 227)] 0)) ::
 (nat_lit 43,hxO "dict" (.dict #[hxE P "__module__" 214 (hxS "tokenmoor.errors" 187),hxE P "__firstlineno__" 218 (.int 4 217),hxE P "__init__" 226 (.ref 41),hxE P "__static_attributes__" 228 (.ref 42),hxE P "__doc__" 229 .none] 2)) ::
 (nat_lit 52,hxO "code" (hxD "covers" 234 9 2 47 48 (.ref 49) (.ref 50) 51 241 242)) ::
 (nat_lit 53,hxG "covers" 4 P9 52) ::
 (nat_lit 59,hxO "code" (hxD "able" 244 14 2 54 55 (.ref 56) (.ref 57) 58 249 250)) ::
 (nat_lit 60,hxG "able" 5 P9 59) ::
 (nat_lit 64,hxO "code" (hxD "after" 252 16 2 61 62 .none .none 63 255 256)) ::
 (nat_lit 65,hxG "after" 6 P9 64) ::
 (nat_lit 69,hxO "code" (hxD "change" 258 20 1 66 67 .none .none 68 261 262)) ::
 (nat_lit 70,hxG "change" 7 P9 69) ::
 (nat_lit 76,hxO "code" (hxD "under" 266 23 2 71 72 (.ref 73) (.ref 74) 75 273 274)) ::
 (nat_lit 77,hxG "under" 9 m9 76) ::
 (nat_lit 83,hxO "code" (hxD "under_any" 276 28 2 78 79 (.ref 80) (.ref 81) 82 282 283)) ::
 (nat_lit 84,hxG "under_any" 10 m9 83) ::
 (nat_lit 90,hxO "code" (hxD "cap_able" 285 33 2 85 86 (.ref 87) (.ref 88) 89 290 291)) ::
 (nat_lit 91,hxG "cap_able" 11 m9 90) ::
 (nat_lit 95,hxO "code" (hxD "cap_after" 293 35 2 92 93 .none .none 94 296 297)) ::
 (nat_lit 96,hxG "cap_after" 12 m9 95) ::
 (nat_lit 100,hxO "code" (hxD "raised" 299 39 2 97 98 .none .none 99 302 303)) ::
 (nat_lit 101,hxG "raised" 13 m9 100) ::
 (nat_lit 107,hxO "code" (hxD "tops" 305 43 1 102 103 (.ref 104) (.ref 105) 106 311 312)) ::
 (nat_lit 108,hxG "tops" 14 m9 107) ::
 (nat_lit 112,hxO "code" (hxD "sort_key" 314 50 1 109 110 .none .none 111 317 318)) ::
 (nat_lit 113,hxG "sort_key" 15 m9 112) ::
 (nat_lit 119,hxO "code" (hxD "growth" 320 52 2 114 115 (.ref 116) (.ref 117) 118 328 329)) ::
 (nat_lit 120,hxG "growth" 16 m9 119) ::
 (nat_lit 124,hxO "code" (hxD "grow" 331 62 4 121 122 .none .none 123 334 335)) ::
 (nat_lit 125,hxG "grow" 17 m9 124) ::
 (nat_lit 131,hxO "code" (hxD "way_back" 337 71 2 126 127 (.ref 128) (.ref 129) 130 344 345)) ::
 (nat_lit 132,hxG "way_back" 18 m9 131) ::
 (nat_lit 136,hxO "code" (hxD "crown" 347 78 2 133 134 .none .none 135 350 351)) ::
 (nat_lit 137,hxG "crown" 19 m9 136) ::
 (nat_lit 143,hxO "code" (hxD "least" 355 84 1 138 139 (.ref 140) (.ref 141) 142 361 362)) ::
 (nat_lit 144,hxG "least" 21 D8 143) ::
 (nat_lit 150,hxO "code" (hxD "lifted" 364 90 2 145 146 (.ref 147) (.ref 148) 149 370 371)) ::
 (nat_lit 151,hxG "lifted" 22 D8 150) ::
 (nat_lit 155,hxO "code" (hxD "source" 373 95 2 152 153 .none .none 154 376 377)) ::
 (nat_lit 156,hxG "source" 23 D8 155) ::
 (nat_lit 160,hxO "code" (hxD "sources" 379 97 2 157 158 .none .none 159 382 383)) ::
 (nat_lit 161,hxG "sources" 24 D8 160) ::
 (nat_lit 167,hxO "code" (hxD "step_back" 385 102 2 162 163 (.ref 164) (.ref 165) 166 390 391)) ::
 (nat_lit 168,hxG "step_back" 25 D8 167) ::
 (nat_lit 172,hxO "code" (hxD "is_shut" 393 104 2 169 170 .none .none 171 396 397)) ::
 (nat_lit 173,hxG "is_shut" 26 D8 172) ::
 (nat_lit 179,hxO "code" (hxD "cover" 401 107 3 174 175 (.ref 176) (.ref 177) 178 409 410)) ::
 (nat_lit 180,hxG "cover" 28 Q0 179) ::
 (nat_lit 186,hxO "code" (hxD "ending" 412 115 4 181 182 (.ref 183) (.ref 184) 185 421 422)) ::
 (nat_lit 187,hxG "ending" 29 Q0 186) ::
 (nat_lit 193,hxO "code" (hxD "row_inward" 424 125 2 188 189 (.ref 190) (.ref 191) 192 433 434)) ::
 (nat_lit 194,hxG "row_inward" 30 Q0 193) ::
 (nat_lit 198,hxO "code" (hxD "moves_into" 436 133 3 195 196 .none .none 197 439 440)) ::
 (nat_lit 199,hxG "moves_into" 31 Q0 198) ::
 (nat_lit 205,hxO "code" (hxD "_law_cell_at" 444 136 2 200 201 (.ref 202) (.ref 203) 204 449 450)) ::
 (nat_lit 206,hxG "_law_cell_at" 33 p4 205) ::
 (nat_lit 212,hxO "code" (hxD "_law_draw" 452 140 3 207 208 (.ref 209) (.ref 210) 211 458 459)) ::
 (nat_lit 213,hxG "_law_draw" 34 p4 212) ::
 (nat_lit 219,hxO "code" (hxD "_law_numbers" 461 142 5 214 215 (.ref 216) (.ref 217) 218 472 473)) ::
 (nat_lit 220,hxG "_law_numbers" 35 p4 219) ::
 (nat_lit 226,hxO "code" (hxD "_law_scale" 475 152 1 221 222 (.ref 223) (.ref 224) 225 480 481)) ::
 (nat_lit 227,hxG "_law_scale" 36 p4 226) ::
 (nat_lit 233,hxO "code" (hxD "_law_moor" 483 159 1 228 229 (.ref 230) (.ref 231) 232 495 496)) ::
 (nat_lit 234,hxG "_law_moor" 37 p4 233) ::
 (nat_lit 238,hxO "code" (hxD "_law_target" 498 172 4 235 236 .none .none 237 501 502)) ::
 (nat_lit 239,hxG "_law_target" 38 p4 238) ::
 (nat_lit 243,hxO "code" (hxD "_law_under_one" 504 191 2 240 241 .none .none 242 507 508)) ::
 (nat_lit 244,hxG "_law_under_one" 39 p4 243) ::
 (nat_lit 248,hxO "code" (hxD "_law_goes" 510 196 4 245 246 .none .none 247 513 514)) ::
 (nat_lit 249,hxG "_law_goes" 40 p4 248) ::
 (nat_lit 255,hxO "code" (hxD "law" 516 209 1 250 251 (.ref 252) (.ref 253) 254 526 527)) ::
 (nat_lit 256,hxG "law" 41 p4 255) ::
 []
abbrev hk (w:World):Frag:=oS w.params
structure Blt (mg:Str->Option Value):Prop where
 all_:mg "all" = none
 bool_:mg "bool" = none
 enumerate_:mg "enumerate" = none
 int_:mg "int" = none
 isinstance_:mg "isinstance" = none
 len_:mg "len" = none
 list_:mg "list" = none
 max_:mg "max" = none
 range_:mg "range" = none
 reversed_:mg "reversed" = none
 sorted_:mg "sorted" = none
 tuple_:mg "tuple" = none
 zip_:mg "zip" = none
def En (w:World) (mg:Str->Option Value):Prop:=∃ h:Heap,(hk w).In h/\h.Ns mainGlobals mg
theorem bn {w:World} {mg:Str->Option Value} (Y:En w mg) {x:Str} (e:PySem.W.nsIn (hk w) mainGlobals x=some none):mg x=none:=Y.elim fun _ q=>PySem.W.mg_none_of q.1 q.2 e
theorem bl {w:World} {mg:Str->Option Value} (Y:En w mg):Blt mg:=⟨bn Y (by kernel_rfl),bn Y (by kernel_rfl),bn Y (by kernel_rfl),bn Y (by kernel_rfl),bn Y (by kernel_rfl),bn Y (by kernel_rfl),bn Y (by kernel_rfl),bn Y (by kernel_rfl),bn Y (by kernel_rfl),bn Y (by kernel_rfl),bn Y (by kernel_rfl),bn Y (by kernel_rfl),bn Y (by kernel_rfl)⟩
abbrev FD (nm:String) (i:Nat) (pm:Value) (c:Nat):FuncData:=PySem.W.fnOf nm nm (M7 (top i)) (B9 (top i)) (b7 (top i)) .none .none .none pm none (.ref c) .none
theorem dk {w:World} {mg:Str->Option Value} (Y:En w mg) {nm:String} {i c:Nat} {f:Addr} {pm:Value} {ps:List Str}
  (e:(PySem.W.nsIn (hk w) mainGlobals nm,(hk w).lookup f,PySem.W.codeIn (hk w) (.ref c) nm,PySem.W.keepIn (hk w) (.ref f))=(some (some (.ref f)),some (hxG nm i pm c),true,true))
  (hb:∀ (kV doc pm:Value) (an:Option Addr) (EW ct:Value) (us:List Value),us.length=ps.length->bindArgs (PySem.W.fnOf nm nm (M7 (top i)) (B9 (top i)) (b7 (top i)) .none kV doc pm an EW ct) ⟨us,[]⟩=pure (ps.zip us)):Def (hk w) mg nm (top i) ps f (FD nm i pm c):=by
 obtain ⟨h,X,G⟩:=Y
 injection e with a e
 injection e with l e
 injection e with c k
 have F:=AL (st:=top i) l c k
 exact ⟨F,PySem.W.mg_of X G a,F.binds hb⟩
theorem okF {P:Program} {w:World} {K:Frag} {mg:Str->Option Value} {base:Heap} {x:Str} {st:Stmt} {ps:List Str} {f:Addr} {fd:FuncData} (D:Def K mg x st ps f fd) {N:List Str} {k n l:Nat} {d:Mode} {m:Rho->R Fl} (S:f6 N ps (b7 st)) (hd:d=.F\/d=.V) (hn:ps.length=n) (hl:N.length=l) (b:∀ {EW:Value} {A:Around} {outer:List Env} {s:Shared} {H:Hp} {E:XK},Room k (A.deeper (PyProof.Rows.envOfC x (b7 st) s.heap.objs.size f EW))->PSs (aq CX0 P w K mg base N x (b7 st) f EW A outer s H E).nox (B9 st) (tSt K (fun _ _=>False) d m)):FnOk P w K mg base CX0 (k+1) f fd ps (spM K n d (g8 n l m)):=by
 subst hn hl
 exact D.F.ok S (fun _ _ _ _ h=>h.1) fun EW A outer s H vs Q E hr h=>⟨_,b hr,BV hd h⟩
theorem okI {P:Program} {w:World} {K:Frag} {mg:Str->Option Value} {base:Heap} {x:Str} {st:Stmt} {ps:List Str} {f:Addr} {fd:FuncData} (D:Def K mg x st ps f fd) {N:List Str} {k n l:Nat} {m:Addr->Rho->R Fl} (S:f6 N ps (b7 st)) (hn:ps.length=n) (hl:N.length=l) (b:∀ (p:Addr) {EW:Value} {A:Around} {outer:List Env} {s:Shared} {H:Hp} {E:XK},Room k (A.deeper (PyProof.Rows.envOfC x (b7 st) s.heap.objs.size f EW))->PSs (aq CX0 P w K mg base N x (b7 st) f EW A outer s H E).nox (B9 st) (tStI K (fun _ _=>False) p (m p))):FnOk P w K mg base CX0 (k+1) f fd ps (dY K n (D0 n l m)):=by
 subst hn hl
 exact D.F.ok S (fun _ _ _ _ h=>h.1) fun EW A outer s H vs Q E hr h=>(wS h).elim fun p q=>⟨_,b p hr,q⟩
theorem okX {P:Program} {w:World} {K:Frag} {mg:Str->Option Value} {base:Heap} {x:Str} {st:Stmt} {ps:List Str} {f:Addr} {fd:FuncData} (D:Def K mg x st ps f fd) {N:List Str} {k n l:Nat} {m:Rho->R Fl} (S:f6 N ps (b7 st))  (hn:ps.length=n) (hl:N.length=l) (b:∀ {EW:Value} {A:Around} {outer:List Env} {s:Shared} {H:Hp} {E:XK},Room k (A.deeper (PyProof.Rows.envOfC x (b7 st) s.heap.objs.size f EW))->PSs (aq CX0 P w K mg base N x (b7 st) f EW A outer s H E).nox (B9 st) (tSt K (fun _ _=>False) .V m)):FnOk P w K mg base CX0 (k+1) f fd ps (spX K n (G8 n l m)):=by
 subst hn hl
 exact D.F.ok S (fun _ _ _ _ h=>h.1) fun EW A outer s H vs Q E hr h=>⟨_,b hr,wR h⟩
theorem us0 {P:List Value->Prop} (h:P []):∀ us:List Value,us.length=0->P us:=fun us e=>by
 rw [List.length_eq_zero_iff.mp e]; exact h
theorem us1 {P:List Value->Prop} (h:∀ a0,P [a0]):∀ us:List Value,us.length=1->P us:=fun us e=>by
 cases us with
 | nil=>cases e
 | cons a us=>exact us0 (P:=fun us=>P (a::us)) (h a) us (Nat.succ.inj e)
theorem us2 {P:List Value->Prop} (h:∀ a0 a1,P [a0,a1]):∀ us:List Value,us.length=2->P us:=fun us e=>by
 cases us with
 | nil=>cases e
 | cons a us=>exact us1 (P:=fun us=>P (a::us)) (fun a1=>h a a1) us (Nat.succ.inj e)
theorem us3 {P:List Value->Prop} (h:∀ a0 a1 a2,P [a0,a1,a2]):∀ us:List Value,us.length=3->P us:=fun us e=>by
 cases us with
 | nil=>cases e
 | cons a us=>exact us2 (P:=fun us=>P (a::us)) (fun a1 a2=>h a a1 a2) us (Nat.succ.inj e)
theorem us4 {P:List Value->Prop} (h:∀ a0 a1 a2 a3,P [a0,a1,a2,a3]):∀ us:List Value,us.length=4->P us:=fun us e=>by
 cases us with
 | nil=>cases e
 | cons a us=>exact us3 (P:=fun us=>P (a::us)) (fun a1 a2 a3=>h a a1 a2 a3) us (Nat.succ.inj e)
theorem us5 {P:List Value->Prop} (h:∀ a0 a1 a2 a3 a4,P [a0,a1,a2,a3,a4]):∀ us:List Value,us.length=5->P us:=fun us e=>by
 cases us with
 | nil=>cases e
 | cons a us=>exact us4 (P:=fun us=>P (a::us)) (fun a1 a2 a3 a4=>h a a1 a2 a3 a4) us (Nat.succ.inj e)
theorem cG:f6 ["stand", "other", "number", "wanted"] ["stand", "other"] (b7 (top 4)):=by trivial
theorem xQ:f6 ["stand", "move"] ["stand", "move"] (b7 (top 5)):=by trivial
theorem qA:f6 ["move"] ["move"] (b7 (top 7)):=by trivial
theorem uD:f6 ["stand", "move"] ["stand", "move"] (b7 (top 6)):=by trivial
theorem dZ:f6 ["cap", "other", "number", "bound"] ["cap", "other"] (b7 (top 9)):=by trivial
theorem ca:f6 ["cap", "caps", "other"] ["cap", "caps"] (b7 (top 10)):=by trivial
theorem lh:f6 ["cap", "move"] ["cap", "move"] (b7 (top 11)):=by trivial
theorem ju:f6 ["cap", "move"] ["cap", "move"] (b7 (top 12)):=by trivial
theorem qz:f6 ["cap", "elder"] ["cap", "elder"] (b7 (top 13)):=by trivial
theorem lg:f6 ["cap"] ["cap"] (b7 (top 15)):=by trivial
theorem gX:f6 ["caps", "found", "cap"] ["caps"] (b7 (top 14)):=by trivial
theorem Q6:f6 ["tree", "number", "numbers", "at"] ["tree", "number"] (b7 (top 18)):=by trivial
theorem aH:f6 ["moor", "tree", "at", "number", "move", "cap", "elder"] ["moor", "tree", "at", "number"] (b7 (top 17)):=by trivial
theorem S5:f6 ["moor", "most", "tree", "at", "number"] ["moor", "most"] (b7 (top 16)):=by trivial
theorem jK:f6 ["moor", "most", "tree"] ["moor", "most"] (b7 (top 19)):=by trivial
theorem gZ:f6 ["stand", "basis", "low"] ["stand", "basis"] (b7 (top 22)):=by trivial
theorem ef:f6 ["stands", "found", "stand"] ["stands"] (b7 (top 21)):=by trivial
theorem qy:f6 ["stand", "move"] ["stand", "move"] (b7 (top 23)):=by trivial
theorem aG:f6 ["moves", "basis", "found", "move"] ["moves", "basis"] (b7 (top 24)):=by trivial
theorem jt:f6 ["moves", "basis"] ["moves", "basis"] (b7 (top 25)):=by trivial
theorem nM:f6 ["moves", "basis"] ["moves", "basis"] (b7 (top 26)):=by trivial
theorem cF:f6 ["moves", "rings", "most", "word", "ring", "number"] ["moves", "rings", "most", "word"] (b7 (top 29)):=by trivial
theorem gY:f6 ["stand", "moves", "ring"] ["stand", "moves", "ring"] (b7 (top 31)):=by trivial
theorem B4:f6 ["moor", "rings", "row", "here", "ring", "number"] ["moor", "rings"] (b7 (top 30)):=by trivial
theorem eh:f6 ["moor", "target", "most", "rings", "told"] ["moor", "target", "most"] (b7 (top 28)):=by trivial
theorem eA:f6 ["_law_script", "_law_k"] ["_law_script", "_law_k"] (b7 (top 33)):=by trivial
theorem jv:f6 ["_law_script", "_law_k", "_law_many"] ["_law_script", "_law_k", "_law_many"] (b7 (top 34)):=by trivial
theorem v5:f6 ["_law_script", "_law_at", "_law_places", "_law_menu", "_law_scale_here", "_law_found", "_law_k", "_law_held"] ["_law_script", "_law_at", "_law_places", "_law_menu", "_law_scale_here"] (b7 (top 35)):=by trivial
theorem aI:f6 ["_law_script", "_law_kind"] ["_law_script"] (b7 (top 36)):=by trivial
theorem t4:f6 ["_law_script", "_law_places", "_law_scale_here", "_law_moves", "_law_k", "_law_at", "_law_take", "_law_put", "_law_begin"] ["_law_script"] (b7 (top 37)):=by trivial
theorem u5:f6 ["_law_script", "_law_at", "_law_caps", "_law_places", "_law_cap", "_law_found", "_law_k", "_law_place", "_law_kind"] ["_law_script", "_law_at", "_law_caps", "_law_places"] (b7 (top 38)):=by trivial
theorem S6:f6 ["_law_target_here", "_law_caps", "_law_cap"] ["_law_target_here", "_law_caps"] (b7 (top 39)):=by trivial
theorem D2:f6 ["_law_begin", "_law_moves", "_law_row", "_law_target_here", "_law_stand", "_law_number", "_law_take", "_law_put", "_law_k"] ["_law_begin", "_law_moves", "_law_row", "_law_target_here"] (b7 (top 40)):=by trivial
theorem Z7:f6 ["_law_script", "_law_begin", "_law_moves", "_law_caps", "_law_at", "_law_target_here", "_law_found"] ["_law_script"] (b7 (top 41)):=by trivial
section
variable {P:Program} {w:World} {mg:Str->Option Value} {base:Heap} (Y:En w mg)
include Y
theorem M8:Def (hk w) mg "covers" (top 4) ["stand", "other"] 53 (FD "covers" 4 P9 52):=dk Y (by kernel_rfl) fun _ _ _ _ _ _=>us2 fun _ _=>rfl
theorem iy:FnOk P w (hk w) mg base CX0 1 53 (FD "covers" 4 P9 52) ["stand", "other"] (spM (hk w) 2 .F U4):=
 okF (M8 Y) cG (.inl rfl) rfl rfl fun hr=>(b9 (@z8 _ _ _ _ _ _ _ _ _ _ _ _ _ PassesOwn.never rfl (@nX _ _ _ _ _ _ _ _ _ _ _ (by rfl) (bl Y).zip_ (a8 (qv .U 0) (a8 (qv .U 1) b4)) (by rfl) (by rfl) (by rfl)) (@D4 _ (hk w) _ _ _ _ 2 rfl (@j9 _ _ _ _ _ (@d4 _ _ 2 _ cG.nd rfl (by trivial) (by trivial)) (@j9 _ _ _ _ _ (@d4 _ _ 3 _ cG.nd rfl (by trivial) (by trivial)) D3 (by rfl)) (by rfl)) (by rfl) (by rfl) (by rfl)) (F8 (.inr rfl) (k4 (.inr rfl) j3 (k4 (.inr rfl) j3 D5))) (b6 (i7 (@i5 _ _ _ _ _ _ _ _ _ _ _ _ gi xLt (qv .B 2) (qv .B 3) (by trivial)) (b6 (f8 B7)) j1)) (by intro _; rfl)) (b6 (f8 B7)))
theorem ap:Def (hk w) mg "able" (top 5) ["stand", "move"] 60 (FD "able" 5 P9 59):=dk Y (by kernel_rfl) fun _ _ _ _ _ _=>us2 fun _ _=>rfl
theorem ou:FnOk P w (hk w) mg base CX0 2 60 (FD "able" 5 P9 59) ["stand", "move"] (spM (hk w) 2 .F dG):=
 okF (ap Y) xQ (.inl rfl) rfl rfl fun hr=>(b6 (f8 (@c9 _ _ _ _ _ _ _ _ _ _ _ _ _ _ _ _ (iy Y) (.inl rfl) (by trivial) (by rfl) (M8 Y).m (M8 Y).F.kp (M8 Y).b (a8 (qv .B 0) (a8 (j7 (f7 (qv .B 1) b5)) b4)) (by decide) (by rfl) (by rfl))))
theorem M9:Def (hk w) mg "change" (top 7) ["move"] 70 (FD "change" 7 P9 69):=dk Y (by kernel_rfl) fun _ _ _ _ _ _=>us1 fun _=>rfl
theorem iz:FnOk P w (hk w) mg base CX0 1 70 (FD "change" 7 P9 69) ["move"] (spM (hk w) 1 .F U5):=
 okF (M9 Y) qA (.inl rfl) rfl rfl fun hr=>(b6 (f8 (@M0 _ _ _ _ _ _ _ _ _ _ _ _ _ _ O7 (O6 (c:=true)) (by rfl) (bl Y).tuple_ w8 (a8 (g6 (@B6 _ _ _ _ _ _ _ _ _ _ _ _ _ _ _ _ (show i8 (b7 (top 7)) _ ["move"] ["move", "take", "put"] from by trivial) rfl (@aO _ _ _ _ _ _ _ _ _ _ _ (by rfl) (bl Y).zip_ (a8 (j7 (f7 (qv .B 0) b5)) (a8 (j7 (f7 (qv .B 0) b5)) b4)) (by rfl) (by rfl) (by rfl)) (fun _ _ _ _=>(@D4 _ (hk w) _ _ _ _ 2 rfl (@j9 _ _ _ _ _ (@d4 _ _ 1 _ (by decide +kernel:(["move", "take", "put"]:List Str).Nodup) rfl (Or.inl rfl) (.inr rfl)) (@j9 _ _ _ _ _ (@d4 _ _ 2 _ (by decide +kernel:(["move", "take", "put"]:List Str).Nodup) rfl (Or.inl rfl) (.inr rfl)) D3 (by rfl)) (by rfl)) (by rfl) (by rfl) (by rfl))) (F8 (.inr rfl) (k4 (.inr rfl) j3 (k4 (.inr rfl) j3 D5))) (X9 (v6 (show 1<=1 by decide) (v6 (show 1<=2 by decide) Y0))) (fun _ _ _ _=>B5) (fun _ _ _ _=>(g9 aV gA (qv .B 2) (qv .B 1))) (by intro _; rfl))) b4) (by decide) (by decide) (by rfl) (by rfl))))
theorem U7:Def (hk w) mg "after" (top 6) ["stand", "move"] 65 (FD "after" 6 P9 64):=dk Y (by kernel_rfl) fun _ _ _ _ _ _=>us2 fun _ _=>rfl
theorem jR:FnOk P w (hk w) mg base CX0 3 65 (FD "after" 6 P9 64) ["stand", "move"] (spM (hk w) 2 .F Y1):=
 okF (U7 Y) uD (.inl rfl) rfl rfl fun hr=>(b9 (i7 (v9 (@p7 _ _ _ _ _ (j8 (g6 (@c9 _ _ _ _ _ _ _ _ _ _ _ _ _ _ _ _ (ou Y) (.inl rfl) (by trivial) (by rfl) (ap Y).m (ap Y).F.kp (ap Y).b (a8 (qv .B 0) (a8 (qv .B 1) b4)) (by decide) (by rfl) (by rfl)))) (by intro _; rfl))) (b6 jO) j1) (b6 (f8 (@M0 _ _ _ _ _ _ _ _ _ _ _ _ _ _ O7 (O6 (c:=true)) (by rfl) (bl Y).tuple_ w8 (a8 (g6 (@B6 _ _ _ _ _ _ _ _ _ _ _ _ _ _ _ _ (show i8 (b7 (top 6)) _ ["stand", "move"] ["stand", "move", "number", "step"] from by trivial) rfl (@aO _ _ _ _ _ _ _ _ _ _ _ (by rfl) (bl Y).zip_ (a8 (qv .B 0) (a8 (j8 (g6 (@c9 _ _ _ _ _ _ _ _ _ _ _ _ _ _ _ _ (iz Y) (.inl rfl) (by trivial) (by rfl) (M9 Y).m (M9 Y).F.kp (M9 Y).b (a8 (qv .B 1) b4) (by decide) (by rfl) (by rfl)))) b4)) (by rfl) (by rfl) (by rfl)) (fun _ _ _ _=>(@D4 _ (hk w) _ _ _ _ 2 rfl (@j9 _ _ _ _ _ (@d4 _ _ 2 _ (by decide +kernel:(["stand", "move", "number", "step"]:List Str).Nodup) rfl (Or.inl rfl) (.inr rfl)) (@j9 _ _ _ _ _ (@d4 _ _ 3 _ (by decide +kernel:(["stand", "move", "number", "step"]:List Str).Nodup) rfl (Or.inl rfl) (.inr rfl)) D3 (by rfl)) (by rfl)) (by rfl) (by rfl) (by rfl))) (F8 (.inr rfl) (k4 (.inr rfl) j3 (k4 (.inr rfl) j3 D5))) (X9 (v6 (show 2<=2 by decide) (v6 (show 2<=3 by decide) Y0))) (fun _ _ _ _=>B5) (fun _ _ _ _=>(g9 k7 p8 (qv .B 2) (qv .B 3))) (by intro _; rfl))) b4) (by decide) (by decide) (by rfl) (by rfl)))))
theorem dunder:Def (hk w) mg "under" (top 9) ["cap", "other"] 77 (FD "under" 9 m9 76):=dk Y (by kernel_rfl) fun _ _ _ _ _ _=>us2 fun _ _=>rfl
theorem eP:FnOk P w (hk w) mg base CX0 1 77 (FD "under" 9 m9 76) ["cap", "other"] (spM (hk w) 2 .F S1):=
 okF (dunder Y) dZ (.inl rfl) rfl rfl fun hr=>(b9 (@z8 _ _ _ _ _ _ _ _ _ _ _ _ _ PassesOwn.never rfl (@nX _ _ _ _ _ _ _ _ _ _ _ (by rfl) (bl Y).zip_ (a8 (qv .U 0) (a8 (qv .U 1) b4)) (by rfl) (by rfl) (by rfl)) (@D4 _ (hk w) _ _ _ _ 2 rfl (@j9 _ _ _ _ _ (@d4 _ _ 2 _ dZ.nd rfl (by trivial) (by trivial)) (@j9 _ _ _ _ _ (@d4 _ _ 3 _ dZ.nd rfl (by trivial) (by trivial)) D3 (by rfl)) (by rfl)) (by rfl) (by rfl) (by rfl)) (F8 (.inr rfl) (k4 (.inr rfl) j3 (k4 (.inr rfl) j3 D5))) (b6 (i7 (PW.pt (io (@i5 _ _ _ _ _ _ _ _ _ _ _ _ eO eQ (qv .B 3) z6 (by trivial)) (eL (PW.pt (bD (@i5 _ _ _ _ _ _ _ _ _ _ _ _ T0 T6 (qv .B 2) z6 (by trivial)) (aP (@i5 _ _ _ _ _ _ _ _ _ _ _ _ bG xGt (qv .B 2) (qv .B 3) (by trivial)))))))) (b6 (f8 B7)) j1)) (by intro _; rfl)) (b6 (f8 B7)))
theorem C9:Def (hk w) mg "under_any" (top 10) ["cap", "caps"] 84 (FD "under_any" 10 m9 83):=dk Y (by kernel_rfl) fun _ _ _ _ _ _=>us2 fun _ _=>rfl
theorem ci:FnOk P w (hk w) mg base CX0 2 84 (FD "under_any" 10 m9 83) ["cap", "caps"] (spM (hk w) 2 .F F9):=
 okF (C9 Y) ca (.inl rfl) rfl rfl fun hr=>(b9 (@z8 _ _ _ _ _ _ _ _ _ _ _ _ _ PassesOwn.never rfl (@K5 _ _ _ _ _ _ (qv .U 1) (by rfl)) (@d4 _ _ 2 _ ca.nd rfl (by trivial) (by trivial)) j3 (b6 (i7 (@p7 _ _ _ _ _ (j8 (g6 (@c9 _ _ _ _ _ _ _ _ _ _ _ _ _ _ _ _ (eP Y) (.inl rfl) (by trivial) (by rfl) (dunder Y).m (dunder Y).F.kp (dunder Y).b (a8 (qv .B 0) (a8 (qv .B 2) b4)) (by decide) (by rfl) (by rfl)))) (by intro _; rfl)) (b6 (f8 B7)) j1)) (by intro _; rfl)) (b6 (f8 B7)))
theorem E9:Def (hk w) mg "cap_able" (top 11) ["cap", "move"] 91 (FD "cap_able" 11 m9 90):=dk Y (by kernel_rfl) fun _ _ _ _ _ _=>us2 fun _ _=>rfl
theorem dm:FnOk P w (hk w) mg base CX0 2 91 (FD "cap_able" 11 m9 90) ["cap", "move"] (spM (hk w) 2 .F R0):=
 okF (E9 Y) lh (.inl rfl) rfl rfl fun hr=>(b6 (f8 (@c9 _ _ _ _ _ _ _ _ _ _ _ _ _ _ _ _ (eP Y) (.inl rfl) (by trivial) (by rfl) (dunder Y).m (dunder Y).F.kp (dunder Y).b (a8 (j7 (f7 (qv .B 1) b5)) (a8 (qv .B 0) b4)) (by decide) (by rfl) (by rfl))))
theorem R4:Def (hk w) mg "cap_after" (top 12) ["cap", "move"] 96 (FD "cap_after" 12 m9 95):=dk Y (by kernel_rfl) fun _ _ _ _ _ _=>us2 fun _ _=>rfl
theorem jx:FnOk P w (hk w) mg base CX0 3 96 (FD "cap_after" 12 m9 95) ["cap", "move"] (spM (hk w) 2 .F W6):=
 okF (R4 Y) ju (.inl rfl) rfl rfl fun hr=>(b9 (i7 (v9 (@p7 _ _ _ _ _ (j8 (g6 (@c9 _ _ _ _ _ _ _ _ _ _ _ _ _ _ _ _ (dm Y) (.inl rfl) (by trivial) (by rfl) (E9 Y).m (E9 Y).F.kp (E9 Y).b (a8 (qv .B 0) (a8 (qv .B 1) b4)) (by decide) (by rfl) (by rfl)))) (by intro _; rfl))) (b6 jO) j1) (b6 (f8 (@M0 _ _ _ _ _ _ _ _ _ _ _ _ _ _ O7 (O6 (c:=true)) (by rfl) (bl Y).tuple_ w8 (a8 (g6 (@B6 _ _ _ _ _ _ _ _ _ _ _ _ _ _ _ _ (show i8 (b7 (top 12)) _ ["cap", "move"] ["cap", "move", "number", "step"] from by trivial) rfl (@aO _ _ _ _ _ _ _ _ _ _ _ (by rfl) (bl Y).zip_ (a8 (qv .B 0) (a8 (j8 (g6 (@c9 _ _ _ _ _ _ _ _ _ _ _ _ _ _ _ _ (iz Y) (.inl rfl) (by trivial) (by rfl) (M9 Y).m (M9 Y).F.kp (M9 Y).b (a8 (qv .B 1) b4) (by decide) (by rfl) (by rfl)))) b4)) (by rfl) (by rfl) (by rfl)) (fun _ _ _ _=>(@D4 _ (hk w) _ _ _ _ 2 rfl (@j9 _ _ _ _ _ (@d4 _ _ 2 _ (by decide +kernel:(["cap", "move", "number", "step"]:List Str).Nodup) rfl (Or.inl rfl) (.inr rfl)) (@j9 _ _ _ _ _ (@d4 _ _ 3 _ (by decide +kernel:(["cap", "move", "number", "step"]:List Str).Nodup) rfl (Or.inl rfl) (.inr rfl)) D3 (by rfl)) (by rfl)) (by rfl) (by rfl) (by rfl))) (F8 (.inr rfl) (k4 (.inr rfl) j3 (k4 (.inr rfl) j3 D5))) (X9 (v6 (show 2<=2 by decide) (v6 (show 2<=3 by decide) Y0))) (fun _ _ _ _=>B5) (fun _ _ _ _=>(qS (@i5 _ _ _ _ _ _ _ _ _ _ _ _ T0 T6 (qv .B 2) z6 (by trivial)) z6 (g9 k7 p8 (qv .B 2) (qv .B 3)))) (by intro _; rfl))) b4) (by decide) (by decide) (by rfl) (by rfl)))))
theorem bT:Def (hk w) mg "raised" (top 13) ["cap", "elder"] 101 (FD "raised" 13 m9 100):=dk Y (by kernel_rfl) fun _ _ _ _ _ _=>us2 fun _ _=>rfl
theorem rf:FnOk P w (hk w) mg base CX0 2 101 (FD "raised" 13 m9 100) ["cap", "elder"] (spM (hk w) 2 .F al):=
 okF (bT Y) qz (.inl rfl) rfl rfl fun hr=>(b9 (i7 (v9 (@p7 _ _ _ _ _ (j8 (g6 (@c9 _ _ _ _ _ _ _ _ _ _ _ _ _ _ _ _ (eP Y) (.inl rfl) (by trivial) (by rfl) (dunder Y).m (dunder Y).F.kp (dunder Y).b (a8 (qv .B 1) (a8 (qv .B 0) b4)) (by decide) (by rfl) (by rfl)))) (by intro _; rfl))) (b6 (@K4 _ _ _ _ _ 0 _ _ (.inl rfl) (by rfl) (by trivial) (by decide) (by decide))) j1) (b6 (f8 (@M0 _ _ _ _ _ _ _ _ _ _ _ _ _ _ O7 (O6 (c:=true)) (by rfl) (bl Y).tuple_ w8 (a8 (g6 (@B6 _ _ _ _ _ _ _ _ _ _ _ _ _ _ _ _ (show i8 (b7 (top 13)) _ ["cap", "elder"] ["cap", "elder", "number", "old"] from by trivial) rfl (@aO _ _ _ _ _ _ _ _ _ _ _ (by rfl) (bl Y).zip_ (a8 (qv .B 0) (a8 (qv .B 1) b4)) (by rfl) (by rfl) (by rfl)) (fun _ _ _ _=>(@D4 _ (hk w) _ _ _ _ 2 rfl (@j9 _ _ _ _ _ (@d4 _ _ 2 _ (by decide +kernel:(["cap", "elder", "number", "old"]:List Str).Nodup) rfl (Or.inl rfl) (.inr rfl)) (@j9 _ _ _ _ _ (@d4 _ _ 3 _ (by decide +kernel:(["cap", "elder", "number", "old"]:List Str).Nodup) rfl (Or.inl rfl) (.inr rfl)) D3 (by rfl)) (by rfl)) (by rfl) (by rfl) (by rfl))) (F8 (.inr rfl) (k4 (.inr rfl) j3 (k4 (.inr rfl) j3 D5))) (X9 (v6 (show 2<=2 by decide) (v6 (show 2<=3 by decide) Y0))) (fun _ _ _ _=>B5) (fun _ _ _ _=>(qS (@i5 _ _ _ _ _ _ _ _ _ _ _ _ (oq (AE hr)) (oy (neg:=false)) (qv .B 2) (qv .B 3) (by trivial)) (qv .V 2) z6)) (by intro _; rfl))) b4) (by decide) (by decide) (by rfl) (by rfl)))))
theorem bh:Def (hk w) mg "sort_key" (top 15) ["cap"] 113 (FD "sort_key" 15 m9 112):=dk Y (by kernel_rfl) fun _ _ _ _ _ _=>us1 fun _=>rfl
theorem lF:FnOk P w (hk w) mg base CX0 1 113 (FD "sort_key" 15 m9 112) ["cap"] (spM (hk w) 1 .F F4):=
 okF (bh Y) lg (.inl rfl) rfl rfl fun hr=>(b6 (f8 (@M0 _ _ _ _ _ _ _ _ _ _ _ _ _ _ O7 (O6 (c:=true)) (by rfl) (bl Y).tuple_ w8 (a8 (g6 (@B6 _ _ _ _ _ _ _ _ _ _ _ _ _ _ _ _ (show i8 (b7 (top 15)) _ ["cap"] ["cap", "number"] from by trivial) rfl (@aQ _ _ _ _ _ _ (qv .B 0) (by rfl)) (fun _ _ _ _=>(@d4 _ _ 1 _ (by decide +kernel:(["cap", "number"]:List Str).Nodup) rfl (Or.inl rfl) (.inr rfl))) j3 (K0 (show 1<=1 by decide)) (fun _ _ _ _=>B5) (fun _ _ _ _=>(qS (@i5 _ _ _ _ _ _ _ _ _ _ _ _ T0 T6 (qv .B 1) z6 (by trivial)) (w4 (N8 (a8 b5 (a8 b5 b4)))) (w4 (N8 (a8 b5 (a8 (qv .V 1) b4)))))) (by intro _; rfl))) b4) (by decide) (by decide) (by rfl) (by rfl))))
theorem gw:Def (hk w) mg "tops" (top 14) ["caps"] 108 (FD "tops" 14 m9 107):=dk Y (by kernel_rfl) fun _ _ _ _ _ _=>us1 fun _=>rfl
theorem zr:FnOk P w (hk w) mg base CX0 4 108 (FD "tops" 14 m9 107) ["caps"] (spM (hk w) 1 .F iY):=
 okF (gw Y) gX (.inl rfl) rfl rfl fun hr=>(b9 (@l7 _ _ _ _ _ _ _ 1 _ _ gX.nd rfl (by trivial) (z7 b4) (by rfl) (by trivial)) (b9 (@z8 _ _ _ _ _ _ _ _ _ _ _ _ _ PassesOwn.never rfl (@K5 _ _ _ _ _ _ (eN (w4 (@uW _ _ _ _ _ _ _ _ _ _ _ _ _ _ _ _ _ _ _ _ false (lF Y) (by trivial) (by rfl) (bh Y).m (bh Y).b (by rfl) (bl Y).sorted_ fW (a8 (qv .B 0) b4) (by rfl) (by decide) (by decide) (by decide) (by rfl) (by rfl) (by rfl) (by rfl) (by rfl)))) (by rfl)) (@d4 _ _ 2 _ gX.nd rfl (by trivial) (by trivial)) j3 (b6 (i7 (v9 (@p7 _ _ _ _ _ (j8 (g6 (@c9 _ _ _ _ _ _ _ _ _ _ _ _ _ _ _ _ (ci Y) (.inl rfl) (by trivial) (by rfl) (C9 Y).m (C9 Y).F.kp (C9 Y).b (a8 (qv .B 2) (a8 (qv .B 1) b4)) (by decide) (by rfl) (by rfl)))) (by intro _; rfl))) (b6 (@Q7 _ _ _ _ _ _ _ 1 _ _ _ _ rfl (by trivial) (qv .V 2) (by decide) (by decide) (by rfl) (by rfl) (by rfl) (by rfl) (by rfl))) j1)) (by intro _; rfl)) (b9 (@Cy _ _ _ _ _ 1 _ _ _ _ rfl (by trivial) (by rfl) (by decide) (by decide) (by rfl) (by rfl) (by rfl)) (b6 (@K4 _ _ _ _ _ 1 _ _ (.inl rfl) (by rfl) (by trivial) (by decide) (by decide))))))
theorem W1:Def (hk w) mg "way_back" (top 18) ["tree", "number"] 132 (FD "way_back" 18 m9 131):=dk Y (by kernel_rfl) fun _ _ _ _ _ _=>us2 fun _ _=>rfl
theorem lE:FnOk P w (hk w) mg base CX0 1 132 (FD "way_back" 18 m9 131) ["tree", "number"] (spM (hk w) 2 .F Q9):=
 okF (W1 Y) Q6 (.inl rfl) rfl rfl fun hr=>(b9 (@l7 _ _ _ _ _ _ _ 2 _ _ Q6.nd rfl (by trivial) (z7 b4) (by rfl) (by trivial)) (b9 (@E6 _ _ _ _ _ _ _ 3 _ _ Q6.nd rfl (by trivial) (qv .V 1) (by rfl) (by trivial)) (b9 (eK PassesOwn.never (@i5 _ _ _ _ _ _ _ _ _ _ _ _ eO eQ (qv .B 3) z6 (by trivial)) (b9 (@Q7 _ _ _ _ _ _ _ 2 _ _ _ _ rfl (by trivial) (qv .V 3) (by decide) (by decide) (by rfl) (by rfl) (by rfl) (by rfl) (by rfl)) (b6 (@dc _ _ _ _ _ _ _ 3 _ _ Q6.nd rfl (by trivial) (f7 (j7 (f7 (qv .B 0) (qv .B 3))) b5) (by rfl) (by trivial))))) (b6 (@K4 _ _ _ _ _ 2 _ _ (.inl rfl) (by rfl) (by trivial) (by decide) (by decide))))))
theorem gx:Def (hk w) mg "grow" (top 17) ["moor", "tree", "at", "number"] 125 (FD "grow" 17 m9 124):=dk Y (by kernel_rfl) fun _ _ _ _ _ _=>us4 fun _ _ _ _=>rfl
theorem zu:FnOk P w (hk w) mg base CX0 4 125 (FD "grow" 17 m9 124) ["moor", "tree", "at", "number"] (dY (hk w) 4 dF):=
 okI (gx Y) aH rfl rfl fun p=>fun hr=>(bE (@q_i _ _ _ .F _ _ _ (@dc _ _ _ _ _ _ _ 4 _ _ aH.nd rfl (by trivial) (f7 (j7 (f7 (qv .B 0) b5)) (qv .B 3)) (by rfl) (by trivial))) (bE (tE (v9 (@p7 _ _ _ _ _ (j8 (g6 (@c9 _ _ _ _ _ _ _ _ _ _ _ _ _ _ _ _ (dm Y) (.inl rfl) (by trivial) (by rfl) (E9 Y).m (E9 Y).F.kp (E9 Y).b (a8 (j7 (f7 (j7 (f7 (qv .B 1) (qv .B 2))) b5)) (a8 (qv .B 4) b4)) (by decide) (by rfl) (by rfl)))) (by intro _; rfl))) (eM yQ) (@yS _ _ _ .F _ _ _ j1)) (bE (@q_i _ _ _ .F _ _ _ (@l7 _ _ _ _ _ _ _ 5 _ _ aH.nd rfl (by trivial) (@c9 _ _ _ _ _ _ _ _ _ _ _ _ _ _ _ _ (jx Y) (.inl rfl) (by trivial) (by rfl) (R4 Y).m (R4 Y).F.kp (R4 Y).b (a8 (j7 (f7 (j7 (f7 (qv .B 1) (qv .B 2))) b5)) (a8 (qv .B 4) b4)) (by decide) (by rfl) (by rfl)) (by rfl) (by trivial))) (bE (@q_i _ _ _ .F _ _ _ (@z8 _ _ _ _ _ _ _ _ _ _ _ _ _ PassesOwn.never rfl (@K5 _ _ _ _ _ _ (eN (w4 (@c9 _ _ _ _ _ _ _ _ _ _ _ _ _ _ _ _ (lE Y) (.inl rfl) (by trivial) (by rfl) (W1 Y).m (W1 Y).F.kp (W1 Y).b (a8 (qv .B 1) (a8 (qv .B 2) b4)) (by decide) (by rfl) (by rfl)))) (by rfl)) (@d4 _ _ 6 _ aH.nd rfl (by trivial) (by trivial)) j3 (b6 (@l7 _ _ _ _ _ _ _ 5 _ _ aH.nd rfl (by trivial) (@c9 _ _ _ _ _ _ _ _ _ _ _ _ _ _ _ _ (rf Y) (.inl rfl) (by trivial) (by rfl) (bT Y).m (bT Y).F.kp (bT Y).b (a8 (qv .B 5) (a8 (j7 (f7 (j7 (f7 (qv .B 1) (qv .B 6))) b5)) b4)) (by decide) (by rfl) (by rfl)) (by rfl) (by trivial))) (by intro _; rfl))) (eM (tE (v9 (@p7 _ _ _ _ _ (j8 (g6 (@c9 _ _ _ _ _ _ _ _ _ _ _ _ _ _ _ _ (ci Y) (.inl rfl) (by trivial) (by rfl) (C9 Y).m (C9 Y).F.kp (C9 Y).b (a8 (qv .B 5) (a8 (j8 (g6 (@B6 _ _ _ _ _ _ _ _ _ _ _ _ _ _ _ _ (show i8 (b7 (top 17)) _ ["moor", "tree", "at", "number", "move", "cap", "elder"] ["moor", "tree", "at", "number", "move", "cap", "elder", "row"] from by trivial) rfl (@aQ _ _ _ _ _ _ (qv .B 1) (by rfl)) (fun _ _ _ _=>(@d4 _ _ 7 _ (by decide +kernel:(["moor", "tree", "at", "number", "move", "cap", "elder", "row"]:List Str).Nodup) rfl (Or.inl rfl) (.inr rfl))) j3 (K0 (show 7<=7 by decide)) (fun _ _ _ _=>B5) (fun _ _ _ _=>(aR (f7 (qv .B 7) b5))) (by intro _; rfl)))) b4)) (by decide) (by rfl) (by rfl)))) (by intro _; rfl))) (eM (@yV _ _ _ _ _ _ _ 1 _ _ _ _ rfl (by trivial) (w4 (N8 (a8 (qv .V 5) (a8 (qv .V 2) (a8 (qv .V 3) b4))))) (by decide) (by decide) (by rfl) (by rfl) (by rfl) (by rfl) (by rfl))) (@yS _ _ _ .F _ _ _ j1)))))))
theorem bU:Def (hk w) mg "growth" (top 16) ["moor", "most"] 120 (FD "growth" 16 m9 119):=dk Y (by kernel_rfl) fun _ _ _ _ _ _=>us2 fun _ _=>rfl
theorem rg:FnOk P w (hk w) mg base CX0 5 120 (FD "growth" 16 m9 119) ["moor", "most"] (spM (hk w) 2 .F U3):=
 okF (bU Y) S5 (.inl rfl) rfl rfl fun hr=>(b9 (@l7 _ _ _ _ _ _ _ 2 _ _ S5.nd rfl (by trivial) (z7 (a8 (w4 (N8 (a8 (aR (f7 (qv .B 0) b5)) (a8 z6 (a8 z6 b4))))) b4)) (by rfl) (by trivial)) (b9 (@E6 _ _ _ _ _ _ _ 3 _ _ S5.nd rfl (by trivial) b5 (by rfl) (by trivial)) (b9 (eK PassesOwn.never (@i5 _ _ _ _ _ _ _ _ _ _ _ _ gi xLt (qv .B 3) (@r6 _ _ _ _ _ _ _ _ _ _ _ _ _ _ B0 A9 (by rfl) (bl Y).len_ PySem.boot_len (a8 (qv .B 2) b4) (by decide) (by decide) (by rfl) (by rfl)) (by trivial)) (b9 (@z8 _ _ _ _ _ _ _ _ _ _ _ _ _ PassesOwn.never rfl (@P2 _ _ _ _ _ _ _ _ _ (by rfl) (bl Y).range_ (a8 (@r6 _ _ _ _ _ _ _ _ _ _ _ _ _ _ B0 A9 (by rfl) (bl Y).len_ PySem.boot_len (a8 (j7 (f7 (qv .B 0) b5)) b4) (by decide) (by decide) (by rfl) (by rfl)) b4) (by rfl)) (@d4 _ _ 4 _ S5.nd rfl (by trivial) (by trivial)) j3 (b6 (@uZ _ _ _ _ _ _ _ _ 2 _ _ _ _ _ _ _ _ _ _ _ _ rfl (by trivial) (zu Y) (by trivial) (by rfl) (gx Y).m (gx Y).F.kp (gx Y).b (qv .B 0) (a8 (qv .B 3) (a8 (qv .B 4) b4)) (by decide) (by decide) (by decide) (by rfl) (by rfl) (by rfl) (by rfl))) (by intro _; rfl)) (b9 (i7 (@i5 _ _ _ _ _ _ _ _ _ _ _ _ bG xGt (@r6 _ _ _ _ _ _ _ _ _ _ _ _ _ _ B0 A9 (by rfl) (bl Y).len_ PySem.boot_len (a8 (qv .B 2) b4) (by decide) (by decide) (by rfl) (by rfl)) (qv .B 1) (by trivial)) (b6 (f8 z6)) j1) (b6 (@CC _ _ _ _ _ _ _ 3 _ _ _ _ S5.nd rfl (by trivial) b5 Ax (by trivial)))))) (b6 (@K4 _ _ _ _ _ 2 _ _ (.inl rfl) (by rfl) (by trivial) (by decide) (by decide))))))
theorem dI:Def (hk w) mg "crown" (top 19) ["moor", "most"] 137 (FD "crown" 19 m9 136):=dk Y (by kernel_rfl) fun _ _ _ _ _ _=>us2 fun _ _=>rfl
theorem vo:FnOk P w (hk w) mg base CX0 6 137 (FD "crown" 19 m9 136) ["moor", "most"] (spM (hk w) 2 .F bO):=
 okF (dI Y) jK (.inl rfl) rfl rfl fun hr=>(b9 (@l7 _ _ _ _ _ _ _ 2 _ _ jK.nd rfl (by trivial) (@c9 _ _ _ _ _ _ _ _ _ _ _ _ _ _ _ _ (rg Y) (.inl rfl) (by trivial) (by rfl) (bU Y).m (bU Y).F.kp (bU Y).b (a8 (qv .B 0) (a8 (qv .B 1) b4)) (by decide) (by rfl) (by rfl)) (by rfl) (by trivial)) (b9 (i7 (@i5 _ _ _ _ _ _ _ _ _ _ _ _ T0 T6 (qv .B 2) z6 (by trivial)) (b6 (f8 z6)) j1) (b6 (f8 (@c9 _ _ _ _ _ _ _ _ _ _ _ _ _ _ _ _ (zr Y) (.inl rfl) (by trivial) (by rfl) (gw Y).m (gw Y).F.kp (gw Y).b (a8 (j8 (g6 (@B6 _ _ _ _ _ _ _ _ _ _ _ _ _ _ _ _ (show i8 (b7 (top 19)) _ ["moor", "most", "tree"] ["moor", "most", "tree", "row"] from by trivial) rfl (@aQ _ _ _ _ _ _ (qv .B 2) (by rfl)) (fun _ _ _ _=>(@d4 _ _ 3 _ (by decide +kernel:(["moor", "most", "tree", "row"]:List Str).Nodup) rfl (Or.inl rfl) (.inr rfl))) j3 (K0 (show 3<=3 by decide)) (fun _ _ _ _=>B5) (fun _ _ _ _=>(aR (f7 (qv .B 3) b5))) (by intro _; rfl)))) b4) (by decide) (by rfl) (by rfl))))))
theorem v7:Def (hk w) mg "lifted" (top 22) ["stand", "basis"] 151 (FD "lifted" 22 D8 150):=dk Y (by kernel_rfl) fun _ _ _ _ _ _=>us2 fun _ _=>rfl
theorem aa:FnOk P w (hk w) mg base CX0 2 151 (FD "lifted" 22 D8 150) ["stand", "basis"] (spM (hk w) 2 .F J1):=
 okF (v7 Y) gZ (.inl rfl) rfl rfl fun hr=>(b9 (@z8 _ _ _ _ _ _ _ _ _ _ _ _ _ PassesOwn.never rfl (@K5 _ _ _ _ _ _ (qv .U 1) (by rfl)) (@d4 _ _ 2 _ gZ.nd rfl (by trivial) (by trivial)) j3 (b6 (i7 (@p7 _ _ _ _ _ (j8 (g6 (@c9 _ _ _ _ _ _ _ _ _ _ _ _ _ _ _ _ (iy Y) (.inl rfl) (by trivial) (by rfl) (M8 Y).m (M8 Y).F.kp (M8 Y).b (a8 (qv .B 0) (a8 (qv .B 2) b4)) (by decide) (by rfl) (by rfl)))) (by intro _; rfl)) (b6 (f8 B7)) j1)) (by intro _; rfl)) (b6 (f8 B7)))
theorem dH:Def (hk w) mg "least" (top 21) ["stands"] 144 (FD "least" 21 D8 143):=dk Y (by kernel_rfl) fun _ _ _ _ _ _=>us1 fun _=>rfl
theorem vn:FnOk P w (hk w) mg base CX0 3 144 (FD "least" 21 D8 143) ["stands"] (spM (hk w) 1 .F bN):=
 okF (dH Y) ef (.inl rfl) rfl rfl fun hr=>(b9 (@l7 _ _ _ _ _ _ _ 1 _ _ ef.nd rfl (by trivial) (z7 b4) (by rfl) (by trivial)) (b9 (@z8 _ _ _ _ _ _ _ _ _ _ _ _ _ PassesOwn.never rfl (@K5 _ _ _ _ _ _ (eN (w4 (@r6 _ _ _ _ _ _ _ _ _ _ _ _ _ _ mB (wW (c:=false)) (by rfl) (bl Y).sorted_ fW (a8 (qv .B 0) b4) (by decide) (by decide) (by rfl) (by rfl)))) (by rfl)) (@d4 _ _ 2 _ ef.nd rfl (by trivial) (by trivial)) j3 (b6 (i7 (v9 (@p7 _ _ _ _ _ (j8 (g6 (@c9 _ _ _ _ _ _ _ _ _ _ _ _ _ _ _ _ (aa Y) (.inl rfl) (by trivial) (by rfl) (v7 Y).m (v7 Y).F.kp (v7 Y).b (a8 (qv .B 2) (a8 (qv .B 1) b4)) (by decide) (by rfl) (by rfl)))) (by intro _; rfl))) (b6 (@Q7 _ _ _ _ _ _ _ 1 _ _ _ _ rfl (by trivial) (qv .V 2) (by decide) (by decide) (by rfl) (by rfl) (by rfl) (by rfl) (by rfl))) j1)) (by intro _; rfl)) (b6 (@K4 _ _ _ _ _ 1 _ _ (.inl rfl) (by rfl) (by trivial) (by decide) (by decide)))))
theorem bR:Def (hk w) mg "source" (top 23) ["stand", "move"] 156 (FD "source" 23 D8 155):=dk Y (by kernel_rfl) fun _ _ _ _ _ _=>us2 fun _ _=>rfl
theorem re:FnOk P w (hk w) mg base CX0 1 156 (FD "source" 23 D8 155) ["stand", "move"] (spM (hk w) 2 .F cR):=
 okF (bR Y) qy (.inl rfl) rfl rfl fun hr=>(b6 (f8 (@M0 _ _ _ _ _ _ _ _ _ _ _ _ _ _ O7 (O6 (c:=true)) (by rfl) (bl Y).tuple_ w8 (a8 (g6 (@B6 _ _ _ _ _ _ _ _ _ _ _ _ _ _ _ _ (show i8 (b7 (top 23)) _ ["stand", "move"] ["stand", "move", "number", "take", "put"] from by trivial) rfl (@aO _ _ _ _ _ _ _ _ _ _ _ (by rfl) (bl Y).zip_ (a8 (qv .B 0) (a8 (j7 (f7 (qv .B 1) b5)) (a8 (j7 (f7 (qv .B 1) b5)) b4))) (by rfl) (by rfl) (by rfl)) (fun _ _ _ _=>(@D4 _ (hk w) _ _ _ _ 3 rfl (@j9 _ _ _ _ _ (@d4 _ _ 2 _ (by decide +kernel:(["stand", "move", "number", "take", "put"]:List Str).Nodup) rfl (Or.inl rfl) (.inr rfl)) (@j9 _ _ _ _ _ (@d4 _ _ 3 _ (by decide +kernel:(["stand", "move", "number", "take", "put"]:List Str).Nodup) rfl (Or.inl rfl) (.inr rfl)) (@j9 _ _ _ _ _ (@d4 _ _ 4 _ (by decide +kernel:(["stand", "move", "number", "take", "put"]:List Str).Nodup) rfl (Or.inl rfl) (.inr rfl)) D3 (by rfl)) (by rfl)) (by rfl)) (by rfl) (by rfl) (by rfl))) (F8 (.inr rfl) (k4 (.inr rfl) j3 (k4 (.inr rfl) j3 (k4 (.inr rfl) j3 D5)))) (X9 (v6 (show 2<=2 by decide) (v6 (show 2<=3 by decide) (v6 (show 2<=4 by decide) Y0)))) (fun _ _ _ _=>B5) (fun _ _ _ _=>(@r6 _ _ _ _ _ _ _ _ _ _ _ _ _ _ (fV rfl) (b_2 (g:=ff)) (by rfl) (bl Y).max_ pJ (a8 (qv .B 3) (a8 (g9 k7 p8 (g9 aV gA (qv .B 2) (qv .B 4)) (qv .B 3)) b4)) (by decide) (by decide) (by rfl) (by rfl))) (by intro _; rfl))) b4) (by decide) (by decide) (by rfl) (by rfl))))
theorem J2:Def (hk w) mg "sources" (top 24) ["moves", "basis"] 161 (FD "sources" 24 D8 160):=dk Y (by kernel_rfl) fun _ _ _ _ _ _=>us2 fun _ _=>rfl
theorem fE:FnOk P w (hk w) mg base CX0 2 161 (FD "sources" 24 D8 160) ["moves", "basis"] (spM (hk w) 2 .F P7):=
 okF (J2 Y) aG (.inl rfl) rfl rfl fun hr=>(b9 (@l7 _ _ _ _ _ _ _ 2 _ _ aG.nd rfl (by trivial) (z7 b4) (by rfl) (by trivial)) (b9 (@z8 _ _ _ _ _ _ _ _ _ _ _ _ _ PassesOwn.never rfl (@K5 _ _ _ _ _ _ (qv .U 0) (by rfl)) (@d4 _ _ 3 _ aG.nd rfl (by trivial) (by trivial)) j3 (b6 (@CA _ _ _ _ _ _ _ 2 true _ _ _ _ rfl (by trivial) (g6 (@B6 _ _ _ _ _ _ _ _ _ _ _ _ _ _ _ _ (show i8 (b7 (top 24)) _ ["moves", "basis", "found", "move"] ["moves", "basis", "found", "move", "stand"] from by trivial) rfl (@aQ _ _ _ _ _ _ (qv .B 1) (by rfl)) (fun _ _ _ _=>(@d4 _ _ 4 _ (by decide +kernel:(["moves", "basis", "found", "move", "stand"]:List Str).Nodup) rfl (Or.inl rfl) (.inr rfl))) j3 (K0 (show 4<=4 by decide)) (fun _ _ _ _=>B5) (fun _ _ _ _=>(w4 (@c9 _ _ _ _ _ _ _ _ _ _ _ _ _ _ _ _ (re Y) (.inl rfl) (by trivial) (by rfl) (bR Y).m (bR Y).F.kp (bR Y).b (a8 (qv .B 4) (a8 (qv .B 3) b4)) (by decide) (by rfl) (by rfl)))) (by intro _; rfl))) (by rfl) (by decide) (by decide) (by rfl) (by rfl) (by rfl) (by rfl) (by rfl) (by rfl))) (by intro _; rfl)) (b6 (@K4 _ _ _ _ _ 2 _ _ (.inl rfl) (by rfl) (by trivial) (by decide) (by decide)))))
theorem R3:Def (hk w) mg "step_back" (top 25) ["moves", "basis"] 168 (FD "step_back" 25 D8 167):=dk Y (by kernel_rfl) fun _ _ _ _ _ _=>us2 fun _ _=>rfl
theorem jw:FnOk P w (hk w) mg base CX0 4 168 (FD "step_back" 25 D8 167) ["moves", "basis"] (spM (hk w) 2 .F O1):=
 okF (R3 Y) jt (.inl rfl) rfl rfl fun hr=>(b6 (f8 (@c9 _ _ _ _ _ _ _ _ _ _ _ _ _ _ _ _ (vn Y) (.inl rfl) (by trivial) (by rfl) (dH Y).m (dH Y).F.kp (dH Y).b (a8 (j8 (g6 (g9 zp (zB (c:=true)) (g6 (@M0 _ _ _ _ _ _ _ _ _ _ _ _ _ _ jq (jg (c:=false)) (by rfl) (bl Y).list_ Y8 (a8 (qv .B 1) b4) (by decide) (by decide) (by rfl) (by rfl))) (g6 (@c9 _ _ _ _ _ _ _ _ _ _ _ _ _ _ _ _ (fE Y) (.inl rfl) (by trivial) (by rfl) (J2 Y).m (J2 Y).F.kp (J2 Y).b (a8 (qv .B 0) (a8 (qv .B 1) b4)) (by decide) (by rfl) (by rfl)))))) b4) (by decide) (by rfl) (by rfl))))
theorem ao:Def (hk w) mg "is_shut" (top 26) ["moves", "basis"] 173 (FD "is_shut" 26 D8 172):=dk Y (by kernel_rfl) fun _ _ _ _ _ _=>us2 fun _ _=>rfl
theorem ot:FnOk P w (hk w) mg base CX0 3 173 (FD "is_shut" 26 D8 172) ["moves", "basis"] (spM (hk w) 2 .F bd):=
 okF (ao Y) nM (.inl rfl) rfl rfl fun hr=>(b6 (f8 (@r6 _ _ _ _ _ _ _ _ _ _ _ _ _ _ (bj rfl) (fm (g:=U0)) (by rfl) (bl Y).all_ jf (a8 (j8 (g6 (@B6 _ _ _ _ _ _ _ _ _ _ _ _ _ _ _ _ (show i8 (b7 (top 26)) _ ["moves", "basis"] ["moves", "basis", "stand"] from by trivial) rfl (@aQ _ _ _ _ _ _ (j8 (g6 (@c9 _ _ _ _ _ _ _ _ _ _ _ _ _ _ _ _ (fE Y) (.inl rfl) (by trivial) (by rfl) (J2 Y).m (J2 Y).F.kp (J2 Y).b (a8 (qv .B 0) (a8 (qv .B 1) b4)) (by decide) (by rfl) (by rfl)))) (by rfl)) (fun _ _ _ _=>(@d4 _ _ 2 _ (by decide +kernel:(["moves", "basis", "stand"]:List Str).Nodup) rfl (Or.inl rfl) (.inr rfl))) j3 (K0 (show 2<=2 by decide)) (fun _ _ _ _=>B5) (fun _ _ _ _=>(w4 (@c9 _ _ _ _ _ _ _ _ _ _ _ _ _ _ _ _ (aa Y) (.inl rfl) (by trivial) (by rfl) (v7 Y).m (v7 Y).F.kp (v7 Y).b (a8 (qv .B 2) (a8 (qv .B 1) b4)) (by decide) (by rfl) (by rfl)))) (by intro _; rfl)))) b4) (by decide) (by decide) (by rfl) (by rfl))))
theorem bV:Def (hk w) mg "ending" (top 29) ["moves", "rings", "most", "word"] 187 (FD "ending" 29 Q0 186):=dk Y (by kernel_rfl) fun _ _ _ _ _ _=>us4 fun _ _ _ _=>rfl
theorem rh:FnOk P w (hk w) mg base CX0 4 187 (FD "ending" 29 Q0 186) ["moves", "rings", "most", "word"] (spX (hk w) 4 am):=
 okX (bV Y) cF rfl rfl fun hr=>(b9 (@E6 _ _ _ _ _ _ _ 4 _ _ cF.nd rfl (by trivial) (ge (qv .C 1) (lw cU (lG (g:=ak) (fun _=>rfl) (fun _ _=>.int)) b5)) (by rfl) (by trivial)) (b9 (@E6 _ _ _ _ _ _ _ 5 _ _ cF.nd rfl (by trivial) (g9 aV gA (@r6 _ _ _ _ _ _ _ _ _ _ _ _ _ _ B0 A9 (by rfl) (bl Y).len_ PySem.boot_len (a8 (qv .B 1) b4) (by decide) (by decide) (by rfl) (by rfl)) b5) (by rfl) (by trivial)) (b9 (i7 (@i5 _ _ _ _ _ _ _ _ _ _ _ _ bG xGt (@r6 _ _ _ _ _ _ _ _ _ _ _ _ _ _ B0 A9 (by rfl) (bl Y).len_ PySem.boot_len (a8 (qv .B 4) b4) (by decide) (by decide) (by rfl) (by rfl)) (qv .B 2) (by trivial)) (b6 (f8 (w4 (N8 (a8 Z9 (a8 (qv .V 5) b4)))))) j1) (b9 (i7 (@p7 _ _ _ _ _ (j8 (g6 (@c9 _ _ _ _ _ _ _ _ _ _ _ _ _ _ _ _ (ot Y) (.inl rfl) (by trivial) (by rfl) (ao Y).m (ao Y).F.kp (ao Y).b (a8 (qv .B 0) (a8 (qv .B 4) b4)) (by decide) (by rfl) (by rfl)))) (by intro _; rfl)) (b6 (f8 (w4 (N8 (a8 (qv .V 3) (a8 (qv .V 4) b4)))))) j1) (b9 (i7 (@i5 _ _ _ _ _ _ _ _ _ _ _ _ (oq (AE hr)) (oy (neg:=false)) (qv .B 5) (qv .B 2) (by trivial)) (b6 (f8 (w4 (N8 (a8 Z9 (a8 (qv .V 5) b4)))))) j1) (b6 (f8 z6)))))))
theorem O4:Def (hk w) mg "moves_into" (top 31) ["stand", "moves", "ring"] 199 (FD "moves_into" 31 Q0 198):=dk Y (by kernel_rfl) fun _ _ _ _ _ _=>us3 fun _ _ _=>rfl
theorem ix:FnOk P w (hk w) mg base CX0 4 199 (FD "moves_into" 31 Q0 198) ["stand", "moves", "ring"] (spM (hk w) 3 .F U2):=
 okF (O4 Y) gY (.inl rfl) rfl rfl fun hr=>(b6 (f8 (@B6 _ _ _ _ _ _ _ _ _ _ _ _ _ _ _ _ (show i8 (b7 (top 31)) _ ["stand", "moves", "ring"] ["stand", "moves", "ring", "number", "move"] from by trivial) rfl (@yT _ _ _ _ _ _ _ _ _ _ (by rfl) (bl Y).enumerate_ (a8 (qv .B 1) b4) (by rfl) (by rfl)) (fun _ _ _ _=>(@D4 _ (hk w) _ _ _ _ 2 rfl (@j9 _ _ _ _ _ (@d4 _ _ 3 _ (by decide +kernel:(["stand", "moves", "ring", "number", "move"]:List Str).Nodup) rfl (Or.inl rfl) (.inr rfl)) (@j9 _ _ _ _ _ (@d4 _ _ 4 _ (by decide +kernel:(["stand", "moves", "ring", "number", "move"]:List Str).Nodup) rfl (Or.inl rfl) (.inr rfl)) D3 (by rfl)) (by rfl)) (by rfl) (by rfl) (by rfl))) (F8 (.inr rfl) (k4 (.inr rfl) j3 (k4 (.inr rfl) j3 D5))) (X9 (v6 (show 3<=3 by decide) (v6 (show 3<=4 by decide) Y0))) (fun _ _ _ _=>(yR (PW.pt (io (@p7 _ _ _ _ _ (j8 (g6 (@c9 _ _ _ _ _ _ _ _ _ _ _ _ _ _ _ _ (ou Y) (.inl rfl) (by trivial) (by rfl) (ap Y).m (ap Y).F.kp (ap Y).b (a8 (qv .B 0) (a8 (qv .B 4) b4)) (by decide) (by rfl) (by rfl)))) (by intro _; rfl)) (eL (@p7 _ _ _ _ _ (j8 (g6 (@c9 _ _ _ _ _ _ _ _ _ _ _ _ _ _ _ _ (aa Y) (.inl rfl) (by trivial) (by rfl) (v7 Y).m (v7 Y).F.kp (v7 Y).b (a8 (j8 (g6 (@c9 _ _ _ _ _ _ _ _ _ _ _ _ _ _ _ _ (jR Y) (.inl rfl) (by trivial) (by rfl) (U7 Y).m (U7 Y).F.kp (U7 Y).b (a8 (qv .B 0) (a8 (qv .B 4) b4)) (by decide) (by rfl) (by rfl)))) (a8 (qv .B 2) b4)) (by decide) (by rfl) (by rfl)))) (by intro _; rfl))))))) (fun _ _ _ _=>(qv .V 3)) (by intro _; rfl))))
theorem O3:Def (hk w) mg "row_inward" (top 30) ["moor", "rings"] 194 (FD "row_inward" 30 Q0 193):=dk Y (by kernel_rfl) fun _ _ _ _ _ _=>us2 fun _ _=>rfl
theorem iw:FnOk P w (hk w) mg base CX0 5 194 (FD "row_inward" 30 Q0 193) ["moor", "rings"] (spX (hk w) 2 L3):=
 okX (O3 Y) B4 rfl rfl fun hr=>(b9 (@l7 _ _ _ _ _ _ _ 2 _ _ B4.nd rfl (by trivial) (z7 b4) (by rfl) (by trivial)) (b9 (@E6 _ _ _ _ _ _ _ 3 _ _ B4.nd rfl (by trivial) (ge (qv .C 0) b5) (by rfl) (by trivial)) (b9 (@z8 _ _ _ _ _ _ _ _ _ _ _ _ _ PassesOwn.never rfl (@Cw _ _ _ _ _ _ _ _ (by rfl) (bl Y).reversed_ (a8 (eN (w4 (@q_sl _ _ _ _ _ _ true _ _ _ _ _ (qv .C 1) q_pN (q_pS (lw cU (lG (g:=ak) (fun _=>rfl) (fun _ _=>.int)) b5)) (by rfl)))) b4) (by rfl) (by rfl)) (@d4 _ _ 4 _ B4.nd rfl (by trivial) (by trivial)) j3 (b9 (@E6 _ _ _ _ _ _ _ 5 _ _ B4.nd rfl (by trivial) (ge (g6 (@c9 _ _ _ _ _ _ _ _ _ _ _ _ _ _ _ _ (ix Y) (.inl rfl) (by trivial) (by rfl) (O4 Y).m (O4 Y).F.kp (O4 Y).b (a8 (qv .B 3) (a8 (j7 (f7 (qv .B 0) b5)) (a8 (qv .B 4) b4))) (by decide) (by rfl) (by rfl))) b5) (by rfl) (by trivial)) (b9 (@Q7 _ _ _ _ _ _ _ 2 _ _ _ _ rfl (by trivial) (qv .V 5) (by decide) (by decide) (by rfl) (by rfl) (by rfl) (by rfl) (by rfl)) (b6 (@l7 _ _ _ _ _ _ _ 3 _ _ B4.nd rfl (by trivial) (@c9 _ _ _ _ _ _ _ _ _ _ _ _ _ _ _ _ (jR Y) (.inl rfl) (by trivial) (by rfl) (U7 Y).m (U7 Y).F.kp (U7 Y).b (a8 (qv .B 3) (a8 (j7 (f7 (j7 (f7 (qv .B 0) b5)) (qv .B 5))) b4)) (by decide) (by rfl) (by rfl)) (by rfl) (by trivial))))) (by intro _; rfl)) (b6 (@K4 _ _ _ _ _ 2 _ _ (.inr rfl) (by rfl) (by trivial) (by decide) (by decide))))))
theorem dJ:Def (hk w) mg "cover" (top 28) ["moor", "target", "most"] 180 (FD "cover" 28 Q0 179):=dk Y (by kernel_rfl) fun _ _ _ _ _ _=>us3 fun _ _ _=>rfl
theorem vp:FnOk P w (hk w) mg base CX0 6 180 (FD "cover" 28 Q0 179) ["moor", "target", "most"] (spM (hk w) 3 .V fh):=
 okF (dJ Y) eh (.inr rfl) rfl rfl fun hr=>(b9 (@l7 _ _ _ _ _ _ _ 3 _ _ eh.nd rfl (by trivial) (z7 (a8 (w4 (z7 (a8 (qv .V 1) b4))) b4)) (by rfl) (by trivial)) (b9 (eK PassesOwn.never (v9 (@p7 _ _ _ _ _ (j8 (g6 (@c9 _ _ _ _ _ _ _ _ _ _ _ _ _ _ _ _ (aa Y) (.inl rfl) (by trivial) (by rfl) (v7 Y).m (v7 Y).F.kp (v7 Y).b (a8 (j7 (f7 (qv .B 0) b5)) (a8 (j7 (f7 (qv .B 3) (lw cU (lG (g:=ak) (fun _=>rfl) (fun _ _=>.int)) b5))) b4)) (by decide) (by rfl) (by rfl)))) (by intro _; rfl))) (b9 (@uX _ _ _ _ _ _ _ 4 _ [3] _ _ _ _ _ _ _ _ _ _ _ eh.nd rfl (by trivial) (rh Y) (by trivial) (by rfl) (bV Y).m (bV Y).F.kp (bV Y).b (a8 (aR (f7 (qv .B 0) b5)) (a8 (qv .V 3) (a8 (qv .V 2) (a8 Z9 b4)))) (by decide) (by rfl) (by rfl) (by rfl) (by trivial)) (b9 (i7 (@i5 _ _ _ _ _ _ _ _ _ _ _ _ eO eQ (qv .B 4) z6 (by trivial)) (b6 (@K4 _ _ _ _ _ 4 _ _ (.inr rfl) (by rfl) (by trivial) (by decide) (by decide))) j1) (b6 (@Q7 _ _ _ _ _ _ _ 3 _ _ _ _ rfl (by trivial) (w4 (@c9 _ _ _ _ _ _ _ _ _ _ _ _ _ _ _ _ (jw Y) (.inl rfl) (by trivial) (by rfl) (R3 Y).m (R3 Y).F.kp (R3 Y).b (a8 (j7 (f7 (qv .B 0) b5)) (a8 (j7 (f7 (qv .B 3) (lw cU (lG (g:=ak) (fun _=>rfl) (fun _ _=>.int)) b5))) b4)) (by decide) (by rfl) (by rfl))) (by decide) (by decide) (by rfl) (by rfl) (by rfl) (by rfl) (by rfl)))))) (b6 (lA (f8 (w4 (N8 (a8 Z9 (a8 (@uY _ _ _ _ _ _ _ _ _ _ _ _ _ _ _ (iw Y) (by trivial) (by rfl) (O3 Y).m (O3 Y).F.kp (O3 Y).b (a8 (qv .V 0) (a8 (qv .V 3) b4)) (by decide) (by rfl) (by rfl)) b4)))))))))
theorem h7:Def (hk w) mg "_law_cell_at" (top 33) ["_law_script", "_law_k"] 206 (FD "_law_cell_at" 33 p4 205):=dk Y (by kernel_rfl) fun _ _ _ _ _ _=>us2 fun _ _=>rfl
theorem B8:FnOk P w (hk w) mg base CX0 1 206 (FD "_law_cell_at" 33 p4 205) ["_law_script", "_law_k"] (spM (hk w) 2 .F r9):=
 okF (h7 Y) eA (.inl rfl) rfl rfl fun hr=>(b9 (i7 (@i5 _ _ _ _ _ _ _ _ _ _ _ _ bG xGt (@r6 _ _ _ _ _ _ _ _ _ _ _ _ _ _ B0 A9 (by rfl) (bl Y).len_ PySem.boot_len (a8 (qv .B 0) b4) (by decide) (by decide) (by rfl) (by rfl)) b5 (by trivial)) (b6 (f8 (yU (f7 (qv .B 0) (g9 S9 (x8 (C:=F5) (g:=J0) (fun _ _=>rfl) (fun _ _ _=>.int)) (qv .B 1) (@r6 _ _ _ _ _ _ _ _ _ _ _ _ _ _ B0 A9 (by rfl) (bl Y).len_ PySem.boot_len (a8 (qv .B 0) b4) (by decide) (by decide) (by rfl) (by rfl))))))) j1) (b6 (f8 b5)))
theorem c6:Def (hk w) mg "_law_draw" (top 34) ["_law_script", "_law_k", "_law_many"] 213 (FD "_law_draw" 34 p4 212):=dk Y (by kernel_rfl) fun _ _ _ _ _ _=>us3 fun _ _ _=>rfl
theorem l6:FnOk P w (hk w) mg base CX0 2 213 (FD "_law_draw" 34 p4 212) ["_law_script", "_law_k", "_law_many"] (spM (hk w) 3 .F l4):=
 okF (c6 Y) jv (.inl rfl) rfl rfl fun hr=>(b6 (f8 (g9 S9 (x8 (C:=F5) (g:=J0) (fun _ _=>rfl) (fun _ _ _=>.int)) (g9 vm (x8 (C:=bq) (g:=sh) (fun _ _=>rfl) (fun _ _ _=>.int)) (g9 S9 (x8 (C:=F5) (g:=J0) (fun _ _=>rfl) (fun _ _ _=>.int)) (g9 F6 (x8 (C:=CMul) (g:=x9) (fun _ _=>rfl) (fun _ _ _=>.int)) (g9 k7 p8 (j8 (g6 (@c9 _ _ _ _ _ _ _ _ _ _ _ _ _ _ _ _ (B8 Y) (.inl rfl) (by trivial) (by rfl) (h7 Y).m (h7 Y).F.kp (h7 Y).b (a8 (qv .B 0) (a8 (qv .B 1) b4)) (by decide) (by rfl) (by rfl)))) b5) (g9 k7 p8 (g9 k7 p8 (g9 F6 (x8 (C:=CMul) (g:=x9) (fun _ _=>rfl) (fun _ _ _=>.int)) (qv .B 1) (qv .B 1)) (g9 F6 (x8 (C:=CMul) (g:=x9) (fun _ _=>rfl) (fun _ _ _=>.int)) b5 (qv .B 1))) b5)) b5) b5) (qv .B 2))))
theorem m7:Def (hk w) mg "_law_numbers" (top 35) ["_law_script", "_law_at", "_law_places", "_law_menu", "_law_scale_here"] 220 (FD "_law_numbers" 35 p4 219):=dk Y (by kernel_rfl) fun _ _ _ _ _ _=>us5 fun _ _ _ _ _=>rfl
theorem M2:FnOk P w (hk w) mg base CX0 3 220 (FD "_law_numbers" 35 p4 219) ["_law_script", "_law_at", "_law_places", "_law_menu", "_law_scale_here"] (spM (hk w) 5 .F o5):=
 okF (m7 Y) v5 (.inl rfl) rfl rfl fun hr=>(b9 (@l7 _ _ _ _ _ _ _ 5 _ _ v5.nd rfl (by trivial) (z7 b4) (by rfl) (by trivial)) (b9 (@z8 _ _ _ _ _ _ _ _ _ _ _ _ _ PassesOwn.never rfl (@P2 _ _ _ _ _ _ _ _ _ (by rfl) (bl Y).range_ (a8 (qv .B 2) b4) (by rfl)) (@d4 _ _ 6 _ v5.nd rfl (by trivial) (by trivial)) j3 (b9 (@dc _ _ _ _ _ _ _ 7 _ _ v5.nd rfl (by trivial) (f7 (qv .B 3) (j8 (g6 (@c9 _ _ _ _ _ _ _ _ _ _ _ _ _ _ _ _ (l6 Y) (.inl rfl) (by trivial) (by rfl) (c6 Y).m (c6 Y).F.kp (c6 Y).b (a8 (qv .B 0) (a8 (g9 k7 p8 (qv .B 1) (qv .B 6)) (a8 (@r6 _ _ _ _ _ _ _ _ _ _ _ _ _ _ B0 A9 (by rfl) (bl Y).len_ PySem.boot_len (a8 (qv .B 3) b4) (by decide) (by decide) (by rfl) (by rfl)) b4))) (by decide) (by rfl) (by rfl))))) (by rfl) (by trivial)) (b9 (i7 (PW.pt (io (@i5 _ _ _ _ _ _ _ _ _ _ _ _ N9 F7 (qv .B 4) b5 (by trivial)) (eL (@i5 _ _ _ _ _ _ _ _ _ _ _ _ bG xGt (qv .B 7) b5 (by trivial))))) (b6 (@E6 _ _ _ _ _ _ _ 7 _ _ v5.nd rfl (by trivial) (g9 S9 (x8 (C:=F5) (g:=J0) (fun _ _=>rfl) (fun _ _ _=>.int)) (g9 F6 (x8 (C:=CMul) (g:=x9) (fun _ _=>rfl) (fun _ _ _=>.int)) (g9 k7 p8 (j8 (g6 (@c9 _ _ _ _ _ _ _ _ _ _ _ _ _ _ _ _ (B8 Y) (.inl rfl) (by trivial) (by rfl) (h7 Y).m (h7 Y).F.kp (h7 Y).b (a8 (qv .B 0) (a8 (g9 k7 p8 (qv .B 1) (qv .B 6)) b4)) (by decide) (by rfl) (by rfl)))) (qv .B 6)) b5) (g9 k7 p8 (g9 dj (x8 (C:=N5) (g:=aj) (fun _ _=>rfl) (fun _ _ _=>.int)) b5 b5) b5)) (by rfl) (by trivial))) (b6 (@E6 _ _ _ _ _ _ _ 7 _ _ v5.nd rfl (by trivial) (g9 F6 (x8 (C:=CMul) (g:=x9) (fun _ _=>rfl) (fun _ _ _=>.int)) (qv .B 7) (qv .B 4)) (by rfl) (by trivial)))) (b6 (@Q7 _ _ _ _ _ _ _ 5 _ _ _ _ rfl (by trivial) (qv .V 7) (by decide) (by decide) (by rfl) (by rfl) (by rfl) (by rfl) (by rfl))))) (by intro _; rfl)) (b6 (f8 (@M0 _ _ _ _ _ _ _ _ _ _ _ _ _ _ O7 (O6 (c:=true)) (by rfl) (bl Y).tuple_ w8 (a8 (qv .C 5) b4) (by decide) (by decide) (by rfl) (by rfl))))))
theorem O5:Def (hk w) mg "_law_scale" (top 36) ["_law_script"] 227 (FD "_law_scale" 36 p4 226):=dk Y (by kernel_rfl) fun _ _ _ _ _ _=>us1 fun _=>rfl
theorem iA:FnOk P w (hk w) mg base CX0 3 227 (FD "_law_scale" 36 p4 226) ["_law_script"] (spM (hk w) 1 .F U6):=
 okF (O5 Y) aI (.inl rfl) rfl rfl fun hr=>(b9 (@l7 _ _ _ _ _ _ _ 1 _ _ aI.nd rfl (by trivial) (@c9 _ _ _ _ _ _ _ _ _ _ _ _ _ _ _ _ (l6 Y) (.inl rfl) (by trivial) (by rfl) (c6 Y).m (c6 Y).F.kp (c6 Y).b (a8 (qv .B 0) (a8 b5 (a8 b5 b4))) (by decide) (by rfl) (by rfl)) (by rfl) (by trivial)) (b9 (i7 (@i5 _ _ _ _ _ _ _ _ _ _ _ _ N9 F7 (qv .B 1) b5 (by trivial)) (b6 (f8 b5)) j1) (b9 (i7 (@i5 _ _ _ _ _ _ _ _ _ _ _ _ bG xGt (qv .B 1) b5 (by trivial)) (b6 (f8 (g9 k7 p8 b5 (g9 S9 (x8 (C:=F5) (g:=J0) (fun _ _=>rfl) (fun _ _ _=>.int)) (g9 F6 (x8 (C:=CMul) (g:=x9) (fun _ _=>rfl) (fun _ _ _=>.int)) (j8 (g6 (@c9 _ _ _ _ _ _ _ _ _ _ _ _ _ _ _ _ (B8 Y) (.inl rfl) (by trivial) (by rfl) (h7 Y).m (h7 Y).F.kp (h7 Y).b (a8 (qv .B 0) (a8 b5 b4)) (by decide) (by rfl) (by rfl)))) b5) (g9 dj (x8 (C:=N5) (g:=aj) (fun _ _=>rfl) (fun _ _ _=>.int)) b5 b5))))) j1) (b6 (f8 b5)))))
theorem R5:Def (hk w) mg "_law_moor" (top 37) ["_law_script"] 234 (FD "_law_moor" 37 p4 233):=dk Y (by kernel_rfl) fun _ _ _ _ _ _=>us1 fun _=>rfl
theorem jy:FnOk P w (hk w) mg base CX0 4 234 (FD "_law_moor" 37 p4 233) ["_law_script"] (spM (hk w) 1 .F W7):=
 okF (R5 Y) t4 (.inl rfl) rfl rfl fun hr=>(@b9 _ _ _ _ _ _ _ _ (@E6 _ _ _ _ _ _ _ 1 _ _ t4.nd rfl (by trivial) (@ge _ _ _ _ _ _ _ _ (@g6 _ _ _ _ _ (@z7 _ _ _ _ _ _ (@a8 _ _ _ _ _ _ _ _ (@b5 _ _ _ _ _ _ _) (@a8 _ _ _ _ _ _ _ _ (@b5 _ _ _ _ _ _ _) (@a8 _ _ _ _ _ _ _ _ (@b5 _ _ _ _ _ _ _) (@a8 _ _ _ _ _ _ _ _ (@b5 _ _ _ _ _ _ _) (@a8 _ _ _ _ _ _ _ _ (@b5 _ _ _ _ _ _ _) (@a8 _ _ _ _ _ _ _ _ (@b5 _ _ _ _ _ _ _) (@a8 _ _ _ _ _ _ _ _ (@b5 _ _ _ _ _ _ _) (@a8 _ _ _ _ _ _ _ _ (@b5 _ _ _ _ _ _ _) (@b4 _ _ _ _) (by rfl)) (by rfl)) (by rfl)) (by rfl)) (by rfl)) (by rfl)) (by rfl)) (by rfl)))) (@g6 _ _ _ _ _ (@c9 _ _ _ _ _ _ _ _ _ _ _ _ _ _ _ _ (l6 Y) (.inl rfl) (by trivial) (by rfl) (c6 Y).m (c6 Y).F.kp (c6 Y).b (@a8 _ _ _ _ _ _ _ _ (@qv _ _ _ _ .B 0 _ (by rfl) (by trivial) (by decide) (by decide)) (@a8 _ _ _ _ _ _ _ _ (@b5 _ _ _ _ _ _ _) (@a8 _ _ _ _ _ _ _ _ (@b5 _ _ _ _ _ _ _) (@b4 _ _ _ _) (by rfl)) (by rfl)) (by rfl)) (by decide) (by rfl) (by rfl))) (by exact fun _ _=>rfl) (by rfl)) (by rfl) (by trivial)) (@b9 _ _ _ _ _ _ _ _ (@l7 _ _ _ _ _ _ _ 2 _ _ t4.nd rfl (by trivial) (@c9 _ _ _ _ _ _ _ _ _ _ _ _ _ _ _ _ (iA Y) (.inl rfl) (by trivial) (by rfl) (O5 Y).m (O5 Y).F.kp (O5 Y).b (@a8 _ _ _ _ _ _ _ _ (@qv _ _ _ _ .B 0 _ (by rfl) (by trivial) (by decide) (by decide)) (@b4 _ _ _ _) (by rfl)) (by decide) (by rfl) (by rfl)) (by rfl) (by trivial)) (@b9 _ _ _ _ _ _ _ _ (@l7 _ _ _ _ _ _ _ 3 _ _ t4.nd rfl (by trivial) (@z7 _ _ _ _ _ _ (@b4 _ _ _ _)) (by rfl) (by trivial)) (@b9 _ _ _ _ _ _ _ _ (@z8 _ _ _ _ _ _ _ _ _ _ _ _ _ PassesOwn.never rfl (@P2 _ _ _ _ _ _ _ _ _ (by rfl) (bl Y).range_ (@a8 _ _ _ _ _ _ _ _ (@j7 _ _ _ _ _ (@f7 _ _ _ _ _ _ _ _ (@j8 _ _ _ _ _ (@g6 _ _ _ _ _ (@z7 _ _ _ _ _ _ (@a8 _ _ _ _ _ _ _ _ (@b5 _ _ _ _ _ _ _) (@a8 _ _ _ _ _ _ _ _ (@b5 _ _ _ _ _ _ _) (@a8 _ _ _ _ _ _ _ _ (@b5 _ _ _ _ _ _ _) (@a8 _ _ _ _ _ _ _ _ (@b5 _ _ _ _ _ _ _) (@a8 _ _ _ _ _ _ _ _ (@b5 _ _ _ _ _ _ _) (@a8 _ _ _ _ _ _ _ _ (@b5 _ _ _ _ _ _ _) (@a8 _ _ _ _ _ _ _ _ (@b5 _ _ _ _ _ _ _) (@a8 _ _ _ _ _ _ _ _ (@b5 _ _ _ _ _ _ _) (@a8 _ _ _ _ _ _ _ _ (@b5 _ _ _ _ _ _ _) (@b4 _ _ _ _) (by rfl)) (by rfl)) (by rfl)) (by rfl)) (by rfl)) (by rfl)) (by rfl)) (by rfl)) (by rfl))))) (@j8 _ _ _ _ _ (@g6 _ _ _ _ _ (@c9 _ _ _ _ _ _ _ _ _ _ _ _ _ _ _ _ (l6 Y) (.inl rfl) (by trivial) (by rfl) (c6 Y).m (c6 Y).F.kp (c6 Y).b (@a8 _ _ _ _ _ _ _ _ (@qv _ _ _ _ .B 0 _ (by rfl) (by trivial) (by decide) (by decide)) (@a8 _ _ _ _ _ _ _ _ (@b5 _ _ _ _ _ _ _) (@a8 _ _ _ _ _ _ _ _ (@b5 _ _ _ _ _ _ _) (@b4 _ _ _ _) (by rfl)) (by rfl)) (by rfl)) (by decide) (by rfl) (by rfl)))) (by exact fun _ _=>rfl) (by rfl))) (@b4 _ _ _ _) (by rfl)) (by rfl)) (@d4 _ _ 4 _ t4.nd rfl (by trivial) (by trivial)) (@j3 _ _) (@b9 _ _ _ _ _ _ _ _ (@E6 _ _ _ _ _ _ _ 5 _ _ t4.nd rfl (by trivial) (@g9 _ _ _ _ _ _ _ _ _ _ _ _ _ k7 p8 (@b5 _ _ _ _ _ _ _) (@g9 _ _ _ _ _ _ _ _ _ _ _ _ _ F6 (x8 (C:=CMul) (g:=x9) (fun _ _=>rfl) (fun _ _ _=>.int)) (@qv _ _ _ _ .B 1 _ (by rfl) (by trivial) (by decide) (by decide)) (@g9 _ _ _ _ _ _ _ _ _ _ _ _ _ k7 p8 (@g9 _ _ _ _ _ _ _ _ _ _ _ _ _ F6 (x8 (C:=CMul) (g:=x9) (fun _ _=>rfl) (fun _ _ _=>.int)) (@b5 _ _ _ _ _ _ _) (@qv _ _ _ _ .B 4 _ (by rfl) (by trivial) (by decide) (by decide))) (@b5 _ _ _ _ _ _ _)))) (by rfl) (by trivial)) (@b9 _ _ _ _ _ _ _ _ (@l7 _ _ _ _ _ _ _ 6 _ _ t4.nd rfl (by trivial) (@c9 _ _ _ _ _ _ _ _ _ _ _ _ _ _ _ _ (M2 Y) (.inl rfl) (by trivial) (by rfl) (m7 Y).m (m7 Y).F.kp (m7 Y).b (@a8 _ _ _ _ _ _ _ _ (@qv _ _ _ _ .B 0 _ (by rfl) (by trivial) (by decide) (by decide)) (@a8 _ _ _ _ _ _ _ _ (@qv _ _ _ _ .B 5 _ (by rfl) (by trivial) (by decide) (by decide)) (@a8 _ _ _ _ _ _ _ _ (@qv _ _ _ _ .B 1 _ (by rfl) (by trivial) (by decide) (by decide)) (@a8 _ _ _ _ _ _ _ _ (@j8 _ _ _ _ _ (@g6 _ _ _ _ _ (@z7 _ _ _ _ _ _ (@a8 _ _ _ _ _ _ _ _ (@b5 _ _ _ _ _ _ _) (@a8 _ _ _ _ _ _ _ _ (@b5 _ _ _ _ _ _ _) (@a8 _ _ _ _ _ _ _ _ (@b5 _ _ _ _ _ _ _) (@a8 _ _ _ _ _ _ _ _ (@b5 _ _ _ _ _ _ _) (@a8 _ _ _ _ _ _ _ _ (@b5 _ _ _ _ _ _ _) (@a8 _ _ _ _ _ _ _ _ (@b5 _ _ _ _ _ _ _) (@b4 _ _ _ _) (by rfl)) (by rfl)) (by rfl)) (by rfl)) (by rfl)) (by rfl))))) (@a8 _ _ _ _ _ _ _ _ (@qv _ _ _ _ .B 2 _ (by rfl) (by trivial) (by decide) (by decide)) (@b4 _ _ _ _) (by rfl)) (by rfl)) (by rfl)) (by rfl)) (by rfl)) (by decide) (by rfl) (by rfl)) (by rfl) (by trivial)) (@b9 _ _ _ _ _ _ _ _ (@l7 _ _ _ _ _ _ _ 7 _ _ t4.nd rfl (by trivial) (@c9 _ _ _ _ _ _ _ _ _ _ _ _ _ _ _ _ (M2 Y) (.inl rfl) (by trivial) (by rfl) (m7 Y).m (m7 Y).F.kp (m7 Y).b (@a8 _ _ _ _ _ _ _ _ (@qv _ _ _ _ .B 0 _ (by rfl) (by trivial) (by decide) (by decide)) (@a8 _ _ _ _ _ _ _ _ (@g9 _ _ _ _ _ _ _ _ _ _ _ _ _ k7 p8 (@qv _ _ _ _ .B 5 _ (by rfl) (by trivial) (by decide) (by decide)) (@qv _ _ _ _ .B 1 _ (by rfl) (by trivial) (by decide) (by decide))) (@a8 _ _ _ _ _ _ _ _ (@qv _ _ _ _ .B 1 _ (by rfl) (by trivial) (by decide) (by decide)) (@a8 _ _ _ _ _ _ _ _ (@j8 _ _ _ _ _ (@g6 _ _ _ _ _ (@z7 _ _ _ _ _ _ (@a8 _ _ _ _ _ _ _ _ (@b5 _ _ _ _ _ _ _) (@a8 _ _ _ _ _ _ _ _ (@b5 _ _ _ _ _ _ _) (@a8 _ _ _ _ _ _ _ _ (@b5 _ _ _ _ _ _ _) (@a8 _ _ _ _ _ _ _ _ (@b5 _ _ _ _ _ _ _) (@a8 _ _ _ _ _ _ _ _ (@b5 _ _ _ _ _ _ _) (@a8 _ _ _ _ _ _ _ _ (@b5 _ _ _ _ _ _ _) (@b4 _ _ _ _) (by rfl)) (by rfl)) (by rfl)) (by rfl)) (by rfl)) (by rfl))))) (@a8 _ _ _ _ _ _ _ _ (@qv _ _ _ _ .B 2 _ (by rfl) (by trivial) (by decide) (by decide)) (@b4 _ _ _ _) (by rfl)) (by rfl)) (by rfl)) (by rfl)) (by rfl)) (by decide) (by rfl) (by rfl)) (by rfl) (by trivial)) (@b6 _ _ _ _ _ _ (@lA _ _ _ _ _ _ _ (@lA _ _ _ _ _ _ _ (@Q7 _ _ _ _ _ _ _ 3 _ _ _ _ rfl (by trivial) (@w4 _ _ _ _ _ (@N8 _ _ _ _ _ _ _ (@a8 _ _ _ _ _ _ _ _ (@qv _ _ _ _ .V 6 _ (by rfl) (by trivial) (by decide) (by decide)) (@a8 _ _ _ _ _ _ _ _ (@qv _ _ _ _ .V 7 _ (by rfl) (by trivial) (by decide) (by decide)) (@b4 _ _ _ _) (by rfl)) (by rfl)))) (by decide) (by decide) (by rfl) (by rfl) (by rfl) (by rfl) (by rfl)))))))) (by intro _; rfl)) (@b9 _ _ _ _ _ _ _ _ (@l7 _ _ _ _ _ _ _ 8 _ _ t4.nd rfl (by trivial) (@M0 _ _ _ _ _ _ _ _ _ _ _ _ _ _ jq (jg (c:=true)) (by rfl) (bl Y).list_ Y8 (@a8 _ _ _ _ _ _ _ _ (@g6 _ _ _ _ _ (@c9 _ _ _ _ _ _ _ _ _ _ _ _ _ _ _ _ (M2 Y) (.inl rfl) (by trivial) (by rfl) (m7 Y).m (m7 Y).F.kp (m7 Y).b (@a8 _ _ _ _ _ _ _ _ (@qv _ _ _ _ .B 0 _ (by rfl) (by trivial) (by decide) (by decide)) (@a8 _ _ _ _ _ _ _ _ (@b5 _ _ _ _ _ _ _) (@a8 _ _ _ _ _ _ _ _ (@qv _ _ _ _ .B 1 _ (by rfl) (by trivial) (by decide) (by decide)) (@a8 _ _ _ _ _ _ _ _ (@j8 _ _ _ _ _ (@g6 _ _ _ _ _ (@z7 _ _ _ _ _ _ (@a8 _ _ _ _ _ _ _ _ (@b5 _ _ _ _ _ _ _) (@a8 _ _ _ _ _ _ _ _ (@b5 _ _ _ _ _ _ _) (@a8 _ _ _ _ _ _ _ _ (@b5 _ _ _ _ _ _ _) (@a8 _ _ _ _ _ _ _ _ (@b5 _ _ _ _ _ _ _) (@a8 _ _ _ _ _ _ _ _ (@b5 _ _ _ _ _ _ _) (@a8 _ _ _ _ _ _ _ _ (@b5 _ _ _ _ _ _ _) (@b4 _ _ _ _) (by rfl)) (by rfl)) (by rfl)) (by rfl)) (by rfl)) (by rfl))))) (@a8 _ _ _ _ _ _ _ _ (@qv _ _ _ _ .B 2 _ (by rfl) (by trivial) (by decide) (by decide)) (@b4 _ _ _ _) (by rfl)) (by rfl)) (by rfl)) (by rfl)) (by rfl)) (by decide) (by rfl) (by rfl))) (@b4 _ _ _ _) (by rfl)) (by decide) (by decide) (by rfl) (by rfl)) (by rfl) (by trivial)) (@b9 _ _ _ _ _ _ _ _ (@i7 _ _ _ _ _ _ _ _ _ _ _ (@i5 _ _ _ _ _ _ _ _ _ _ _ _ N9 F7 (@j8 _ _ _ _ _ (@g6 _ _ _ _ _ (@c9 _ _ _ _ _ _ _ _ _ _ _ _ _ _ _ _ (l6 Y) (.inl rfl) (by trivial) (by rfl) (c6 Y).m (c6 Y).F.kp (c6 Y).b (@a8 _ _ _ _ _ _ _ _ (@qv _ _ _ _ .B 0 _ (by rfl) (by trivial) (by decide) (by decide)) (@a8 _ _ _ _ _ _ _ _ (@b5 _ _ _ _ _ _ _) (@a8 _ _ _ _ _ _ _ _ (@b5 _ _ _ _ _ _ _) (@b4 _ _ _ _) (by rfl)) (by rfl)) (by rfl)) (by decide) (by rfl) (by rfl)))) (@b5 _ _ _ _ _ _ _) (by trivial)) (@b6 _ _ _ _ _ _ (@de _ _ _ _ _ _ _ _ 8 _ _ _ _ rfl (by trivial) (@j8 _ _ _ _ _ (@g6 _ _ _ _ _ (@c9 _ _ _ _ _ _ _ _ _ _ _ _ _ _ _ _ (l6 Y) (.inl rfl) (by trivial) (by rfl) (c6 Y).m (c6 Y).F.kp (c6 Y).b (@a8 _ _ _ _ _ _ _ _ (@qv _ _ _ _ .B 0 _ (by rfl) (by trivial) (by decide) (by decide)) (@a8 _ _ _ _ _ _ _ _ (@b5 _ _ _ _ _ _ _) (@a8 _ _ _ _ _ _ _ _ (@qv _ _ _ _ .B 1 _ (by rfl) (by trivial) (by decide) (by decide)) (@b4 _ _ _ _) (by rfl)) (by rfl)) (by rfl)) (by decide) (by rfl) (by rfl)))) (@g9 _ _ _ _ _ _ _ _ _ _ _ _ _ S9 (x8 (C:=F5) (g:=J0) (fun _ _=>rfl) (fun _ _ _=>.int)) (@g9 _ _ _ _ _ _ _ _ _ _ _ _ _ F6 (x8 (C:=CMul) (g:=x9) (fun _ _=>rfl) (fun _ _ _=>.int)) (@j8 _ _ _ _ _ (@g6 _ _ _ _ _ (@c9 _ _ _ _ _ _ _ _ _ _ _ _ _ _ _ _ (B8 Y) (.inl rfl) (by trivial) (by rfl) (h7 Y).m (h7 Y).F.kp (h7 Y).b (@a8 _ _ _ _ _ _ _ _ (@qv _ _ _ _ .B 0 _ (by rfl) (by trivial) (by decide) (by decide)) (@a8 _ _ _ _ _ _ _ _ (@b5 _ _ _ _ _ _ _) (@b4 _ _ _ _) (by rfl)) (by rfl)) (by decide) (by rfl) (by rfl)))) (@b5 _ _ _ _ _ _ _)) (@g9 _ _ _ _ _ _ _ _ _ _ _ _ _ dj (x8 (C:=N5) (g:=aj) (fun _ _=>rfl) (fun _ _ _=>.int)) (@b5 _ _ _ _ _ _ _) (@b5 _ _ _ _ _ _ _))) (by decide) (by decide) (@aU _ _ _ _ _ _ _ (@pv _ 8 _ _ (by rfl) (by trivial) (by decide) (by decide)) (@j8 _ _ _ _ _ (@g6 _ _ _ _ _ (@c9 _ _ _ _ _ _ _ _ _ _ _ _ _ _ _ _ (l6 Y) (.inl rfl) (by trivial) (by rfl) (c6 Y).m (c6 Y).F.kp (c6 Y).b (@a8 _ _ _ _ _ _ _ _ (@qv _ _ _ _ .B 0 _ (by rfl) (by trivial) (by decide) (by decide)) (@a8 _ _ _ _ _ _ _ _ (@b5 _ _ _ _ _ _ _) (@a8 _ _ _ _ _ _ _ _ (@qv _ _ _ _ .B 1 _ (by rfl) (by trivial) (by decide) (by decide)) (@b4 _ _ _ _) (by rfl)) (by rfl)) (by rfl)) (by decide) (by rfl) (by rfl)))) set_list (by intro _; rfl)) (by rfl) (by rfl))) (@j1 _ _ _ _)) (@b6 _ _ _ _ _ _ (@f8 _ _ _ _ _ _ _ (@N8 _ _ _ _ _ _ _ (@a8 _ _ _ _ _ _ _ _ (@w4 _ _ _ _ _ (@M0 _ _ _ _ _ _ _ _ _ _ _ _ _ _ O7 (O6 (c:=true)) (by rfl) (bl Y).tuple_ w8 (@a8 _ _ _ _ _ _ _ _ (@qv _ _ _ _ .C 8 _ (by rfl) (by trivial) (by decide) (by decide)) (@b4 _ _ _ _) (by rfl)) (by decide) (by decide) (by rfl) (by rfl))) (@a8 _ _ _ _ _ _ _ _ (@w4 _ _ _ _ _ (@M0 _ _ _ _ _ _ _ _ _ _ _ _ _ _ O7 (O6 (c:=true)) (by rfl) (bl Y).tuple_ w8 (@a8 _ _ _ _ _ _ _ _ (@qv _ _ _ _ .C 3 _ (by rfl) (by trivial) (by decide) (by decide)) (@b4 _ _ _ _) (by rfl)) (by decide) (by decide) (by rfl) (by rfl))) (@b4 _ _ _ _) (by rfl)) (by rfl)))))))))))
theorem L4:Def (hk w) mg "_law_target" (top 38) ["_law_script", "_law_at", "_law_caps", "_law_places"] 239 (FD "_law_target" 38 p4 238):=dk Y (by kernel_rfl) fun _ _ _ _ _ _=>us4 fun _ _ _ _=>rfl
theorem fZ:FnOk P w (hk w) mg base CX0 3 239 (FD "_law_target" 38 p4 238) ["_law_script", "_law_at", "_law_caps", "_law_places"] (spM (hk w) 4 .F Q2):=
 okF (L4 Y) u5 (.inl rfl) rfl rfl fun hr=>(b9 (@dc _ _ _ _ _ _ _ 4 _ _ u5.nd rfl (by trivial) (f7 (qv .B 2) (j8 (g6 (@c9 _ _ _ _ _ _ _ _ _ _ _ _ _ _ _ _ (l6 Y) (.inl rfl) (by trivial) (by rfl) (c6 Y).m (c6 Y).F.kp (c6 Y).b (a8 (qv .B 0) (a8 (qv .B 1) (a8 (@r6 _ _ _ _ _ _ _ _ _ _ _ _ _ _ B0 A9 (by rfl) (bl Y).len_ PySem.boot_len (a8 (qv .B 2) b4) (by decide) (by decide) (by rfl) (by rfl)) b4))) (by decide) (by rfl) (by rfl))))) (by rfl) (by trivial)) (b9 (@l7 _ _ _ _ _ _ _ 5 _ _ u5.nd rfl (by trivial) (z7 b4) (by rfl) (by trivial)) (b9 (@z8 _ _ _ _ _ _ _ _ _ _ _ _ _ PassesOwn.never rfl (@P2 _ _ _ _ _ _ _ _ _ (by rfl) (bl Y).range_ (a8 (qv .B 3) b4) (by rfl)) (@d4 _ _ 6 _ u5.nd rfl (by trivial) (by trivial)) j3 (b6 (i7 (@i5 _ _ _ _ _ _ _ _ _ _ _ _ T0 T6 (j7 (f7 (qv .B 4) (qv .B 6))) z6 (by trivial)) (b6 (@Q7 _ _ _ _ _ _ _ 5 _ _ _ _ rfl (by trivial) (w4 (@c9 _ _ _ _ _ _ _ _ _ _ _ _ _ _ _ _ (l6 Y) (.inl rfl) (by trivial) (by rfl) (c6 Y).m (c6 Y).F.kp (c6 Y).b (a8 (qv .B 0) (a8 (g9 k7 p8 (g9 k7 p8 (qv .B 1) b5) (qv .B 6)) (a8 b5 b4))) (by decide) (by rfl) (by rfl))) (by decide) (by decide) (by rfl) (by rfl) (by rfl) (by rfl) (by rfl))) (b6 (@Q7 _ _ _ _ _ _ _ 5 _ _ _ _ rfl (by trivial) (aR (f7 (qv .B 4) (qv .B 6))) (by decide) (by decide) (by rfl) (by rfl) (by rfl) (by rfl) (by rfl))))) (by intro _; rfl)) (b9 (@l7 _ _ _ _ _ _ _ 7 _ _ u5.nd rfl (by trivial) (@c9 _ _ _ _ _ _ _ _ _ _ _ _ _ _ _ _ (l6 Y) (.inl rfl) (by trivial) (by rfl) (c6 Y).m (c6 Y).F.kp (c6 Y).b (a8 (qv .B 0) (a8 (g9 k7 p8 (qv .B 1) b5) (a8 (qv .B 3) b4))) (by decide) (by rfl) (by rfl)) (by rfl) (by trivial)) (b9 (@l7 _ _ _ _ _ _ _ 8 _ _ u5.nd rfl (by trivial) (@c9 _ _ _ _ _ _ _ _ _ _ _ _ _ _ _ _ (l6 Y) (.inl rfl) (by trivial) (by rfl) (c6 Y).m (c6 Y).F.kp (c6 Y).b (a8 (qv .B 0) (a8 (g9 k7 p8 (qv .B 1) b5) (a8 b5 b4))) (by decide) (by rfl) (by rfl)) (by rfl) (by trivial)) (b9 (i7 (@i5 _ _ _ _ _ _ _ _ _ _ _ _ N9 F7 (qv .B 8) b5 (by trivial)) (b6 (@de _ _ _ _ _ _ _ _ 5 _ _ _ _ rfl (by trivial) (qv .B 7) (@r6 _ _ _ _ _ _ _ _ _ _ _ _ _ _ (fV rfl) (b_2 (g:=ff)) (by rfl) (bl Y).max_ pJ (a8 (g9 aV gA (j7 (f7 (qv .B 5) (qv .B 7))) b5) (a8 b5 b4)) (by decide) (by decide) (by rfl) (by rfl)) (by decide) (by decide) (@aU _ _ _ _ _ _ _ (@pv _ 5 _ _ (by rfl) (by trivial) (by decide) (by decide)) (qv .B 7) set_list (by intro _; rfl)) (by rfl) (by rfl))) j1) (b9 (i7 (@i5 _ _ _ _ _ _ _ _ _ _ _ _ N9 F7 (qv .B 8) b5 (by trivial)) (b6 (@de _ _ _ _ _ _ _ _ 5 _ _ _ _ rfl (by trivial) (qv .B 7) (g9 k7 p8 (j7 (f7 (qv .B 5) (qv .B 7))) b5) (by decide) (by decide) (@aU _ _ _ _ _ _ _ (@pv _ 5 _ _ (by rfl) (by trivial) (by decide) (by decide)) (qv .B 7) set_list (by intro _; rfl)) (by rfl) (by rfl))) j1) (b9 (i7 (@i5 _ _ _ _ _ _ _ _ _ _ _ _ N9 F7 (qv .B 8) b5 (by trivial)) (b6 (@de _ _ _ _ _ _ _ _ 5 _ _ _ _ rfl (by trivial) (qv .B 7) (g9 k7 p8 (g9 k7 p8 (j7 (f7 (qv .B 5) (qv .B 7))) b5) (g9 S9 (x8 (C:=F5) (g:=J0) (fun _ _=>rfl) (fun _ _ _=>.int)) (g9 F6 (x8 (C:=CMul) (g:=x9) (fun _ _=>rfl) (fun _ _ _=>.int)) (j8 (g6 (@c9 _ _ _ _ _ _ _ _ _ _ _ _ _ _ _ _ (B8 Y) (.inl rfl) (by trivial) (by rfl) (h7 Y).m (h7 Y).F.kp (h7 Y).b (a8 (qv .B 0) (a8 (g9 k7 p8 (qv .B 1) b5) b4)) (by decide) (by rfl) (by rfl)))) b5) (g9 dj (x8 (C:=N5) (g:=aj) (fun _ _=>rfl) (fun _ _ _=>.int)) b5 b5))) (by decide) (by decide) (@aU _ _ _ _ _ _ _ (@pv _ 5 _ _ (by rfl) (by trivial) (by decide) (by decide)) (qv .B 7) set_list (by intro _; rfl)) (by rfl) (by rfl))) j1) (b9 (i7 (@i5 _ _ _ _ _ _ _ _ _ _ _ _ N9 F7 (qv .B 8) b5 (by trivial)) (b6 (@yP _ _ _ _ _ _ _ 5 _ _ _ _ _ _ _ _ _ _ _ _ _ (show i8 (b7 (top 38)) _ ["_law_script", "_law_at", "_law_caps", "_law_places", "_law_cap", "_law_found", "_law_k", "_law_place", "_law_kind"] ["_law_script", "_law_at", "_law_caps", "_law_places", "_law_cap", "_law_found", "#_law_k", "_law_place", "_law_kind", "_law_k"] from by trivial) rfl (@P2 _ _ _ _ _ _ _ _ _ (by rfl) (bl Y).range_ (a8 (qv .B 3) b4) (by rfl)) (fun _ _ _ _=>(@d4 _ _ 9 _ (by decide +kernel:(["_law_script", "_law_at", "_law_caps", "_law_places", "_law_cap", "_law_found", "#_law_k", "_law_place", "_law_kind", "_law_k"]:List Str).Nodup) rfl (Or.inl rfl) (.inr rfl))) j3 (K0 (show 9<=9 by decide)) (fun _ _ _ _=>B5) (fun _ _ _ _=>(w4 (@c9 _ _ _ _ _ _ _ _ _ _ _ _ _ _ _ _ (l6 Y) (.inl rfl) (by trivial) (by rfl) (c6 Y).m (c6 Y).F.kp (c6 Y).b (a8 (qv .B 0) (a8 (g9 k7 p8 (g9 k7 p8 (qv .B 1) b5) (qv .B 9)) (a8 b5 b4))) (by decide) (by rfl) (by rfl)))) u5.nd rfl (by trivial) (by rfl) (by trivial) (by intro _; rfl))) j1) (b6 (@K4 _ _ _ _ _ 5 _ _ (.inl rfl) (by rfl) (by trivial) (by decide) (by decide))))))))))))
theorem o8:Def (hk w) mg "_law_under_one" (top 39) ["_law_target_here", "_law_caps"] 244 (FD "_law_under_one" 39 p4 243):=dk Y (by kernel_rfl) fun _ _ _ _ _ _=>us2 fun _ _=>rfl
theorem T4:FnOk P w (hk w) mg base CX0 1 244 (FD "_law_under_one" 39 p4 243) ["_law_target_here", "_law_caps"] (spM (hk w) 2 .F w6):=
 okF (o8 Y) S6 (.inl rfl) rfl rfl fun hr=>(b9 (@z8 _ _ _ _ _ _ _ _ _ _ _ _ _ PassesOwn.never rfl (@K5 _ _ _ _ _ _ (qv .U 1) (by rfl)) (@d4 _ _ 2 _ S6.nd rfl (by trivial) (by trivial)) j3 (b6 (i7 (@p7 _ _ _ _ _ (@r6 _ _ _ _ _ _ _ _ _ _ _ _ _ _ (bj rfl) (fm (g:=U0)) (by rfl) (bl Y).all_ jf (a8 (j8 (g6 (@B6 _ _ _ _ _ _ _ _ _ _ _ _ _ _ _ _ (show i8 (b7 (top 39)) _ ["_law_target_here", "_law_caps", "_law_cap"] ["_law_target_here", "_law_caps", "_law_cap", "_law_k"] from by trivial) rfl (@P2 _ _ _ _ _ _ _ _ _ (by rfl) (bl Y).range_ (a8 (@r6 _ _ _ _ _ _ _ _ _ _ _ _ _ _ B0 A9 (by rfl) (bl Y).len_ PySem.boot_len (a8 (qv .B 0) b4) (by decide) (by decide) (by rfl) (by rfl)) b4) (by rfl)) (fun _ _ _ _=>(@d4 _ _ 3 _ (by decide +kernel:(["_law_target_here", "_law_caps", "_law_cap", "_law_k"]:List Str).Nodup) rfl (Or.inl rfl) (.inr rfl))) j3 (K0 (show 3<=3 by decide)) (fun _ _ _ _=>B5) (fun _ _ _ _=>(q_or (@lB _ _ _ _ _ _ _ _ _ _ _ _ _ T0 T6 (j7 (f7 (qv .B 2) (qv .B 3))) z6 (by trivial)) (Cz (@lB _ _ _ _ _ _ _ _ _ _ _ _ _ tL xLe (j7 (f7 (qv .B 0) (qv .B 3))) (j7 (f7 (qv .B 2) (qv .B 3))) (by trivial))))) (by intro _; rfl)))) b4) (by decide) (by decide) (by rfl) (by rfl)) (by intro _; rfl)) (b6 (f8 B7)) j1)) (by intro _; rfl)) (b6 (f8 B7)))
theorem R6:Def (hk w) mg "_law_goes" (top 40) ["_law_begin", "_law_moves", "_law_row", "_law_target_here"] 249 (FD "_law_goes" 40 p4 248):=dk Y (by kernel_rfl) fun _ _ _ _ _ _=>us4 fun _ _ _ _=>rfl
theorem jz:FnOk P w (hk w) mg base CX0 1 249 (FD "_law_goes" 40 p4 248) ["_law_begin", "_law_moves", "_law_row", "_law_target_here"] (spM (hk w) 4 .F O2):=
 okF (R6 Y) D2 (.inl rfl) rfl rfl fun hr=>(b9 (i7 (v9 (@p7 _ _ _ _ _ (@r6 _ _ _ _ _ _ _ _ _ _ _ _ _ _ V0 dP (by rfl) (bl Y).isinstance_ PyProof.Rows.boot_isinstance (a8 (qv .B 2) (a8 (@im _ _ _ _ _ _ _ (by rfl) (bl Y).list_ Y8 (by decide) (by decide)) b4)) (by decide) (by decide) (by rfl) (by rfl)) (by intro _; rfl))) (b6 (f8 B7)) j1) (b9 (@l7 _ _ _ _ _ _ _ 4 _ _ D2.nd rfl (by trivial) (@M0 _ _ _ _ _ _ _ _ _ _ _ _ _ _ jq (jg (c:=false)) (by rfl) (bl Y).list_ Y8 (a8 (qv .B 0) b4) (by decide) (by decide) (by rfl) (by rfl)) (by rfl) (by trivial)) (b9 (@z8 _ _ _ _ _ _ _ _ _ _ _ _ _ PassesOwn.never rfl (@K5 _ _ _ _ _ _ (qv .U 2) (by rfl)) (@d4 _ _ 5 _ D2.nd rfl (by trivial) (by trivial)) j3 (b9 (i7 (PW.pt (bD (v9 (@p7 _ _ _ _ _ (@r6 _ _ _ _ _ _ _ _ _ _ _ _ _ _ V0 dP (by rfl) (bl Y).isinstance_ PyProof.Rows.boot_isinstance (a8 (qv .B 5) (a8 (@im _ _ _ _ _ _ _ (by rfl) (bl Y).int_ BY (by decide) (by decide)) b4)) (by decide) (by decide) (by rfl) (by rfl)) (by intro _; rfl))) (bD (@p7 _ _ _ _ _ (@r6 _ _ _ _ _ _ _ _ _ _ _ _ _ _ V0 dP (by rfl) (bl Y).isinstance_ PyProof.Rows.boot_isinstance (a8 (qv .B 5) (a8 (@im _ _ _ _ _ _ _ (by rfl) (bl Y).bool_ wT (by decide) (by decide)) b4)) (by decide) (by decide) (by rfl) (by rfl)) (by intro _; rfl)) (aP (v9 (@qR _ _ _ _ _ _ _ _ _ _ _ _ _ _ _ _ _ tL xLe gi xLt b5 (qv .B 5) (@r6 _ _ _ _ _ _ _ _ _ _ _ _ _ _ B0 A9 (by rfl) (bl Y).len_ PySem.boot_len (a8 (qv .B 1) b4) (by decide) (by decide) (by rfl) (by rfl)) (by with_unfolding_all rfl))))))) (b6 (f8 B7)) j1) (b9 (@tG _ _ _ _ _ _ _ _ _ _ _ (f7 (qv .B 1) (qv .B 5)) (@D4 _ (hk w) _ _ _ _ 2 rfl (@j9 _ _ _ _ _ (@d4 _ _ 6 _ D2.nd rfl (by trivial) (by trivial)) (@j9 _ _ _ _ _ (@d4 _ _ 7 _ D2.nd rfl (by trivial) (by trivial)) D3 (by rfl)) (by rfl)) (by rfl) (by rfl) (by rfl)) (F8 (.inr rfl) (k4 (.inr rfl) j3 (k4 (.inr rfl) j3 D5))) (by rfl) (by rfl) (by rfl)) (b6 (@z8 _ _ _ _ _ _ _ _ _ _ _ _ _ PassesOwn.never rfl (@P2 _ _ _ _ _ _ _ _ _ (by rfl) (bl Y).range_ (a8 (@r6 _ _ _ _ _ _ _ _ _ _ _ _ _ _ B0 A9 (by rfl) (bl Y).len_ PySem.boot_len (a8 (qv .B 4) b4) (by decide) (by decide) (by rfl) (by rfl)) b4) (by rfl)) (@d4 _ _ 8 _ D2.nd rfl (by trivial) (by trivial)) j3 (b9 (i7 (@i5 _ _ _ _ _ _ _ _ _ _ _ _ gi xLt (j7 (f7 (qv .B 4) (qv .B 8))) (j7 (f7 (qv .B 6) (qv .B 8))) (by trivial)) (b6 (f8 B7)) j1) (b6 (@de _ _ _ _ _ _ _ _ 4 _ _ _ _ rfl (by trivial) (qv .B 8) (g9 k7 p8 (g9 aV gA (j7 (f7 (qv .B 4) (qv .B 8))) (j7 (f7 (qv .B 6) (qv .B 8)))) (j7 (f7 (qv .B 7) (qv .B 8)))) (by decide) (by decide) (@aU _ _ _ _ _ _ _ (@pv _ 4 _ _ (by rfl) (by trivial) (by decide) (by decide)) (qv .B 8) set_list (by intro _; rfl)) (by rfl) (by rfl)))) (by intro _; rfl))))) (by intro _; rfl)) (b6 (f8 (@r6 _ _ _ _ _ _ _ _ _ _ _ _ _ _ (bj rfl) (fm (g:=U0)) (by rfl) (bl Y).all_ jf (a8 (j8 (g6 (@B6 _ _ _ _ _ _ _ _ _ _ _ _ _ _ _ _ (show i8 (b7 (top 40)) _ ["_law_begin", "_law_moves", "_law_row", "_law_target_here", "_law_stand", "_law_number", "_law_take", "_law_put", "_law_k"] ["_law_begin", "_law_moves", "_law_row", "_law_target_here", "_law_stand", "_law_number", "_law_take", "_law_put", "#_law_k", "_law_k"] from by trivial) rfl (@P2 _ _ _ _ _ _ _ _ _ (by rfl) (bl Y).range_ (a8 (@r6 _ _ _ _ _ _ _ _ _ _ _ _ _ _ B0 A9 (by rfl) (bl Y).len_ PySem.boot_len (a8 (qv .B 4) b4) (by decide) (by decide) (by rfl) (by rfl)) b4) (by rfl)) (fun _ _ _ _=>(@d4 _ _ 9 _ (by decide +kernel:(["_law_begin", "_law_moves", "_law_row", "_law_target_here", "_law_stand", "_law_number", "_law_take", "_law_put", "#_law_k", "_law_k"]:List Str).Nodup) rfl (Or.inl rfl) (.inr rfl))) j3 (K0 (show 9<=9 by decide)) (fun _ _ _ _=>B5) (fun _ _ _ _=>(@lB _ _ _ _ _ _ _ _ _ _ _ _ _ CQ (bH (g:=gGe) (fun _ _=>rfl) (fun _ _ _=>.bl)) (j7 (f7 (qv .B 4) (qv .B 9))) (j7 (f7 (qv .B 3) (qv .B 9))) (by trivial))) (by intro _; rfl)))) b4) (by decide) (by decide) (by rfl) (by rfl)))))))
theorem Bo:Def (hk w) mg "law" (top 41) ["_law_script"] 256 (FD "law" 41 p4 255):=dk Y (by kernel_rfl) fun _ _ _ _ _ _=>us1 fun _=>rfl
theorem CS:FnOk P w (hk w) mg base CX0 7 256 (FD "law" 41 p4 255) ["_law_script"] (spM (hk w) 1 .F gu):=
 okF (Bo Y) Z7 (.inl rfl) rfl rfl fun hr=>(b9 (@tG _ _ _ _ _ _ _ _ _ _ _ (eN (w4 (@c9 _ _ _ _ _ _ _ _ _ _ _ _ _ _ _ _ (jy Y) (.inl rfl) (by trivial) (by rfl) (R5 Y).m (R5 Y).F.kp (R5 Y).b (a8 (qv .B 0) b4) (by decide) (by rfl) (by rfl)))) (@D4 _ (hk w) _ _ _ _ 2 rfl (@j9 _ _ _ _ _ (@d4 _ _ 1 _ Z7.nd rfl (by trivial) (by trivial)) (@j9 _ _ _ _ _ (@d4 _ _ 2 _ Z7.nd rfl (by trivial) (by trivial)) D3 (by rfl)) (by rfl)) (by rfl) (by rfl) (by rfl)) (F8 (.inr rfl) (k4 (.inr rfl) j3 (k4 (.inr rfl) j3 D5))) (by rfl) (by rfl) (by rfl)) (b9 (@l7 _ _ _ _ _ _ _ 3 _ _ Z7.nd rfl (by trivial) (@c9 _ _ _ _ _ _ _ _ _ _ _ _ _ _ _ _ (vo Y) (.inl rfl) (by trivial) (by rfl) (dI Y).m (dI Y).F.kp (dI Y).b (a8 (j7 (nY (a8 (qv .U 1) (a8 (qv .U 2) b4)))) (a8 b5 b4)) (by decide) (by rfl) (by rfl)) (by rfl) (by trivial)) (b9 (i7 (@i5 _ _ _ _ _ _ _ _ _ _ _ _ T0 T6 (qv .B 3) z6 (by trivial)) (b6 (f8 B7)) j1) (b9 (i7 (PW.pt (bD (v9 (@p7 _ _ _ _ _ (@r6 _ _ _ _ _ _ _ _ _ _ _ _ _ _ V0 dP (by rfl) (bl Y).isinstance_ PyProof.Rows.boot_isinstance (a8 (qv .B 3) (a8 (@im _ _ _ _ _ _ _ (by rfl) (bl Y).list_ Y8 (by decide) (by decide)) b4)) (by decide) (by decide) (by rfl) (by rfl)) (by intro _; rfl))) (aP (@i5 _ _ _ _ _ _ _ _ _ _ _ _ N9 F7 (@r6 _ _ _ _ _ _ _ _ _ _ _ _ _ _ B0 A9 (by rfl) (bl Y).len_ PySem.boot_len (a8 (qv .B 3) b4) (by decide) (by decide) (by rfl) (by rfl)) b5 (by trivial))))) (b6 (f8 B7)) j1) (b9 (@z8 _ _ _ _ _ _ _ _ _ _ _ _ _ PassesOwn.never rfl (@K5 _ _ _ _ _ _ (eN (w4 (z7 (a8 b5 (a8 b5 b4))))) (by rfl)) (@d4 _ _ 4 _ Z7.nd rfl (by trivial) (by trivial)) j3 (b9 (@l7 _ _ _ _ _ _ _ 5 _ _ Z7.nd rfl (by trivial) (@c9 _ _ _ _ _ _ _ _ _ _ _ _ _ _ _ _ (fZ Y) (.inl rfl) (by trivial) (by rfl) (L4 Y).m (L4 Y).F.kp (L4 Y).b (a8 (qv .B 0) (a8 (qv .B 4) (a8 (qv .B 3) (a8 (@r6 _ _ _ _ _ _ _ _ _ _ _ _ _ _ B0 A9 (by rfl) (bl Y).len_ PySem.boot_len (a8 (qv .B 1) b4) (by decide) (by decide) (by rfl) (by rfl)) b4)))) (by decide) (by rfl) (by rfl)) (by rfl) (by trivial)) (b9 (@E6 _ _ _ _ _ _ _ 6 _ _ Z7.nd rfl (by trivial) (@c9 _ _ _ _ _ _ _ _ _ _ _ _ _ _ _ _ (vp Y) (.inr rfl) (by trivial) (by rfl) (dJ Y).m (dJ Y).F.kp (dJ Y).b (a8 (j7 (nY (a8 (qv .U 1) (a8 (qv .U 2) b4)))) (a8 (j8 (g6 (@M0 _ _ _ _ _ _ _ _ _ _ _ _ _ _ O7 (O6 (c:=true)) (by rfl) (bl Y).tuple_ w8 (a8 (qv .C 5) b4) (by decide) (by decide) (by rfl) (by rfl)))) (a8 (g9 k7 p8 b5 (j8 (g6 (@c9 _ _ _ _ _ _ _ _ _ _ _ _ _ _ _ _ (l6 Y) (.inl rfl) (by trivial) (by rfl) (c6 Y).m (c6 Y).F.kp (c6 Y).b (a8 (qv .B 0) (a8 (g9 k7 p8 (qv .B 4) b5) (a8 b5 b4))) (by decide) (by rfl) (by rfl))))) b4))) (by decide) (by rfl) (by rfl)) (by rfl) (by trivial)) (b9 (i7 (PW.pt (bD (v9 (@p7 _ _ _ _ _ (@r6 _ _ _ _ _ _ _ _ _ _ _ _ _ _ V0 dP (by rfl) (bl Y).isinstance_ PyProof.Rows.boot_isinstance (a8 (qv .B 6) (a8 (@im _ _ _ _ _ _ _ (by rfl) (bl Y).tuple_ w8 (by decide) (by decide)) b4)) (by decide) (by decide) (by rfl) (by rfl)) (by intro _; rfl))) (aP (@i5 _ _ _ _ _ _ _ _ _ _ _ _ tK ox (@r6 _ _ _ _ _ _ _ _ _ _ _ _ _ _ B0 A9 (by rfl) (bl Y).len_ PySem.boot_len (a8 (qv .B 6) b4) (by decide) (by decide) (by rfl) (by rfl)) b5 (by trivial))))) (b6 (f8 B7)) j1) (b6 (i7 (@i5 _ _ _ _ _ _ _ _ _ _ _ _ N9 F7 (j7 (f7 (qv .B 6) b5)) Z9 (by trivial)) (b6 (i7 (PW.pt (bD (v9 (@p7 _ _ _ _ _ (j8 (g6 (@c9 _ _ _ _ _ _ _ _ _ _ _ _ _ _ _ _ (T4 Y) (.inl rfl) (by trivial) (by rfl) (o8 Y).m (o8 Y).F.kp (o8 Y).b (a8 (qv .B 5) (a8 (qv .B 3) b4)) (by decide) (by rfl) (by rfl)))) (by intro _; rfl))) (aP (v9 (@p7 _ _ _ _ _ (j8 (g6 (@c9 _ _ _ _ _ _ _ _ _ _ _ _ _ _ _ _ (jz Y) (.inl rfl) (by trivial) (by rfl) (R6 Y).m (R6 Y).F.kp (R6 Y).b (a8 (qv .B 1) (a8 (qv .B 2) (a8 (j7 (f7 (qv .B 6) b5)) (a8 (qv .B 5) b4)))) (by decide) (by rfl) (by rfl)))) (by intro _; rfl)))))) (b6 (f8 B7)) j1)) (b6 (i7 (@i5 _ _ _ _ _ _ _ _ _ _ _ _ N9 F7 (j7 (f7 (qv .B 6) b5)) Z9 (by trivial)) (b6 (i7 (@p7 _ _ _ _ _ (j8 (g6 (@c9 _ _ _ _ _ _ _ _ _ _ _ _ _ _ _ _ (T4 Y) (.inl rfl) (by trivial) (by rfl) (o8 Y).m (o8 Y).F.kp (o8 Y).b (a8 (qv .B 5) (a8 (qv .B 3) b4)) (by decide) (by rfl) (by rfl)))) (by intro _; rfl)) (b6 (f8 B7)) j1)) (b6 (i7 (@i5 _ _ _ _ _ _ _ _ _ _ _ _ tK ox (j7 (f7 (qv .B 6) b5)) Z9 (by trivial)) (b6 (f8 B7)) j1))))))))) (by intro _; rfl)) (b6 (f8 B7)))))))
end
def spLaw (K:Frag):Sp:=fun vs H Q _=>∃ (a:Addr) (ns:List Int),vs = [.ref a]/\SqL K H a (ns.map V.int)/\ns.length<=63/\∀ H',Q (.bl true) H'
theorem all_ {l:PySem.W.OpenLaw} {w:World} {mg:Str->Option Value} {fa:Addr} (Y:En w mg) (hp:∀ ns:List Int,ns.length<=63->gu [.scr (ns.map W.int)]=.ok (.bl true)) (e:mg "law" = some (.ref fa)):∃ fd:FuncData,(∀ (s:Shared) (v:Value),BindsTo s fd ⟨[v],[]⟩ [("_law_script",v)])/\∀ base:Heap,(hk w).In base->base.Ns mainGlobals mg->FnOk l.prog w (hk w) mg base CX0 7 fa fd ["_law_script"] (spLaw (hk w)):=by
 cases e.symm.trans (Bo Y).m
 exact ⟨FD "law" 41 p4 255,fun s v=>.of_eq rfl,fun base _ _=>zN (CS Y) hp⟩
end K47
open PySem PySem.W PyProof.Rows
namespace K47
def hxas:List Addr:=[2,3,15,22,23,25,28,40,42,43,52,53,59,60,64,65,69,70,76,77,83,84,90,91,95,96,100,101,107,108,112,113,119,120,124,125,131,132,136,137,143,144,150,151,155,156,160,161,167,168,172,173,179,180,186,187,193,194,198,199,205,206,212,213,219,220,226,227,233,234,238,239,243,244,248,249,255,256]
def view:Program:={ PySem.Challenge.pw_tokenmoor_k47_whole_covered_or_under_no with main:={ PySem.Challenge.pw_tokenmoor_k47_whole_covered_or_under_no.main with body:=[1,2,4,5,6,7,9,10,11,12,13,14,15,16,17,18,19,21,22,23,24,25,26,28,29,30,31,33,34,35,36,37,38,39,40,41].map top } }
def hook:PySem.W.Hook:=PySem.W.kHook oS hxas (fun _=>by kernel_rfl)
end K47
set_option maxHeartbeats 0 in
theorem PySem.Challenge.cw_tokenmoor_k47_whole_covered_or_under_no_holds : PySem.Challenge.rw_tokenmoor_k47_whole_covered_or_under_no.Holds := by
 w_on; o_law
 refine holds_open (q:=K47.view) (loose:=[]) (Xt:=fun s=>xlAt K47.view [] s&&recOk [] s) (XP:=XL K47.view [])
  (Yf:=K47.hook.obs) (Ya:=K47.hook.val) (YP:=K47.hook.says) (N:=3110) ?hl K47.hook.of K47.hook.keeps
  (fun s e=>xl_of s (Bool.and_eq_true_iff.mp e).1) XL.keeps (by rfl) (by rfl) (by rfl)
  (fun s e=>recFacts_of (Bool.and_eq_true_iff.mp e).2) (by rfl) (by first | assumption | decide +kernel)
  (by decide +kernel) ⟨rfl,rfl,rfl,rfl,rfl,by decide +kernel⟩ ?hw ?hc
 (case hl=>intro w; kernel_rfl)
 (case hw=>w_witness2)
 refine L2.walk_ofK (l:=PySem.Challenge.rw_tokenmoor_k47_whole_covered_or_under_no) (n:=63) (k:=7) (x := "_law_script") (CX:=L2.CX0) (sp:=K47.spLaw) rfl (by decide) rfl ⟨rfl,by decide,by decide⟩ (fun w h Y=>PySem.W.kIn_of Y)
  (fun w mg fa h X G e=>K47.all_ ⟨h,X,G⟩ K47.law_pure e)
  (fun K H a ns hl hO hS=>⟨a,ns,rfl,hS,hl,fun _=>rfl⟩) fun _ _ _ _ z=>z
