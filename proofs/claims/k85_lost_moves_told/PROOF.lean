import PyProof.Rows.All
import Wide.All
import OpenK.AllK
import Wide.FinOn
import Lean
import PyProof.EqAt
import PyProof.EqKinds
import PyProof.TupleCall
import PyProof.ZipIter
import PyProof.TupleIter
import PyProof.WalksMore
import PyProof.EnumMake
import PyProof.Draws
import PyProof.P3In
import KE.KSortTup
import PyProof.Rows.SortWalk
import KE.IntBitsLaws
import KE.KRevIter
import PyProof.TupleOfGen
import PySem.Challenge.RW_tokenmoor_k85_lost_moves_told
open PySem.W (Frag)
set_option Elab.async false
set_option linter.all false
set_option maxRecDepth 100000
theorem Z1 {p q:Prop} (a:p) (b:q):p/\q:=⟨a,b⟩
noncomputable section
local macro_rules | `(tactic| omega)=>`(tactic| first | with_reducible assumption | decide | lia)
set_option genSizeOf false
set_option genSizeOfSpec false
namespace L2
open PySem PySem.Spec PyProof.Rows
abbrev Key:=Sum Int Str
def aJ:Key->Value->Bool
 | .inl k,v=>Value.isInt k v
 | .inr x,v=>Value.isStrOf x v
def keyH (w:World):Key->Int
 | .inl k=>hashInt k
 | .inr x=>hashStr w x
theorem t4:∀ {k:Key} {v:Value},aJ k v=true->(∃ i t,k=Sum.inl i/\v=Value.int i t)\/(∃ x t,k=Sum.inr x/\v=Value.str x t)
 | .inl i,v,h=>by
  obtain ⟨t,e⟩:=Value.isInt_shape (k:=i) (v:=v) h
  exact .inl ⟨i,t,rfl,e⟩
 | .inr x,v,h=>by
  obtain ⟨t,e⟩:=Value.isStrOf_shape (x:=x) (v:=v) h
  exact .inr ⟨x,t,rfl,e⟩
theorem nq (i:Int) (t:Tok):aJ (.inl i) (.int i t)=true:=by simp [aJ,Value.isInt]
theorem nk (x:Str) (t:Tok):aJ (.inr x) (.str x t)=true:=by simp [aJ,Value.isStrOf]
theorem yZ (a b:Int):decide ((Sum.inl a:Key)=Sum.inl b)=(a == b):=by
 by_cases e:a=b
 ·subst e; simp
 ·have h:¬ (Sum.inl a:Key)=Sum.inl b:=fun q=>e (Sum.inl.inj q)
  rw [decide_eq_false h]
  exact (beq_eq_false_iff_ne.mpr e).symm
theorem yW (a b:Str):decide ((Sum.inr a:Key)=Sum.inr b)=decide (a=b):=by
 by_cases e:a=b
 ·subst e; simp
 ·have h:¬ (Sum.inr a:Key)=Sum.inr b:=fun q=>e (Sum.inr.inj q)
  rw [decide_eq_false h,decide_eq_false e]
theorem yY (a:Int) (b:Str):decide ((Sum.inl a:Key)=Sum.inr b)=false:=decide_eq_false (fun q=>nomatch q)
theorem yX (a:Str) (b:Int):decide ((Sum.inr a:Key)=Sum.inl b)=false:=decide_eq_false (fun q=>nomatch q)
def q4 (prog:Program) (w:World):PySem.KeyKind prog w Key where
 is:=aJ
 hash:=keyH w
 inj:=fun v a b ha hb=>by
  rcases t4 ha with ⟨i,t,rfl,rfl⟩ | ⟨x,t,rfl,rfl⟩
  ·rcases t4 hb with ⟨j,u,rfl,e⟩ | ⟨y,u,rfl,e⟩
   ·injection e with e1 _; rw [e1]
   ·exact nomatch e
  ·rcases t4 hb with ⟨j,u,rfl,e⟩ | ⟨y,u,rfl,e⟩
   ·exact nomatch e
   ·injection e with e1 _; rw [e1]
 byValue:=fun k v h=>by
  rcases t4 h with ⟨i,t,rfl,rfl⟩ | ⟨x,t,rfl,rfl⟩ <;> rfl
 pyHash:=fun hv h=>by
  rcases t4 hv with ⟨i,t,rfl,rfl⟩ | ⟨x,t,rfl,rfl⟩
  ·exact wpAny_pyHash_int h
  ·exact wpAny_pyHash_str h
 eqBool:=fun hu hv h=>by
  rcases t4 hu with ⟨i,t,rfl,rfl⟩ | ⟨x,t,rfl,rfl⟩
  ·rcases t4 hv with ⟨j,u,rfl,rfl⟩ | ⟨y,u,rfl,rfl⟩
   ·rw [yZ] at h; exact wpAny_eqBool_int h
   ·rw [yY] at h; exact SeqAt.EqAt.int_str i t y u _ _ _ _ h
  ·rcases t4 hv with ⟨j,u,rfl,rfl⟩ | ⟨y,u,rfl,rfl⟩
   ·rw [yX] at h; exact SeqAt.EqAt.str_int x t j u _ _ _ _ h
   ·rw [yW] at h; exact wpAny_eqBool_str h
 «strs»:=fun k x t v h=>by
  rcases t4 h with ⟨i,u,rfl,e⟩ | ⟨y,u,rfl,e⟩
  ·exact nomatch e
  ·injection e with e1 _
   subst e1
   cases v <;> rfl
theorem iD (prog:Program) (w:World) (i:Int) (t:Tok):(q4 prog w).is (.inl i) (.int i t)=true:=nq i t
theorem iC (prog:Program) (w:World) (x:Str) (t:Tok):(q4 prog w).is (.inr x) (.str x t)=true:=nk x t
end L2
namespace L2
open PySem PySem.Spec PyProof.Rows
inductive V where
 | non | bl (b:Bool) | int (i:Int) | str (x:Str) | byt (b:Array UInt8) | flt (b:UInt64) | ref (a:Addr) | ty (n:String)
 deriving DecidableEq
def RelV:V->Value->Prop
 | .non,u=>u=Value.none
 | .bl b,u=>u=Value.bool b
 | .int i,u=>∃ t,u=Value.int i t
 | .str x,u=>∃ t,u=Value.str x t
 | .byt b,u=>∃ t,u=Value.bytes b t
 | .flt b,u=>∃ t,u=Value.float b t
 | .ref a,u=>u=Value.ref a
 | .ty n,u=>u=Value.type n
abbrev Vals:List V->List Value->Prop:=Paired RelV
theorem Vals.length {xs:List V} {us:List Value} (r:Vals xs us):xs.length=us.length:=Paired.length r
theorem Vals.get:∀ {xs:List V} {us:List Value} {i:Nat} {x:V},Vals xs us->xs[i]?=some x->∃ u,us[i]?=some u/\RelV x u:=by
 intro xs us i x a
 induction a generalizing i with
 | nil=>intro e; cases e
 | cons r t ih=>
  intro e
  cases i with
  | zero=>cases e; exact ⟨_,rfl,r⟩
  | succ i=>exact ih e
theorem Vals.append:∀ {xs ys:List V} {us ws:List Value},Vals xs us->Vals ys ws->Vals (xs++ys) (us++ws):=by
 intro xs ys us ws a s
 induction a with
 | nil=>exact s
 | cons r t ih=>exact .cons r ih
theorem Vals.take:∀ {xs:List V} {us:List Value} (n:Nat),Vals xs us->Vals (xs.take n) (us.take n):=by
 intro xs us n h
 induction h generalizing n with
 | nil=>cases n <;> exact .nil
 | cons r t ih=>
  cases n with
  | zero=>exact .nil
  | succ n=>exact .cons r (ih n)
theorem Vals.drop:∀ {xs:List V} {us:List Value} (n:Nat),Vals xs us->Vals (xs.drop n) (us.drop n)
 | _,_,0,r=>r
 | _,_,_+1,.nil=>.nil
 | _,_,n+1,.cons _ t=>Vals.drop n t
def RelO:Option V->Option Value->Prop
 | some v,some u=>RelV v u
 | none,none=>True
 | _,_=>False
def KV {κ:Type}:List (κ×V)->List (κ×Value)->Prop:=Paired fun (p:κ×V) (q:κ×Value)=>p.1=q.1/\RelV p.2 q.2
def kV:Key->V
 | .inl i=>.int i
 | .inr x=>.str x
inductive HO where
 | lst (xs:List V)
 | tup (xs:List V)
 | dK (kvs:List (Key×V)) | dT (kvs:List (List Key×V))
 | set (S:Int->Bool) (n:Nat)
 | ins (C dx:Addr) (fs:List (Str×V))
 | own (x:Addr)
 | xd (fs:List (Str×V))
 | met (f x:Addr)
 | rng (lo hi:Int)
 | frz (o:Obj) (u:HO)
 | tbl (ps:Array Value)
 | ext (φ:Heap->Prop)
abbrev Hp:=Addr->Option HO
def upd (H:Hp) (a:Addr) (o:HO):Hp:=fun b=>if b=a then some o else H b
theorem g7 {H:Hp} {a:Addr} {o:HO}:upd H a o a=some o:=by unfold upd; rw [if_pos rfl]
theorem b9 {H:Hp} {a b:Addr} {o:HO} (h:b≠a):upd H a o b=H b:=by unfold upd; rw [if_neg h]
theorem rT {H:Hp} {a b:Addr} {o u:HO} (h:H a=some o) (h':H b=some u) (d:o≠u):a≠b:=by
 intro e; subst e; rw [h] at h'; exact d (Option.some.inj h')
theorem c9 {H:Hp} {a b:Addr} {o:HO} (h:H a=some o) (h':H b=none):a≠b:=by
 intro e; subst e; rw [h] at h'; cases h'
section
variable (P:Program) (w:World)
def ObjOk (H:Hp) (h:Heap) (a:Addr):HO->Prop
 | .lst xs=>xs.length<=sizeLine/\∃ (its:List Value) (n:Nat),Vals xs its/\h.get? a=some { cls:=.type "list",data:=.seq its.toArray n }
 | .tup xs=>xs.length<=sizeLine/\∃ its:List Value,Vals xs its/\IsTup h a its.toArray
 | .dK kvs=>kvs.length<=sizeLine/\(a == sysModules)=false/\∃ vs,KV kvs vs/\h.DictOf (q4 P w) a vs
 | .dT kvs=>kvs.length<=sizeLine/\(a == sysModules)=false/\∃ xs:List (List Key×Addr×Value),
   Paired (fun (p:List Key×V) (q:List Key×Addr×Value)=>p.1=q.1/\H q.2.1=some (.tup (p.1.map kV))/\RelV p.2 q.2.2) kvs xs /\
   ∃ o es ep,h.get? a=some o/\o.ExactDict/\o.data=.dict es ep/\es.toList=xs.map (entryOfKey (tupleKind (q4 P w)))/\(xs.map (·.1)).Nodup
 | .set S n=>h.SetOf (intKind P w) a S n
 | .ins C dx fs=>H dx=some (.own a)/\fs.length<=1000/\dx≠a/\h.get? a=some (PySem.W.instObj C dx) /\
   ∃ mA,h.Ns1 dx mA/\(∀ f,RelO (fs.lookup f) (mA f))/\PySem.Within mA (fs.map (·.1))
 | .own _=>∃ o,h.get? a=some o
 | .xd fs=>∃ mA,h.Ns1 a mA/\∀ f,RelO (fs.lookup f) (mA f)
 | .rng lo hi=>∃ t u v,h.get? a=some { cls:=.type "range",data:=.fields #[.int lo t,.int hi u,.int 1 v] }
 | .frz o u=>h.get? a=some o/\ObjOk H h a u
 | .tbl ps=>h.get? a=some { cls:=.none,data:=.fields ps }
 | .met f x=>h.get? a=some (PySem.W.methodObj (.ref f) (.ref x))
 | .ext φ=>φ h/\(∃ o,h.get? a=some o)/\∀ h1 h2:Heap,φ h1->(∀ o,h1.get? a=some o->h2.get? a=some o)->φ h2
def HOk (H:Hp) (h:Heap):Prop:=∀ a o,H a=some o->ObjOk P w H h a o
end
section
variable {P:Program} {w:World} {H H':Hp} {h h':Heap} {a:Addr} {o:HO}
theorem ObjOk.lt (x:ObjOk P w H h a o):a<h.objs.size:=by
 cases o with
 | lst xs=>obtain ⟨_,_,_,_,e⟩:=x; exact Heap.lt_size e
 | tup xs=>obtain ⟨_,_,_,p⟩:=x; exact p.lt
 | dK kvs=>obtain ⟨_,_,_,_,o,_,_,e,_⟩:=x; exact Heap.lt_size e
 | dT kvs=>obtain ⟨_,_,_,_,o,_,_,e,_⟩:=x; exact Heap.lt_size e
 | set S n=>obtain ⟨o,_,_,_,e,_⟩:=x; exact Heap.lt_size e
 | ins C dx fs=>obtain ⟨_,_,_,e,_⟩:=x; exact Heap.lt_size e
 | own y=>obtain ⟨_,e⟩:=x; exact Heap.lt_size e
 | xd fs=>obtain ⟨_,⟨_,_,_,e,_⟩,_⟩:=x; exact Heap.lt_size e
 | rng lo hi=>obtain ⟨_,_,_,e⟩:=x; exact Heap.lt_size e
 | frz ob u=>obtain ⟨e,_⟩:=x; exact Heap.lt_size e
 | tbl ps=>exact Heap.lt_size (show h.get? a=some _ from x)
 | met f y=>exact Heap.lt_size (show h.get? a=some _ from x)
 | ext φ=>obtain ⟨_,⟨_,e⟩,_⟩:=x; exact Heap.lt_size e
theorem Paired.mapP {α β:Type} {F G:α->β->Prop}:∀ {l₁:List α} {l₂:List β},Paired F l₁ l₂->(∀ a b,F a b->G a b)->Paired G l₁ l₂:=by
 intro l₁ l₂ h f
 induction h with
 | nil=>exact .nil
 | cons r t ih=>exact .cons (f _ _ r) ih
theorem ObjOk.stay (x:ObjOk P w H h a o) (k:∀ b u,(b=a\/H b=some (.own a))->h.get? b=some u->h'.get? b=some u)
  (ho:∀ b,H b=some (.own a)->H' b=some (.own a)) (ht:∀ b xs,H b=some (.tup xs)->H' b=some (.tup xs)):ObjOk P w H' h' a o:=by
 induction o with
 | lst xs=>obtain ⟨z,its,n,r,e⟩:=x; exact ⟨z,its,n,r,k _ _ (.inl rfl) e⟩
 | tup xs=>obtain ⟨z,its,r,ob,e,c⟩:=x; exact ⟨z,its,r,ob,k _ _ (.inl rfl) e,c⟩
 | dK kvs=>obtain ⟨z,y,vs,r,ob,es,ep,e,c⟩:=x; exact ⟨z,y,vs,r,ob,es,ep,k _ _ (.inl rfl) e,c⟩
 | dT kvs=>
  obtain ⟨z,y,xs,r,ob,es,ep,e,c⟩:=x
  exact ⟨z,y,xs,Paired.mapP r fun p q z=>⟨z.1,ht _ _ z.2.1,z.2.2⟩,ob,es,ep,k _ _ (.inl rfl) e,c⟩
 | set S n=>obtain ⟨ob,es,ep,t,e,c⟩:=x; exact ⟨ob,es,ep,t,k _ _ (.inl rfl) e,c⟩
 | ins C dx fs=>
  obtain ⟨d,z,ne,e,mA,⟨od,es,ep,e2,c⟩,r⟩:=x
  exact ⟨ho _ d,z,ne,k _ _ (.inl rfl) e,mA,⟨od,es,ep,k _ _ (.inr d) e2,c⟩,r⟩
 | own y=>obtain ⟨ob,e⟩:=x; exact ⟨ob,k _ _ (.inl rfl) e⟩
 | xd fs=>obtain ⟨mA,⟨od,es,ep,e,c⟩,r⟩:=x; exact ⟨mA,⟨od,es,ep,k _ _ (.inl rfl) e,c⟩,r⟩
 | rng lo hi=>obtain ⟨t,u,v,e⟩:=x; exact ⟨t,u,v,k _ _ (.inl rfl) e⟩
 | frz ob u ih=>obtain ⟨e,q⟩:=x; exact ⟨k _ _ (.inl rfl) e,ih q⟩
 | tbl ps=>
  have e:h.get? a=some { cls:=.none,data:=.fields ps }:=x
  show h'.get? a=some { cls:=.none,data:=.fields ps }
  exact k a _ (.inl rfl) e
 | met f y=>
  have e:h.get? a=some (PySem.W.methodObj (.ref f) (.ref y)):=x
  show h'.get? a=some (PySem.W.methodObj (.ref f) (.ref y))
  exact k a _ (.inl rfl) e
 | ext φ=>obtain ⟨p,⟨o,e⟩,st⟩:=x; exact ⟨st _ _ p fun o q=>k _ _ (.inl rfl) q,⟨o,k _ _ (.inl rfl) e⟩,st⟩
theorem HOk.lt (x:HOk P w H h) (e:H a=some o):a<h.objs.size:=(x a o e).lt
theorem HOk.fresh (x:HOk P w H h) (e:h.objs.size<=a):H a=none:=by
 cases q:H a with
 | none=>rfl
 | some u=>exact absurd (Nat.lt_of_lt_of_le (x.lt q) e) (Nat.lt_irrefl _)
theorem HOk.kept (x:HOk P w H h) (k:∀ b u,h.get? b=some u->h'.get? b=some u):HOk P w H h':=fun a o e=>
 (x a o e).stay (fun b u _ q=>k b u q) (fun _ q=>q) fun _ _ q=>q
theorem HOk.laid (x:HOk P w H h) (k:∀ b u,h.get? b=some u->h'.get? b=some u) (hp:h.objs.size<=a) (new:ObjOk P w (upd H a o) h' a o):HOk P w (upd H a o) h':=fun b u e=>by
 have hn:=x.fresh hp
 by_cases hb:b=a
 ·subst hb; rw [g7] at e; cases e; exact new
 ·rw [b9 hb] at e
  exact (x b u e).stay (fun c v _ q=>k c v q) (fun c q=>by rw [b9 (c9 q hn)]; exact q) fun c xs q=>by rw [b9 (c9 q hn)]; exact q
end
def Rd (H:Hp) (a:Addr) (u:HO):Prop:=H a=some u\/∃ o,H a=some (.frz o u)
theorem Rd.ok {P:Program} {w:World} {H:Hp} {h:Heap} {a:Addr} {u:HO} (r:Rd H a u) (x:HOk P w H h):ObjOk P w H h a u:=by
 rcases r with r | ⟨o,r⟩
 ·exact x a u r
 ·obtain ⟨_,q⟩:=x a _ r
  exact q
def Mut:Option HO->Prop
 | some (.lst _)=>True
 | some (.dK _)=>True
 | some (.dT _)=>True
 | some (.set _ _)=>True
 | some (.ins _ _ _)=>True
 | some (.ext _)=>True
 | _=>False
section
variable {P:Program} {w:World} {H:Hp} {h h':Heap} {x e:Addr} {o':HO}
theorem HOk.write (ok:HOk P w H h) (mu:Mut (H x)) (he:e=x\/H e=some (.own x)) (k:∀ b u,b≠e->h.get? b=some u->h'.get? b=some u) (heo:∃ u,h'.get? e=some u)
  (new:ObjOk P w (upd H x o') h' x o'):HOk P w (upd H x o') h':=fun b u q=>by
 have nown:∀ c y,H c=some (.own y)->c≠x:=fun c y r z=>by subst z; rw [r] at mu; exact mu
 have ntup:∀ c xs,H c=some (.tup xs)->c≠x:=fun c xs r z=>by subst z; rw [r] at mu; exact mu
 by_cases hb:b=x
 ·subst hb; rw [g7] at q; cases q; exact new
 ·rw [b9 hb] at q
  by_cases hbe:b=e
  ·have q':H b=some (.own x):=by
    rcases he with z | z
    ·exact absurd (hbe.trans z) hb
    ·rw [hbe]; exact z
   rw [q] at q'; cases q'
   obtain ⟨v,hv⟩:=heo
   exact ⟨v,by rw [hbe]; exact hv⟩
  ·refine (ok b u q).stay (fun c v hc r=>k c v ?_ r) (fun c r=>by rw [b9 (nown c b r)]; exact r) fun c xs r=>by rw [b9 (ntup c xs r)]; exact r
   rcases hc with rfl | hc
   ·exact hbe
   ·rintro rfl
    rcases he with z | z
    ·exact nown c b hc z
    ·rw [hc] at z; cases z; exact hb rfl
end
structure Un (fs ex:List Addr) (H H':Hp) (h h':Heap):Prop where
 keep:∀ b o,h.get? b=some o->H b=none->b∉fs->b∉ex->h'.get? b=some o
 slot:∀ b o,h.get? b=some o->H b=none->b∈fs->b∉ex->∃ sl,h'.get? b=some { o with slots:=sl }
 free:∀ b o,h.get? b=some o->H b=none->b∉ex->H' b=none
 there:∀ b o,h.get? b=some o->b∉ex->∃ o',h'.get? b=some o'
 tups:∀ b xs,H b=some (.tup xs)->H' b=some (.tup xs)
 frzs:∀ b o u,H b=some (.frz o u)->H' b=some (.frz o u)
 tbls:∀ b ps,H b=some (.tbl ps)->∃ more,H' b=some (.tbl (ps++more))
section
variable {fs fs' ex ex':List Addr} {H H1 H2:Hp} {h h1 h2 h':Heap} {a x e:Addr} {o:HO}
theorem Un.any (u:Un fs ex H H1 h h1) {b:Addr} {ob:Obj} (q:h.get? b=some ob) (n:H b=none) (hx:b∉ex):∃ sl,h1.get? b=some { ob with slots:=sl }:=by
 by_cases hb:b∈fs
 ·exact u.slot b ob q n hb hx
 ·exact ⟨ob.slots,u.keep b ob q n hb hx⟩
theorem Un.kept (k:∀ b u,h.get? b=some u->h'.get? b=some u):Un fs ex H H h h':=
 ⟨fun b ob q _ _ _=>k b ob q,fun b ob q _ _ _=>⟨ob.slots,k b ob q⟩,fun _ _ _ n _=>n,fun b ob q _=>⟨ob,k b ob q⟩,fun _ _ q=>q,fun _ _ _ q=>q,fun _ ps q=>⟨#[],by rw [q]; simp⟩⟩
theorem Un.refl:Un fs ex H H h h:=Un.kept fun _ _ q=>q
theorem Un.laid (k:∀ b u,h.get? b=some u->h'.get? b=some u) (hp:h.objs.size<=a) (hn:H a=none):Un fs ex H (upd H a o) h h' where
 keep:=fun b u q _ _ _=>k b u q
 slot:=fun b u q _ _ _=>⟨u.slots,k b u q⟩
 free:=fun b u q n _=>by rw [b9 (Nat.ne_of_lt (Nat.lt_of_lt_of_le (Heap.lt_size q) hp))]; exact n
 there:=fun b u q _=>⟨u,k b u q⟩
 tups:=fun b xs q=>by rw [b9 (c9 q hn)]; exact q
 frzs:=fun b u xs q=>by rw [b9 (c9 q hn)]; exact q
 tbls:=fun b ps q=>⟨#[],by rw [b9 (c9 q hn),q]; simp⟩
theorem Un.write (mu:Mut (H x)) (he:e=x\/H e=some (.own x)) (k:∀ b u,b≠e->h.get? b=some u->h'.get? b=some u) (heo:∃ u,h'.get? e=some u):Un fs ex H (upd H x o) h h':=by
 have hx:∀ b,H b=none->b≠x:=fun b n z=>by subst z; rw [n] at mu; exact mu
 have hb:∀ b,H b=none->b≠e:=fun b n z=>by
  subst z
  rcases he with r | r
  ·exact hx b n r
  ·rw [n] at r; cases r
 have hm:∀ b u,H b=some u->¬ Mut (some u)->b≠x:=fun b u q nm z=>by subst z; rw [q] at mu; exact nm mu
 refine ⟨fun b u q n _ _=>k b u (hb b n) q,fun b u q n _ _=>⟨u.slots,k b u (hb b n) q⟩,fun b u q n _=>by rw [b9 (hx b n)]; exact n,fun b u q _=>?_,
  fun b xs q=>by rw [b9 (hm b _ q fun z=>z)]; exact q,fun b u xs q=>by rw [b9 (hm b _ q fun z=>z)]; exact q,fun b ps q=>⟨#[],by rw [b9 (hm b _ q fun z=>z),q]; simp⟩⟩
 by_cases hbe:b=e
 ·subst hbe; exact heo
 ·exact ⟨u,k b u hbe q⟩
end
def trk (h:Heap) (H:Hp):List Addr:=(List.range h.objs.size).filter fun a=>(H a).isSome
def X5 (h:Heap) (H:Hp):Heap:=PySem.W.hideAll h (trk h H)
theorem nE (h:Heap) (H:Hp):(X5 h H).objs.size=h.objs.size:=PySem.W.hideAll_size _ _
theorem qE {h:Heap} {H:Hp} {b:Addr} {o:Obj} (e:h.get? b=some o) (n:H b=none):(X5 h H).get? b=some o:=
 PySem.W.hideAll_get _ e fun hm=>by
  have q:(H b).isSome=true:=(List.mem_filter.mp hm).2
  rw [n] at q; simp at q
theorem uH {h:Heap} {H:Hp} {b:Addr} {o:Obj} (e:(X5 h H).get? b=some o):h.get? b=some o/\H b=none:=by
 have e':h.get? b=some o:=PySem.W.of_hideAll (trk h H) e
 refine ⟨e',?_⟩
 cases q:H b with
 | none=>rfl
 | some x=>
  have hm:b∈trk h H:=List.mem_filter.mpr ⟨List.mem_range.mpr (Heap.lt_size e'),by simp [q]⟩
  have z:(X5 h H).get? b=none:=PySem.W.hideAll_none (trk h H) hm
  rw [z] at e; cases e
def wo (g h:Heap) (L:Addr):List (Addr×Obj):=(List.range h.objs.size).filterMap fun a=>if a=L\/(g.get? a).isSome=true then none else (h.get? a).map fun o=>(a,o)
def rest (g h:Heap) (L d:Addr):List (Addr×Obj):=(wo g h L).filter fun p=>decide (p.1≠d)
end L2
namespace L2
open PySem PySem.Spec PyProof.Rows
structure Mod (K:Frag) (mg:Str->Option Value) (base:Heap):Prop where
 kin:K.In base
 glob:base.Ns mainGlobals mg
 blt:∃ mb,base.Ns builtinsNs mb/\∀ x:Str,x ≠ "__name__" -> mb x=bootBuiltins x
 nolimit:base.NoLimit
structure Cx where
 prog:Program
 w:World
 K:Frag
 mg:Str->Option Value
 base:Heap
 A:Around
 N:List Str
 s₀:Shared
 H₀:Hp
 env:Env
 outer:List Env
 stack:List Env
 ex:List Addr
 fn:Str->Bool
 calm:Bool
 pn:List (Addr×Obj)
 xe:Value->Shared->Prop
def frs (l:List Env):List Addr:=l.filterMap (·.frame)
abbrev Cx.fs (X:Cx):List Addr:=frs X.outer
def Vis (sc:Scope) (x:Str):Prop:=sc.names.lookup x=some .local\/sc.names.lookup x=some .cell\/sc.names.lookup x=some .free
def Loc (sc:Scope) (x:Str):Prop:=sc.names.lookup x=some .local\/sc.names.lookup x=some .cell
def Look (env:Env) (h:Heap) (m:Str->Option Value) (x:Str) (u:Value):Prop:=
 (env.kindOf x=some .local/\m x=some u)\/((env.kindOf x=some .cell\/env.kindOf x=some .free)/\∃ c,env.cells.lookup x=some c/\h.IsCell c (some u))
structure Cx.Ok (X:Cx):Prop where
 mod:Mod X.K X.mg X.base
 kind:X.env.scope.kind=.function
 glob:X.env.globals=mainGlobals
 blt:X.env.builtins=builtinsNs
 above:X.s₀.heap.objs.size<=X.env.locals
 inj:∀ x y c,X.env.cells.lookup x=some c->X.env.cells.lookup y=some c->x=y
 has:∀ x,(X.env.kindOf x=some .cell\/X.env.kindOf x=some .free)->∃ c,X.env.cells.lookup x=some c
 cab:∀ x c,X.fn x=true->X.env.cells.lookup x=some c->X.s₀.heap.objs.size<=c
 hd:X.calm=true->X.A.handled=none
 frames:X.A.frames=some X.stack
 stk:X.stack=X.outer\/(X.stack=X.env::X.outer/\X.env.frame=some X.env.locals)
 exf:∀ b∈X.ex,b≠X.env.locals/\∀ x c,X.env.cells.lookup x=some c->c≠b
 bs:∀ b o,X.base.get? b=some o->X.s₀.heap.get? b=some o/\X.H₀ b=none
 bsz:X.base.objs.size<=X.s₀.heap.objs.size
 noex:∀ b o,X.base.get? b=some o->b∉X.ex
 exfs:∀ b∈X.ex,b∉X.fs
 funs:X.s₀.heap.FunFrames X.base X.outer
 frf:∀ b∈X.fs,X.H₀ b=none
structure Inv (X:Cx) (pins:List (Addr×Obj)) (σ:List (Option V)) (H:Hp) (s:Shared):Prop where
 ok:X.Ok
 os:s.os=X.s₀.os
 bare:AllBare s.gens
 base:Un X.fs X.ex X.H₀ H X.s₀.heap s.heap
 loc:∃ m,s.heap.Ns X.env.locals m/\∀ (i:Nat) (x:Str) (v:V),X.N[i]?=some x->σ[i]?=some (some v)->Vis X.env.scope x->∃ u,RelV v u/\Look X.env s.heap m x u
 cell:∀ x c,X.env.cells.lookup x=some c->∃ v,s.heap.IsCell c v
 free:H X.env.locals=none
 freeC:∀ x c,X.env.cells.lookup x=some c->H c=none
 pin:∀ p∈X.pn++pins,s.heap.get? p.1=some p.2/\H p.1=none/\p.1≠X.env.locals/\p.1∉X.fs/\∀ v,p.2.data≠.cell v
 hok:HOk X.prog X.w H s.heap
 len:σ.length=X.N.length
section
variable {X:Cx} {pins:List (Addr×Obj)} {σ:List (Option V)} {H H':Hp} {s:Shared} {h':Heap}
theorem Cx.Ok.nofr (ok:X.Ok) {b:Addr} {o:Obj} (e:X.base.get? b=some o):b∉X.fs:=fun hb=>by
 have:=(ok.funs.mem hb).1
 rw [e] at this; cases this
theorem Inv.bs (I:Inv X pins σ H s):∀ b o,X.base.get? b=some o->s.heap.get? b=some o/\H b=none:=fun b o e=>
 ⟨I.base.keep b o (I.ok.bs b o e).1 (I.ok.bs b o e).2 (I.ok.nofr e) (I.ok.noex b o e),I.base.free b o (I.ok.bs b o e).1 (I.ok.bs b o e).2 (I.ok.noex b o e)⟩
theorem Inv.bk (I:Inv X pins σ H s):∀ b o,X.base.get? b=some o->s.heap.get? b=some o:=fun b o e=>(I.bs b o e).1
theorem Inv.mod (I:Inv X pins σ H s):Mod X.K X.mg X.base:=I.ok.mod
theorem Inv.kIn (I:Inv X pins σ H s):X.K.In s.heap:=I.ok.mod.kin.keeps I.bk
theorem Inv.fr (I:Inv X pins σ H s):∃ m,Fr X.base X.env.locals s.heap m:=
 let ⟨m,hn,_⟩:=I.loc
 ⟨m,hn,I.bk,Nat.le_trans I.ok.bsz I.ok.above⟩
theorem Inv.lt (I:Inv X pins σ H s):X.env.locals<s.heap.objs.size:=let ⟨_,hn,_⟩:=I.loc; hn.lt
theorem Inv.sz (I:Inv X pins σ H s):X.s₀.heap.objs.size<=s.heap.objs.size:=Nat.le_trans I.ok.above (Nat.le_of_lt I.lt)
theorem Inv.nofs (I:Inv X pins σ H s) {a:Addr} (h:s.heap.objs.size<=a):a∉X.fs:=fun hb=>by
 obtain ⟨_,o,ho,_⟩:=I.ok.funs.mem hb
 exact absurd (Nat.lt_of_lt_of_le (Heap.lt_size ho) (Nat.le_trans I.sz h)) (Nat.lt_irrefl _)
theorem Inv.cne (I:Inv X pins σ H s):∀ x c,X.env.cells.lookup x=some c->c≠X.env.locals:=fun x c e z=>by
 obtain ⟨v,o,ho,hd⟩:=I.cell x c e
 obtain ⟨m,⟨o',es,ep,ho',hd',_⟩,_⟩:=I.loc
 rw [z,ho'] at ho; cases ho; rw [hd'] at hd; cases hd
theorem Inv.funs (I:Inv X pins σ H s):s.heap.FunFrames X.base X.outer:=by
 have all:∀ (l:List Env),(∀ b∈frs l,b∈X.fs)->X.s₀.heap.FunFrames X.base l->s.heap.FunFrames X.base l:=by
  intro l
  induction l with
  | nil=>intro _ _; trivial
  | cons env r ih=>
   intro hs hl
   obtain ⟨hk,⟨L,o,hf,hn,ho,hd⟩,hr⟩:=hl
   have hL:L∈X.fs:=hs L (by unfold frs; rw [List.filterMap_cons,hf]; exact List.mem_cons_self)
   obtain ⟨sl,e⟩:=I.base.slot L o ho (I.ok.frf L hL) hL fun z=>I.ok.exfs L z hL
   exact ⟨hk,⟨L,_,hf,hn,e,hd⟩,ih (fun b hb=>hs b (by unfold frs; rw [List.filterMap_cons,hf]; exact List.mem_cons_of_mem _ hb)) hr⟩
 exact all X.outer (fun _ hb=>hb) I.ok.funs
theorem Inv.stack (I:Inv X pins σ H s):s.heap.FunFrames X.base X.stack:=by
 rcases I.ok.stk with e | ⟨e,hf⟩
 ·rw [e]; exact I.funs
 ·rw [e]
  obtain ⟨m,hn,_⟩:=I.loc
  refine .cons (by rw [I.ok.kind]; decide) hf hn ?_ I.funs
  exact Heap.get?_none_of_le (Nat.le_trans I.ok.bsz I.ok.above)
theorem Inv.stkSub (I:Inv X pins σ H s):∀ b∈frs X.stack,b∈X.env.locals::X.fs:=fun b hb=>by
 rcases I.ok.stk with e | ⟨e,hf⟩
 ·rw [e] at hb; exact List.mem_cons_of_mem _ hb
 ·rw [e] at hb
  unfold frs at hb
  rw [List.filterMap_cons,hf] at hb
  exact hb
theorem Inv.stkFree (I:Inv X pins σ H s):∀ b∈frs X.stack,H b=none:=fun b hb=>by
 rcases List.mem_cons.mp (I.stkSub b hb) with e | hb
 ·rw [e]; exact I.free
 ·obtain ⟨_,o,ho,_⟩:=I.ok.funs.mem hb
  exact I.base.free b o ho (I.ok.frf b hb) fun z=>I.ok.exfs b z hb
theorem Inv.step {g':Array GenState} {t':Nat} {d':Drawn} {ch:List Addr} (I:Inv X pins σ H s)
  (hch:∀ b∈ch,(b∈X.ex\/X.s₀.heap.objs.size<=b)/\b≠X.env.locals/\(∀ x c,X.env.cells.lookup x=some c->c≠b)/\∀ p∈X.pn++pins,p.1≠b)
  (keep:∀ b o,b≠X.env.locals->b∉X.fs->b∉ch->s.heap.get? b=some o->H b=none->h'.get? b=some o)
  (slot:∀ b o,b≠X.env.locals->b∈X.fs->b∉ch->s.heap.get? b=some o->H b=none->∃ sl,h'.get? b=some { o with slots:=sl }) (free:∀ b o,b∉ch->s.heap.get? b=some o->H b=none->H' b=none)
  (there:∀ b o,b∉ch->s.heap.get? b=some o->∃ o',h'.get? b=some o')
  (tups:∀ b xs,H b=some (.tup xs)->H' b=some (.tup xs)) (frzs:∀ b o u,H b=some (.frz o u)->H' b=some (.frz o u)) (tbls:∀ b ps,H b=some (.tbl ps)->∃ more,H' b=some (.tbl (ps++more)))
  (ns:∀ m,s.heap.Ns X.env.locals m->h'.Ns X.env.locals m) (hok:HOk X.prog X.w H' h') (hg:AllBare g') :
  Inv X pins σ H' { s with heap:=h',gens:=g',drawn:=d',toks:=t' }:=by
 have neL:∀ b o,X.s₀.heap.get? b=some o->b≠X.env.locals:=fun b o e=>Nat.ne_of_lt (Nat.lt_of_lt_of_le (Heap.lt_size e) I.ok.above)
 have neC:∀ b o,X.s₀.heap.get? b=some o->b∉X.ex->b∉ch:=fun b o e hx hb=>by
  rcases (hch b hb).1 with z | z
  ·exact hx z
  ·exact absurd (Nat.lt_of_lt_of_le (Heap.lt_size e) z) (Nat.lt_irrefl _)
 have cellK:∀ x c,X.env.cells.lookup x=some c->∀ v,s.heap.IsCell c v->h'.IsCell c v:=fun x c e v zz1=>by
  obtain ⟨o,ho,hd⟩:=zz1
  have nch:c∉ch:=fun z=>(hch c z).2.2.1 x c e rfl
  by_cases hc:c∈X.fs
  ·obtain ⟨sl,q⟩:=slot c o (I.cne x c e) hc nch ho (I.freeC x c e)
   exact ⟨_,q,hd⟩
  ·exact ⟨o,keep c o (I.cne x c e) hc nch ho (I.freeC x c e),hd⟩
 refine ⟨I.ok,I.os,hg,⟨fun b o e n hb hx=>?_,fun b o e n hb hx=>?_,fun b o e n hx=>?_,fun b o e hx=>?_,fun b xs e=>tups b xs (I.base.tups b xs e),fun b o xs e=>frzs b o xs (I.base.frzs b o xs e),fun b ps e=>?_⟩,?_,fun x c e=>?_,?_,fun x c e=>?_,fun p hp=>?_,hok,I.len⟩
 ·exact keep b o (neL b o e) hb (neC b o e hx) (I.base.keep b o e n hb hx) (I.base.free b o e n hx)
 ·obtain ⟨sl,e1⟩:=I.base.slot b o e n hb hx
  obtain ⟨sl',e2⟩:=slot b _ (neL b o e) hb (neC b o e hx) e1 (I.base.free b o e n hx)
  exact ⟨sl',e2⟩
 ·obtain ⟨o',e1⟩:=I.base.there b o e hx
  exact free b o' (neC b o e hx) e1 (I.base.free b o e n hx)
 ·obtain ⟨o',e1⟩:=I.base.there b o e hx
  exact there b o' (neC b o e hx) e1
 ·obtain ⟨m1,e1⟩:=I.base.tbls b ps e
  obtain ⟨m2,e2⟩:=tbls b _ e1
  exact ⟨m1++m2,by rw [e2,Array.append_assoc]⟩
 ·obtain ⟨m,hn,hl⟩:=I.loc
  refine ⟨m,ns m hn,fun i x v e1 e2 e3=>?_⟩
  obtain ⟨u,r,l⟩:=hl i x v e1 e2 e3
  refine ⟨u,r,?_⟩
  rcases l with l | ⟨k,c,e,z⟩
  ·exact .inl l
  ·exact .inr ⟨k,c,e,cellK x c e _ z⟩
 ·obtain ⟨v,z⟩:=I.cell x c e
  exact ⟨v,cellK x c e v z⟩
 ·obtain ⟨m,⟨o,_,_,ho,_⟩,_⟩:=I.loc
  exact free _ o (fun z=>(hch _ z).2.1 rfl) ho I.free
 ·obtain ⟨v,o,ho,hd⟩:=I.cell x c e
  exact free c o (fun z=>(hch c z).2.2.1 x c e rfl) ho (I.freeC x c e)
 ·obtain ⟨e,n,ne,nf,d⟩:=I.pin p hp
  have nch:p.1∉ch:=fun z=>(hch p.1 z).2.2.2 p hp rfl
  exact ⟨keep p.1 p.2 ne nf nch e n,free p.1 p.2 nch e n,ne,nf,d⟩
theorem Inv.un {t':Nat} (I:Inv X pins σ H s) (u:Un X.fs [] H H' s.heap h') (hok:HOk X.prog X.w H' h'):Inv X pins σ H' { s with heap:=h',toks:=t' }:=by
 obtain ⟨m,⟨o,es,ep,ho,r⟩,_⟩:=id I.loc
 obtain ⟨sl,hL⟩:=u.any ho I.free (by simp)
 exact I.step (g':=s.gens) (d':=s.drawn) (ch:=[]) (fun _ z=>nomatch z) (fun b o _ hb _ e n=>u.keep b o e n hb (by simp)) (fun b o _ hb _ e n=>u.slot b o e n hb (by simp)) (fun b o _ e n=>u.free b o e n (by simp)) (fun b o _ e=>u.there b o e (by simp)) u.tups u.frzs u.tbls (fun m' hm=>by
  obtain ⟨o',es',ep',ho',r'⟩:=hm
  rw [ho] at ho'; cases ho'
  exact ⟨_,es',ep',hL,r'⟩) hok I.bare
theorem Inv.call {g':Array GenState} {t':Nat} {d':Drawn} {ch:List Addr} (I:Inv X pins σ H s) (u:Un (frs X.stack) ch H H' s.heap h') (hok:HOk X.prog X.w H' h') (hg:AllBare g')
  (hch:∀ b∈ch,(b∈X.ex\/X.s₀.heap.objs.size<=b)/\b≠X.env.locals/\(∀ x c,X.env.cells.lookup x=some c->c≠b)/\∀ p∈X.pn++pins,p.1≠b) :
  Inv X pins σ H' { s with heap:=h',gens:=g',drawn:=d',toks:=t' }:=by
 obtain ⟨m,⟨o,es,ep,ho,r⟩,_⟩:=id I.loc
 obtain ⟨sl,hL⟩:=u.any ho I.free fun z=>(hch _ z).2.1 rfl
 exact I.step (ch:=ch) hch (fun b o hL hb hc e n=>u.keep b o e n (fun z=>(List.mem_cons.mp (I.stkSub b z)).elim hL hb) hc) (fun b o _ _ hc e n=>u.any e n hc) (fun b o hc e n=>u.free b o e n hc) (fun b o hc e=>u.there b o e hc) u.tups u.frzs u.tbls (fun m' hm=>by
  obtain ⟨o',es',ep',ho',r'⟩:=hm
  rw [ho] at ho'; cases ho'
  exact ⟨_,es',ep',hL,r'⟩) hok hg
theorem Inv.turned {t':Nat} {it:Addr} (I:Inv X pins σ H s) (k:∀ b o,b≠it->s.heap.get? b=some o->h'.get? b=some o) (hn:H it=none) (hL:it≠X.env.locals)
  (h1:it∈X.ex\/X.s₀.heap.objs.size<=it) (h2:∀ x c,X.env.cells.lookup x=some c->c≠it) (h3:∀ p∈X.pn++pins,p.1≠it):Inv X pins σ H { s with heap:=h',toks:=t' }:=by
 have nit:∀ b u,H b=some u->b≠it:=fun b u e z=>by rw [z,hn] at e; cases e
 refine I.step (g':=s.gens) (d':=s.drawn) (ch:=[it]) (fun b hb=>?_) (fun b o _ _ hc e _=>k b o (fun z=>hc (by simp [z])) e) (fun b o _ _ hc e _=>⟨o.slots,k b o (fun z=>hc (by simp [z])) e⟩) (fun _ _ _ _ n=>n)
  (fun b o hc e=>⟨o,k b o (fun z=>hc (by simp [z])) e⟩) (fun _ _ e=>e) (fun _ _ _ e=>e) (fun b ps e=>⟨#[],by rw [e]; simp⟩) (fun m hm=>?_) (fun b u e=>?_) I.bare
 ·have e:b=it:=by simpa using hb
  subst e
  exact ⟨h1,hL,h2,h3⟩
 ·obtain ⟨o,es,ep,ho,r⟩:=hm
  exact ⟨o,es,ep,k _ o (Ne.symm hL) ho,r⟩
 ·refine (I.hok b u e).stay (fun c v hc q=>k c v ?_ q) (fun _ q=>q) fun _ _ q=>q
  rcases hc with z | z
  ·rw [z]; exact nit b u e
  ·exact nit c _ z
theorem Inv.tok (I:Inv X pins σ H s) (t:Nat):Inv X pins σ H { s with toks:=t }:=I.un (h':=s.heap) (t':=t) Un.refl I.hok
theorem Inv.kept {t':Nat} (I:Inv X pins σ H s) (k:∀ b u,s.heap.get? b=some u->h'.get? b=some u):Inv X pins σ H { s with heap:=h',toks:=t' }:=I.un (Un.kept k) (I.hok.kept k)
theorem Inv.laid {a:Addr} {o:HO} {t':Nat} (I:Inv X pins σ H s) (k:∀ b u,s.heap.get? b=some u->h'.get? b=some u) (hp:s.heap.objs.size<=a) (new:ObjOk X.prog X.w (upd H a o) h' a o) :
  Inv X pins σ (upd H a o) { s with heap:=h',toks:=t' }:=I.un (Un.laid k hp (I.hok.fresh hp)) (I.hok.laid k hp new)
theorem Inv.write {x e:Addr} {o:HO} {t':Nat} (I:Inv X pins σ H s) (mu:Mut (H x)) (he:e=x\/H e=some (.own x)) (k:∀ b u,b≠e->s.heap.get? b=some u->h'.get? b=some u) (heo:∃ u,h'.get? e=some u)
  (new:ObjOk X.prog X.w (upd H x o) h' x o):Inv X pins σ (upd H x o) { s with heap:=h',toks:=t' }:=I.un (Un.write mu he k heo) (I.hok.write mu he k heo new)
theorem Inv.weak {σ':List (Option V)} (I:Inv X pins σ H s) (hl:σ'.length=σ.length) (w:∀ (i:Nat) v,σ'[i]?=some (some v)->σ[i]?=some (some v)):Inv X pins σ' H s:=
 ⟨I.ok,I.os,I.bare,I.base,let ⟨m,hn,hl'⟩:=I.loc; ⟨m,hn,fun i x v e1 e2 e3=>hl' i x v e1 (w i v e2) e3⟩,I.cell,I.free,I.freeC,I.pin,I.hok,hl.trans I.len⟩
theorem Inv.pins_of {pins':List (Addr×Obj)} (I:Inv X pins σ H s) (h:∀ p∈pins',s.heap.get? p.1=some p.2/\H p.1=none/\p.1≠X.env.locals/\p.1∉X.fs/\∀ v,p.2.data≠.cell v):Inv X pins' σ H s:=
 ⟨I.ok,I.os,I.bare,I.base,I.loc,I.cell,I.free,I.freeC,fun p hp=>(List.mem_append.mp hp).elim (fun z=>I.pin p (List.mem_append_left _ z)) (h p),I.hok,I.len⟩
theorem gq {N:List Str} (hN:N.Nodup) {i j:Nat} {x:Str} (a:N[i]?=some x) (b:N[j]?=some x):i=j:=by
 obtain ⟨h1,e1⟩:=List.getElem?_eq_some_iff.mp a
 obtain ⟨h2,e2⟩:=List.getElem?_eq_some_iff.mp b
 exact (List.getElem_inj hN).mp (e1.trans e2.symm)
theorem dG {M:Model} {A:Around} {E:Value->Shared->Prop} {i:Nat} {x:Str} {v:V} {u:Value} {Q:Unit->Shared->Prop} (I:Inv X pins σ H s) (hN:X.N.Nodup) (hi:X.N[i]?=some x) (hx:Loc X.env.scope x) (r:RelV v u)
  (h:∀ s',Inv X pins (σ.set i (some v)) H s'->(∃ a,Heap.SameBut a s.heap s'.heap/\(a=X.env.locals\/X.env.cells.lookup x=some a))->Q () s') (hf:X.fn x=true\/X.env.scope.names.lookup x=some .local:=by first | exact .inl rfl | exact .inr rfl | assumption):wpAny M A (storeName X.env x u) Q E s:=by
 obtain ⟨m,hn,hl⟩:=id I.loc
 have hcls:(X.env.scope.kind == .class||(X.env.scope.kind == .module&&X.env.locals != X.env.globals))=false:=by rw [I.ok.kind]; rfl
 have hiσ:i<σ.length:=by rw [I.len]; exact (List.getElem?_eq_some_iff.mp hi).1
 have cne:=I.cne
 have tracked:∀ {a:Addr} {h':Heap},(∃ o,s.heap.get? a=some o/\H a=none)->Heap.SameBut a s.heap h'->HOk X.prog X.w H h':=fun {a h'} ha hs b ob e=>by
  obtain ⟨_,_,hfree⟩:=ha
  refine (I.hok b ob e).stay (fun c w' hc q=>(hs.2 c ?_).trans q) (fun _ q=>q) fun _ _ q=>q
  rintro rfl
  rcases hc with rfl | hc
  ·rw [hfree] at e; cases e
  ·rw [hfree] at hc; cases hc
 rcases hx with hk | hk
 ·refine wpAny_storeName_local hk hn (fun h' hn' hs=>?_) hcls
  obtain ⟨oL,_,_,hoL,_⟩:=id hn
  refine h _ ⟨I.ok,I.os,I.bare,⟨fun b o e n hb hx=>?_,fun b o e n hb hx=>?_,I.base.free,fun b o e hx=>?_,I.base.tups,I.base.frzs,I.base.tbls⟩,⟨_,hn',fun j y v' e1 e2 e3=>?_⟩,fun y c e=>?_,I.free,I.freeC,fun p hp=>?_,tracked ⟨oL,hoL,I.free⟩ hs,by simpa using I.len⟩ ⟨_,hs,.inl rfl⟩
  ·exact (hs.2 b (Nat.ne_of_lt (Nat.lt_of_lt_of_le (Heap.lt_size e) I.ok.above))).trans (I.base.keep b o e n hb hx)
  ·obtain ⟨sl,e1⟩:=I.base.slot b o e n hb hx
   exact ⟨sl,(hs.2 b (Nat.ne_of_lt (Nat.lt_of_lt_of_le (Heap.lt_size e) I.ok.above))).trans e1⟩
  ·obtain ⟨o',e1⟩:=I.base.there b o e hx
   exact ⟨o',(hs.2 b (Nat.ne_of_lt (Nat.lt_of_lt_of_le (Heap.lt_size e) I.ok.above))).trans e1⟩
  ·by_cases hj:j=i
   ·subst hj
    rw [hi] at e1; cases e1
    rw [List.getElem?_set_self hiσ] at e2
    cases e2
    exact ⟨u,r,.inl ⟨hk,by simp⟩⟩
   ·rw [List.getElem?_set_ne (Ne.symm hj)] at e2
    obtain ⟨u',r',q⟩:=hl j y v' e1 e2 e3
    refine ⟨u',r',?_⟩
    rcases q with ⟨k,e⟩ | ⟨k,c,e,z⟩
    ·refine .inl ⟨k,?_⟩
     have:y≠x:=fun e=>hj (gq hN e1 (e ▸ hi))
     simp [this,e]
    ·exact .inr ⟨k,c,e,z.sameBut hs (cne y c e)⟩
  ·obtain ⟨w',z⟩:=I.cell y c e
   exact ⟨w',z.sameBut hs (cne y c e)⟩
  ·obtain ⟨e,n,ne,nf,d⟩:=I.pin p hp
   exact ⟨(hs.2 p.1 ne).trans e,n,ne,nf,d⟩
 ·have hfn:X.fn x=true:=by
   rcases hf with z | z
   ·exact z
   ·rw [z] at hk; cases hk
  obtain ⟨c,hc⟩:=I.ok.has x (.inl hk)
  obtain ⟨w',z⟩:=I.cell x c hc
  refine wpAny_storeName_cell I.ok.kind hk hc z (fun h' hc' hs=>?_)
  obtain ⟨oc,hoc,hocd⟩:=id z
  refine h { s with heap:=h' } ⟨I.ok,I.os,I.bare,⟨fun b o e n hb hx=>?_,fun b o e n hb hx=>?_,I.base.free,fun b o e hx=>?_,I.base.tups,I.base.frzs,I.base.tbls⟩,⟨m,hn.sameBut hs (Ne.symm (cne x c hc)),fun j y v' e1 e2 e3=>?_⟩,fun y c' e=>?_,I.free,I.freeC,fun p hp=>?_,tracked ⟨oc,hoc,I.freeC x c hc⟩ hs,by simpa using I.len⟩ ⟨c,hs,.inr hc⟩
  ·exact (hs.2 b (Nat.ne_of_lt (Nat.lt_of_lt_of_le (Heap.lt_size e) (I.ok.cab x c hfn hc)))).trans (I.base.keep b o e n hb hx)
  ·obtain ⟨sl,e1⟩:=I.base.slot b o e n hb hx
   exact ⟨sl,(hs.2 b (Nat.ne_of_lt (Nat.lt_of_lt_of_le (Heap.lt_size e) (I.ok.cab x c hfn hc)))).trans e1⟩
  ·obtain ⟨o',e1⟩:=I.base.there b o e hx
   exact ⟨o',(hs.2 b (Nat.ne_of_lt (Nat.lt_of_lt_of_le (Heap.lt_size e) (I.ok.cab x c hfn hc)))).trans e1⟩
  ·by_cases hj:j=i
   ·subst hj
    rw [hi] at e1; cases e1
    rw [List.getElem?_set_self hiσ] at e2
    cases e2
    exact ⟨u,r,.inr ⟨.inl hk,c,hc,hc'⟩⟩
   ·rw [List.getElem?_set_ne (Ne.symm hj)] at e2
    obtain ⟨u',r',q⟩:=hl j y v' e1 e2 e3
    refine ⟨u',r',?_⟩
    rcases q with q | ⟨k,c',e,z'⟩
    ·exact .inl q
    ·refine .inr ⟨k,c',e,z'.sameBut hs ?_⟩
     rintro rfl
     exact hj (gq hN e1 (I.ok.inj _ _ _ e hc ▸ hi))
  ·by_cases hcc:c'=c
   ·subst hcc; exact ⟨_,hc'⟩
   ·obtain ⟨w2,z2⟩:=I.cell y c' e
    exact ⟨w2,z2.sameBut hs hcc⟩
  ·obtain ⟨e,n,ne,nf,d⟩:=I.pin p hp
   refine ⟨(hs.2 p.1 ?_).trans e,n,ne,nf,d⟩
   intro q
   rw [q,hoc] at e
   have q':oc=p.2:=Option.some.inj e
   exact d w' (by rw [<- q']; exact hocd)
theorem bd {M:Model} {A:Around} {E:Value->Shared->Prop} {i:Nat} {x:Str} {v:V} {u:Value} {Q:Unit->Shared->Prop} (I:Inv X pins σ H s) (hN:X.N.Nodup) (hi:X.N[i]?=some x) (hx:Loc X.env.scope x) (r:RelV v u)
  (h:∀ s',Inv X pins (σ.set i (some v)) H s'->Q () s') (hf:X.fn x=true\/X.env.scope.names.lookup x=some .local:=by first | exact .inl rfl | exact .inr rfl | assumption):wpAny M A (storeName X.env x u) Q E s:=
 dG I hN hi hx r (fun s' I' _=>h s' I') hf
theorem Inv.call' {s':Shared} {ch:List Addr} (I:Inv X pins σ H s) (ho:s'.os=s.os) (u:Un (frs X.stack) ch H H' s.heap s'.heap) (hok:HOk X.prog X.w H' s'.heap) (hg:AllBare s'.gens)
  (hch:∀ b∈ch,(b∈X.ex\/X.s₀.heap.objs.size<=b)/\b≠X.env.locals/\(∀ x c,X.env.cells.lookup x=some c->c≠b)/\∀ p∈X.pn++pins,p.1≠b):Inv X pins σ H' s':=by
 obtain ⟨h',g',d',t',o'⟩:=s'
 have e:o'=s.os:=ho
 subst e
 exact I.call (g':=g') (t':=t') (d':=d') u hok hg hch
end
abbrev XK:=Value->Option Addr->Hp->Prop
abbrev St:=List (Option V)
abbrev VK:=V->Hp->Prop
abbrev TE:=St->Hp->VK->Prop
abbrev TT:=St->Hp->(Bool->Hp->Prop)->Prop
abbrev TA:=St->Hp->(List V->Hp->Prop)->Prop
structure Ends where
 nx:St->Hp->Prop
 rt:VK
 bk:St->Hp->Prop:=fun _ _=>False
 ct:St->Hp->Prop:=fun _ _=>False
abbrev TS:=Ends->St->Hp->Prop
def EP (X:Cx) (pins:List (Addr×Obj)) (σ:St) (Q:VK) (u:Value) (s':Shared):Prop:=∃ v H',Inv X pins σ H' s'/\RelV v u/\Q v H'
def TP (X:Cx) (pins:List (Addr×Obj)) (σ:St) (Q:Bool->Hp->Prop) (b:Bool) (s':Shared):Prop:=∃ H',Inv X pins σ H' s'/\Q b H'
def AP (X:Cx) (pins:List (Addr×Obj)) (σ:St) (Q:List V->Hp->Prop) (us:List Value) (s':Shared):Prop:=∃ vs H',Inv X pins σ H' s'/\Vals vs us/\Q vs H'
def SP (X:Cx) (pins:List (Addr×Obj)) (D:Ends) (f:Flow) (s':Shared):Prop:=
 match f with
 | .next=>∃ σ' H',Inv X pins σ' H' s'/\D.nx σ' H'
 | .brk=>∃ σ' H',Inv X pins σ' H' s'/\D.bk σ' H'
 | .cont=>∃ σ' H',Inv X pins σ' H' s'/\D.ct σ' H'
 | .ret u=>∃ v σ' H',Inv X pins σ' H' s'/\RelV v u/\D.rt v H'
def PE (X:Cx) (e:Expr) (t:TE):Prop:=
 ∀ (pins:List (Addr×Obj)) (s:Shared) (σ:St) (H:Hp) (Q:VK),Inv X pins σ H s->t σ H Q->wpAny (model X.prog X.w) X.A (eval e X.env) (EP X pins σ Q) X.xe s
def PT (X:Cx) (e:Expr) (t:TT):Prop:=
 ∀ (pins:List (Addr×Obj)) (s:Shared) (σ:St) (H:Hp) (Q:Bool->Hp->Prop),Inv X pins σ H s->t σ H Q->wpAny (model X.prog X.w) X.A (isTrue e X.env (eval e X.env)) (TP X pins σ Q) X.xe s
def PW (X:Cx) (e:Expr) (t:TT):Prop:=
 ∀ (whole:Sem Value) (pins:List (Addr×Obj)) (s:Shared) (σ:St) (H:Hp) (Q:Bool->Hp->Prop),Inv X pins σ H s->t σ H Q->wpAny (model X.prog X.w) X.A (isTrue e X.env whole) (TP X pins σ Q) X.xe s
theorem PW.pt {X:Cx} {e:Expr} {t:TT} (h:PW X e t):PT X e t:=h _
def PA (X:Cx) (es:List Expr) (t:TA):Prop:=
 ∀ (pos:Pos) (pins:List (Addr×Obj)) (s:Shared) (σ:St) (H:Hp) (Q:List V->Hp->Prop),Inv X pins σ H s->t σ H Q->wpAny (model X.prog X.w) X.A (spliced (backTo pos (starEach es X.env))) (AP X pins σ Q) X.xe s
def PS (X:Cx) (st:Stmt) (t:TS):Prop:=
 ∀ (pins:List (Addr×Obj)) (s:Shared) (σ:St) (H:Hp) (D:Ends),Inv X pins σ H s->t D σ H->wpAny (model X.prog X.w) X.A (exec st X.env) (SP X pins D) X.xe s
def PSs (X:Cx) (st:List Stmt) (t:TS):Prop:=
 ∀ (pins:List (Addr×Obj)) (s:Shared) (σ:St) (H:Hp) (D:Ends),Inv X pins σ H s->t D σ H->wpAny (model X.prog X.w) X.A (execs st X.env) (SP X pins D) X.xe s
theorem thn {α:Type} {t:Sem α} {Q Q':α->Shared->Prop} {M:Model} {A:Around} {E:Value->Shared->Prop} {s:Shared} (h:wpAny M A t Q E s) (hQ:∀ a s,Q a s->Q' a s):wpAny M A t Q' E s:=wpAny_mono h hQ fun _ _ x=>x
end L2
namespace L2
open PySem PySem.Spec PyProof.Rows
section
variable {X:Cx}
def W0 (i:Nat):TE:=fun σ H Q=>∃ v,σ[i]?=some (some v)/\Q v H
def tC (v:V):TE:=fun _ H Q=>Q v H
theorem M9 {i:Nat} {x:Str} {pos:Pos} (hN:X.N[i]?=some x) (hv:Vis X.env.scope x) (hd:(x == ("__debug__" : Str))=false:=by decide) (hcd:(x == ("__classdict__" : Str))=false:=by decide):PE X (.Name x pos) (W0 i):=by
 intro pins s σ H Q I h
 obtain ⟨v,e,h⟩:=h
 obtain ⟨m,hn,hl⟩:=I.loc
 obtain ⟨u,r,l⟩:=hl i x v hN e hv
 have fin:EP X pins σ Q u s:=⟨v,H,I,r,h⟩
 rcases l with ⟨hk,hm⟩ | ⟨hk,c,hc,hcell⟩
 ·exact wpAny_Name (wpAny_loadName_local I.ok.kind hk hn hm fin) hd
 ·rcases hk with hk | hk
  ·exact wpAny_Name (wpAny_loadName_cell I.ok.kind hk hc hcell fin) hd
  ·exact wpAny_Name (wpAny_loadName_free I.ok.kind hk hc hcell fin hcd) hd
theorem pe_int {i j pos}:PE X (.Constant (.int i) j pos) (tC (.int i)):=fun _ _ _ H _ I h=>wpAny_Constant_int ⟨.int i,H,I.tok _,⟨_,rfl⟩,h⟩
theorem pe_bl {b j pos}:PE X (.Constant (.bool b) j pos) (tC (.bl b)):=fun _ _ _ H _ I h=>Constant_bool ⟨.bl b,H,I,rfl,h⟩
theorem pe_non {j pos}:PE X (.Constant .none j pos) (tC .non):=fun _ _ _ H _ I h=>Constant_none ⟨.non,H,I,rfl,h⟩
theorem pe_str {x j pos}:PE X (.Constant (.str x) j pos) (tC (.str x)):=fun _ _ _ H _ I h=>Calls.Constant_str ⟨.str x,H,I.tok _,⟨_,rfl⟩,h⟩
def Gl (X:Cx) (x:Str):Prop:=X.env.kindOf x=some .globalImplicit
theorem vj {E:Value->Shared->Prop} {pins:List (Addr×Obj)} {s:Shared} {σ:St} {H:Hp} {x:Str} {u:Value} {pos:Pos} {Q:Value->Shared->Prop} (I:Inv X pins σ H s) (hg:Gl X x) (hm:X.mg x=some u) (h:Q u s)
  (hd:(x == ("__debug__" : Str))=false:=by decide):wpAny (model X.prog X.w) X.A (eval (.Name x pos) X.env) Q E s:=
 Calls.Name_function_global I.ok.kind hg (Calls.loadGlobal_global (by rw [I.ok.glob]; exact I.mod.glob.keeps I.bk) hm h) hd
theorem N0 {E:Value->Shared->Prop} {pins:List (Addr×Obj)} {s:Shared} {σ:St} {H:Hp} {x:Str} {u:Value} {pos:Pos} {Q:Value->Shared->Prop} (I:Inv X pins σ H s) (hg:Gl X x) (hm:X.mg x=none) (hv:bootBuiltins x=some u) (h:Q u s)
  (hn:x ≠ "__name__" := by decide) (hd:(x == ("__debug__" : Str))=false:=by decide):wpAny (model X.prog X.w) X.A (eval (.Name x pos) X.env) Q E s:=by
 obtain ⟨mb,h1,h2⟩:=I.mod.blt
 exact Calls.Name_function_global I.ok.kind hg (Calls.loadGlobal_builtin (by rw [I.ok.glob]; exact I.mod.glob.keeps I.bk) hm (by rw [I.ok.blt]; exact h1.keeps I.bk) ((h2 x hn).trans hv) h) hd
theorem uv {x:Str} {v:V} {u:Value} {pos:Pos} (hg:Gl X x) (hm:X.mg x=none) (hv:bootBuiltins x=some u) (r:RelV v u) (hn:x ≠ "__name__" := by decide) (hd:(x == ("__debug__" : Str))=false:=by decide):PE X (.Name x pos) (tC v):=
 fun _ _ _ H _ I h=>N0 I hg hm hv ⟨v,H,I,r,h⟩ hn hd
variable {a b:Expr} {ta tb:TE} {pos:Pos}
def PC (X:Cx) (op:CmpOp) (a b:Expr) (t:TE):Prop:=
 ∀ (pins:List (Addr×Obj)) (s:Shared) (σ:St) (H:Hp) (Q:VK),Inv X pins σ H s->t σ H Q ->
  wpAny (model X.prog X.w) X.A (eval a X.env) (fun v s₁=>wpAny (model X.prog X.w) X.A (eval b X.env) (fun u s₂=>wpAny (model X.prog X.w) X.A (compareOp op v u) (EP X pins σ Q) X.xe s₂) X.xe s₁) X.xe s
theorem pZ (b:Expr) {op:CmpOp} (h:op≠.In) (h2:op≠.NotIn):behindInMarks op b=false:=by
 have e1:(op == CmpOp.In)=false:=by cases op <;> first | rfl | exact absurd rfl h
 have e2:(op == CmpOp.NotIn)=false:=by cases op <;> first | rfl | exact absurd rfl h2
 cases b <;> simp [behindInMarks,e1,e2]
def tB (t:TE):TT:=fun σ H Q=>t σ H fun x H1=>∃ c,x=.bl c/\Q c H1
theorem ym {op:CmpOp} {t:TE} (h:PC X op a b t) (h1:behindInMarks op b=false:=by first | exact pZ _ (by decide) (by decide) | rfl):PT X (.Compare a [op] [b] pos) (tB t):=by
 intro pins s σ H Q I hw
 refine wpAny_isTrue_Compare1 (thn (h pins s σ H _ I hw) fun v s1 h1=>thn h1 fun u s2 h2=>thn h2 fun c s3 zz2=>?_) h1
 obtain ⟨x,H1,I1,r1,q1⟩:=zz2
 obtain ⟨d,rfl,q⟩:=q1
 cases r1
 exact wpAny_truthy_bool ⟨H1,I1,q⟩
theorem yk {e:Expr} {t:TE} (h:PE X e t) (he:∀ whole,isTrue e X.env whole=(do let v <- whole; standAt e.pos; holding [v] (truthy v)):=by intro _; rfl):PT X e (tB t):=by
 intro pins s σ H Q I hw
 refine isTrue_plain (thn (h pins s σ H _ I hw) fun v s1 zz3=>?_) (he _)
 obtain ⟨x,H1,I1,r1,q1⟩:=zz3
 obtain ⟨d,rfl,q⟩:=q1
 cases r1
 exact wpAny_truthy_bool ⟨H1,I1,q⟩
variable {tA tB':TT} {rest:List Expr}
def wR (t u:TT):TT:=fun σ H Q=>t σ H fun c H1=>if c=true then u σ H1 Q else Q false H1
def tOr (t u:TT):TT:=fun σ H Q=>t σ H fun c H1=>if c=true then Q true H1 else u σ H1 Q
def wM (t:TT):TT:=fun σ H Q=>t σ H fun c H1=>Q (!c) H1
theorem uh (ha:PT X a tA):PW X (.BoolOp .And [a] pos) tA:=by
 intro wh pins s σ H Q I h
 refine isTrue_and (thn (ha pins s σ H Q I h) fun c s1 e=>?_)
 cases c with
 | true=>exact isTrue_and_nil e
 | false=>exact e
theorem yi (ha:PT X a tA):PW X (.BoolOp .Or [a] pos) tA:=by
 intro wh pins s σ H Q I h
 refine isTrue_or (thn (ha pins s σ H Q I h) fun c s1 e=>?_)
 cases c with
 | false=>exact isTrue_or_nil e
 | true=>exact e
theorem yj (ha:PT X a tA) (hb:PW X (.BoolOp .And (b::rest) pos) tB'):PW X (.BoolOp .And (a::b::rest) pos) (wR tA tB'):=by
 intro wh pins s σ H Q I h
 refine isTrue_and (thn (ha pins s σ H _ I h) fun c s1 zz4=>?_)
 obtain ⟨H1,I1,q1⟩:=zz4
 cases c with
 | true=>exact hb wh pins s1 σ H1 Q I1 q1
 | false=>exact ⟨H1,I1,q1⟩
theorem BR (ha:PT X a tA) (hb:PW X (.BoolOp .Or (b::rest) pos) tB'):PW X (.BoolOp .Or (a::b::rest) pos) (tOr tA tB'):=by
 intro wh pins s σ H Q I h
 refine isTrue_or (thn (ha pins s σ H _ I h) fun c s1 zz5=>?_)
 obtain ⟨H1,I1,q1⟩:=zz5
 cases c with
 | true=>exact ⟨H1,I1,q1⟩
 | false=>exact hb wh pins s1 σ H1 Q I1 q1
theorem yl (ha:PT X a tA):PT X (.UnaryOp .Not a pos) (wM tA):=by
 intro pins s σ H Q I h
 exact isTrue_not (ha pins s σ H (fun c H1=>Q (!c) H1) I h)
def rF (ta tb:TE):TE:=fun σ H Q=>ta σ H fun x H1=>∃ c,x=.bl c/\if c=true then tb σ H1 Q else Q (.bl false) H1
def rE (ta:TE):TE:=fun σ H Q=>ta σ H fun x H1=>∃ c,x=.bl c/\Q (.bl (!c)) H1
theorem yy {op} {t:TE} (h:PE X a t):PE X (.BoolOp op [a] pos) t:=fun pins s σ H Q I hw=>BoolOp_one (h pins s σ H Q I hw)
theorem yB (ha:PE X a ta) (hb:PE X (.BoolOp .And (b::rest) pos) tb):PE X (.BoolOp .And (a::b::rest) pos) (rF ta tb):=by
 intro pins s σ H Q I h
 refine BoolOp_and (thn (ha pins s σ H _ I h) fun v s1 zz6=>?_)
 obtain ⟨x,H1,I1,r1,q1⟩:=zz6
 obtain ⟨c,rfl,q1⟩:=q1
 cases r1
 refine wpAny_truthy_bool ?_
 cases c with
 | true=>exact hb pins s1 σ H1 Q I1 q1
 | false=>exact ⟨.bl false,H1,I1,rfl,q1⟩
theorem yz (ha:PE X a ta):PE X (.UnaryOp .Not a pos) (rE ta):=by
 intro pins s σ H Q I h
 refine UnaryOp_ (thn (ha pins s σ H _ I h) fun v s1 zz7=>?_)
 obtain ⟨x,H1,I1,r1,q1⟩:=zz7
 obtain ⟨c,rfl,q1⟩:=q1
 cases r1
 exact not_of (wpAny_truthy_bool ⟨.bl (!c),H1,I1,rfl,q1⟩)
def tIf (t:TT) (ta tb:TE):TE:=fun σ H Q=>t σ H fun c H1=>if c=true then ta σ H1 Q else tb σ H1 Q
theorem pO {c:Expr} (hc:PT X c tA) (ha:PE X a ta) (hb:PE X b tb):PE X (.IfExp c a b pos) (tIf tA ta tb):=by
 intro pins s σ H Q I h
 refine wpAny_IfExp (thn (hc pins s σ H _ I h) fun d s1 zz8=>?_)
 obtain ⟨H1,I1,q1⟩:=zz8
 cases d with
 | true=>exact ha pins s1 σ H1 Q I1 q1
 | false=>exact hb pins s1 σ H1 Q I1 q1
end
end L2
namespace L2
open PySem PySem.Spec PyProof.Rows
def SqL (K:Frag) (H:Hp) (a:Addr) (xs:List V):Prop:=
 Rd H a (.lst xs) \/
  ∃ (o:Obj) (its:Array Value) (n:Nat),K.lookup a=some o/\o.cls=.type "list" /\ o.dict=none/\o.data=.seq its n/\its.size<=sizeLine/\Vals xs its.toList
def SqT (K:Frag) (H:Hp) (a:Addr) (xs:List V):Prop:=
 Rd H a (.tup xs) \/
  ∃ (o:Obj) (its:Array Value) (n:Nat),K.lookup a=some o/\o.cls=.type "tuple" /\ o.data=.seq its n/\its.size<=sizeLine/\Vals xs its.toList
def absV:Value->Option V
 | .none=>some .non
 | .bool b=>some (.bl b)
 | .int i _=>some (.int i)
 | .str x _=>some (.str x)
 | .bytes b _=>some (.byt b)
 | .float b _=>some (.flt b)
 | .ref a=>some (.ref a)
 | .type n=>some (.ty n)
 | _=>none
theorem RelV.abs {x:V} {u:Value} (r:RelV x u):absV u=some x:=by
 cases x with
 | non=>cases r; rfl
 | bl _=>cases r; rfl
 | int _=>obtain ⟨t,rfl⟩:=r; rfl
 | str _=>obtain ⟨t,rfl⟩:=r; rfl
 | byt _=>obtain ⟨t,rfl⟩:=r; rfl
 | flt _=>obtain ⟨t,rfl⟩:=r; rfl
 | ref _=>cases r; rfl
 | ty _=>cases r; rfl
theorem RelV.inj {x y:V} {u:Value} (r:RelV x u) (q:RelV y u):x=y:=Option.some.inj (r.abs.symm.trans q.abs)
theorem Vals.inj:∀ {xs ys:List V} {us:List Value},Vals xs us->Vals ys us->xs=ys:=by
 intro xs ys us a
 induction a generalizing ys with
 | nil=>intro b; cases b; rfl
 | cons r t ih=>
  intro b
  cases b with
  | cons r' t'=>rw [r.inj r',ih t']
section
variable {X:Cx} {pins:List (Addr×Obj)} {σ:St} {H:Hp} {s:Shared} {a:Addr} {xs ys:List V}
theorem SqL.of {K:Frag} (h:H a=some (.lst xs)):SqL K H a xs:=.inl (.inl h)
theorem SqT.of {K:Frag} (h:H a=some (.tup xs)):SqT K H a xs:=.inl (.inl h)
theorem Inv.list (I:Inv X pins σ H s) (h:SqL X.K H a xs):∃ its:List Value,Vals xs its/\PlainL s.heap a its.toArray/\xs.length<=sizeLine:=by
 rcases h with h | ⟨o,its,n,hk,hc,hd,hs,hz,r⟩
 ·obtain ⟨z,its,n,r,e⟩:=h.ok I.hok
  exact ⟨its,r,⟨_,n,e,rfl,rfl,rfl⟩,z⟩
 ·refine ⟨its.toList,r,⟨o,n,I.kIn a o hk,hc,hd,by simpa using hs⟩,?_⟩
  have e:=r.length
  simp only [Array.length_toList] at e
  omega
theorem Inv.tuple (I:Inv X pins σ H s) (h:SqT X.K H a xs):∃ its:List Value,Vals xs its/\IsTup s.heap a its.toArray/\xs.length<=sizeLine:=by
 rcases h with h | ⟨o,its,n,hk,hc,hs,hz,r⟩
 ·obtain ⟨z,its,r,p⟩:=h.ok I.hok
  exact ⟨its,r,p,z⟩
 ·refine ⟨its.toList,r,⟨o,I.kIn a o hk,hc,n,by simpa using hs⟩,?_⟩
  have e:=r.length
  simp only [Array.length_toList] at e
  omega
theorem Inv.list_inj (I:Inv X pins σ H s) (h:SqL X.K H a xs) (h':SqL X.K H a ys):xs=ys:=by
 obtain ⟨its,r,⟨o,n,e,_,_,d⟩,_⟩:=I.list h
 obtain ⟨its',r',⟨o',n',e',_,_,d'⟩,_⟩:=I.list h'
 rw [e] at e'; cases e'
 rw [d] at d'
 injection d' with d1 _
 have:its=its':=by simpa using congrArg Array.toList d1
 subst this
 exact r.inj r'
theorem Inv.tuple_inj (I:Inv X pins σ H s) (h:SqT X.K H a xs) (h':SqT X.K H a ys):xs=ys:=by
 obtain ⟨its,r,⟨o,e,_,n,d⟩,_⟩:=I.tuple h
 obtain ⟨its',r',⟨o',e',_,n',d'⟩,_⟩:=I.tuple h'
 rw [e] at e'; cases e'
 rw [d] at d'
 injection d' with d1 _
 have:its=its':=by simpa using congrArg Array.toList d1
 subst this
 exact r.inj r'
end
abbrev Cx.wish (X:Cx) (E:Value->Shared->Prop):Cx:={ X with xe:=E }
abbrev Cx.nox (X:Cx):Cx:=X.wish fun _ _=>False
theorem Cx.Ok.wish {X:Cx} (ok:X.Ok) (E:Value->Shared->Prop):(X.wish E).Ok:=
 ⟨ok.mod,ok.kind,ok.glob,ok.blt,ok.above,ok.inj,ok.has,ok.cab,ok.hd,ok.frames,ok.stk,ok.exf,ok.bs,ok.bsz,ok.noex,ok.exfs,ok.funs,ok.frf⟩
theorem Cx.Ok.unwish {X:Cx} {E:Value->Shared->Prop} (ok:(X.wish E).Ok):X.Ok:=
 ⟨ok.mod,ok.kind,ok.glob,ok.blt,ok.above,ok.inj,ok.has,ok.cab,ok.hd,ok.frames,ok.stk,ok.exf,ok.bs,ok.bsz,ok.noex,ok.exfs,ok.funs,ok.frf⟩
section
variable {X:Cx} {pins:List (Addr×Obj)} {σ:St} {H:Hp} {s:Shared} {E:Value->Shared->Prop}
theorem Inv.wish (I:Inv X pins σ H s) (E:Value->Shared->Prop):Inv (X.wish E) pins σ H s:=⟨I.ok.wish E,I.os,I.bare,I.base,I.loc,I.cell,I.free,I.freeC,I.pin,I.hok,I.len⟩
theorem Inv.unwish (I:Inv (X.wish E) pins σ H s):Inv X pins σ H s:=⟨I.ok.unwish,I.os,I.bare,I.base,I.loc,I.cell,I.free,I.freeC,I.pin,I.hok,I.len⟩
theorem SP.unwish {D:Ends} {f:Flow} {s':Shared} (h:SP (X.wish E) pins D f s'):SP X pins D f s':=by
 cases f with
 | next=>obtain ⟨σ',H',I,q⟩:=h; exact ⟨σ',H',I.unwish,q⟩
 | brk=>obtain ⟨σ',H',I,q⟩:=h; exact ⟨σ',H',I.unwish,q⟩
 | cont=>obtain ⟨σ',H',I,q⟩:=h; exact ⟨σ',H',I.unwish,q⟩
 | ret u=>obtain ⟨v,σ',H',I,r,q⟩:=h; exact ⟨v,σ',H',I.unwish,r,q⟩
theorem PSs.nox {st:List Stmt} {t:TS} (h:PSs X.nox st t):PSs X st t:=fun pins s σ H D I hw=>
 wpAny_mono (h pins s σ H D (I.wish _) hw) (fun _ _ q=>q.unwish) fun _ _ z=>False.elim z
end
section
variable {X:Cx} {st:Stmt} {rest:List Stmt} {t u:TS} {e:Expr} {te:TE} {pos:Pos}
def tNext:TS:=fun D σ H=>D.nx σ H
def oO (t u:TS):TS:=fun D σ H=>t { D with nx:=u D } σ H
theorem pss_nil:PSs X [] tNext:=fun _ _ σ H _ I h=>wpAny_execs_nil ⟨σ,H,I,h⟩
theorem fS (h1:PS X st t) (h2:PSs X rest u):PSs X (st::rest) (oO t u):=by
 intro pins s σ H D I h
 refine wpAny_execs_cons (thn (h1 pins s σ H { D with nx:=u D } I h) fun f s1 q=>?_)
 cases f with
 | next=>
  obtain ⟨σ',H',I',q⟩:=q
  exact h2 pins s1 σ' H' D I' q
 | ret v=>exact q
 | brk=>exact q
 | cont=>exact q
theorem cW (h1:PS X st t):PSs X [st] t:=by
 intro pins s σ H D I h
 refine wpAny_execs_cons (thn (h1 pins s σ H D I h) fun f s1 q=>?_)
 cases f with
 | next=>exact wpAny_execs_nil q
 | ret v=>exact q
 | brk=>exact q
 | cont=>exact q
def tCont:TS:=fun D σ H=>D.ct σ H
theorem ps_continue:PS X (.Continue pos) tCont:=fun _ _ σ H _ I h=>wpAny_Continue ⟨σ,H,I,h⟩
theorem Inv.quiet {pins:List (Addr×Obj)} {σ:St} {H:Hp} {s:Shared} (I:Inv X pins σ H s):interactive X.env=false:=by simp [interactive,I.ok.kind]
def eP (te:TE):TS:=fun D σ H=>te σ H fun _ H1=>D.nx σ H1
theorem cX (he:PE X e te) (hs:swapsWith e none pos.line X.env=pure false:=by rfl):PS X (.Expr e pos) (eP te):=by
 intro pins s σ H D I h
 exact wpAny_Expr_any (thn (he pins s σ H _ I h) fun v s1 zz9=>by obtain ⟨x,H1,I1,r1,q1⟩:=zz9; exact ⟨σ,H1,I1,q1⟩) I.quiet hs
def jN (te:TE):TS:=fun D σ H=>te σ H D.rt
theorem mD (he:PE X e te):PS X (.Return (some e) pos) (jN te):=by
 intro pins s σ H D I h
 exact wpAny_Return_some (thn (he pins s σ H _ I h) fun v s1 zz10=>by obtain ⟨x,H1,I1,r1,q1⟩:=zz10; exact ⟨x,σ,H1,I1,r1,q1⟩)
def wO (c:TT) (t u:TS):TS:=fun D σ H=>c σ H fun b H1=>if b=true then t D σ H1 else u D σ H1
theorem BS {c:Expr} {a b:List Stmt} {tc:TT} (hc:PT X c tc) (ha:PSs X a t) (hb:PSs X b u):PS X (.If c a b pos) (wO tc t u):=by
 intro pins s σ H D I h
 refine wpAny_If (thn (hc pins s σ H _ I h) fun d s1 zz11=>?_)
 obtain ⟨H1,I1,q1⟩:=zz11
 cases d with
 | true=>exact ha pins s1 σ H1 D I1 q1
 | false=>exact hb pins s1 σ H1 D I1 q1
def tNever:TS:=fun _ _ _=>False
theorem ps_never:PS X st tNever:=fun _ _ _ _ _ _ h=>h.elim
end
abbrev TG:=V->St->Hp->(St->Hp->Prop)->Prop
abbrev TGs:=List V->St->Hp->(St->Hp->Prop)->Prop
def PG (X:Cx) (target:Expr) (t:TG):Prop:=
 ∀ (pins:List (Addr×Obj)) (s:Shared) (σ:St) (H:Hp) (v:V) (u:Value) (Q:St->Hp->Prop),Inv X pins σ H s->RelV v u->t v σ H Q ->
  wpAny (model X.prog X.w) X.A (assign target X.env u) (fun _ s'=>∃ σ' H',Inv X pins σ' H' s'/\Q σ' H') X.xe s
def PGs (X:Cx) (ts:List Expr) (t:TGs):Prop:=
 ∀ (pins:List (Addr×Obj)) (s:Shared) (σ:St) (H:Hp) (vs:List V) (us:List Value) (Q:St->Hp->Prop),Inv X pins σ H s->Vals vs us->t vs σ H Q ->
  wpAny (model X.prog X.w) X.A (assignInOrder ((assignEach ts X.env).map (·.2)) us) (fun _ s'=>∃ σ' H',Inv X pins σ' H' s'/\Q σ' H') X.xe s
abbrev TSet:=V->V->V->Hp->(Hp->Prop)->Prop
abbrev TIp:=V->V->Hp->VK->Prop
def PIp (X:Cx) (op:Operator) (t:TIp):Prop:=
 ∀ (pins:List (Addr×Obj)) (s:Shared) (σ:St) (H:Hp) (x y:V) (v u:Value) (Q:VK),Inv X pins σ H s->RelV x v->RelV y u->t x y H Q ->
  wpAny (model X.prog X.w) X.A (inplaceOp op v u) (EP X pins σ Q) X.xe s
section
variable {X:Cx} {pos:Pos}
def C4 (i:Nat):TG:=fun v σ H Q=>Q (σ.set i (some v)) H
theorem d4 {i:Nat} {x:Str} (hN:X.N.Nodup) (hi:X.N[i]?=some x) (hx:Loc X.env.scope x) (hf:X.fn x=true\/X.env.scope.names.lookup x=some .local:=by first | exact .inl rfl | exact .inr rfl | assumption):PG X (.Name x pos) (C4 i):=by
 intro pins s σ H v u Q I r h
 exact wpAny_assign_Name (bd I hN hi hx r (fun s' I'=>⟨_,H,I',h⟩) hf)
def gNil:TGs:=fun vs σ H Q=>vs = []/\Q σ H
def kJ (t:TG) (u:TGs):TGs:=fun vs σ H Q=>∃ v r,vs=v::r/\t v σ H fun σ' H'=>u r σ' H' Q
theorem E8:PGs X [] gNil:=by
 intro pins s σ H vs us Q I r h
 obtain ⟨e,h⟩:=h
 subst e
 cases r
 exact assignInOrder_nil ⟨σ,H,I,h⟩
theorem j5 {e:Expr} {es:List Expr} {t:TG} {u:TGs} (h1:PG X e t) (h2:PGs X es u)
  (hs:(assignEach (e::es) X.env).map (·.2)=assign e X.env::(assignEach es X.env).map (·.2):=by rfl):PGs X (e::es) (kJ t u):=by
 intro pins s σ H vs us Q I r h
 obtain ⟨v,vr,e1,h⟩:=h
 subst e1
 cases r with
 | cons r rr=>
  rw [hs]
  refine assignInOrder_cons (thn (h1 pins s σ H _ _ _ I r h) fun _ s1 zz12=>?_)
  obtain ⟨σ1,H1,I1,q1⟩:=zz12
  exact h2 pins s1 σ1 H1 _ _ Q I1 rr q1
def kI (K:Frag) (n:Nat) (t:TGs):TG:=fun v σ H Q=>∃ a xs,v=.ref a/\SqT K H a xs/\xs.length=n/\t xs σ H Q
theorem yw {es:List Expr} {k:Nat} {t:TGs} {n:Nat} (hc:X.calm=true) (h:PGs X es t)
  (hn:(assignEach es X.env).length=n:=by rfl) (hst:(assignEach es X.env).findIdx? (·.1)=none:=by rfl):PG X (.Tuple es k pos) (kI X.K n t):=by
 intro pins s σ H v u Q I r hw
 obtain ⟨a,xs,e1,hq,hl,hw⟩:=hw
 subst e1
 cases r
 obtain ⟨its,rv,ht,hz⟩:=I.tuple hq
 refine assign_Tuple_tuple (I.ok.hd hc) ht (by simp [hn,<- hl,rv.length]) hst fun h' hx=>?_
 have I1:Inv X pins σ H { s with heap:=h' }:=I.kept (t':=s.toks) fun b o e=>hx b o (Nat.ne_of_lt (Heap.lt_size e)) e
 exact h pins _ σ H xs _ Q I1 (by simpa using rv) hw
def gSub (to ti:TE) (t:TSet):TG:=fun v σ H Q=>to σ H fun o H1=>ti σ H1 fun i H2=>t o i v H2 fun H3=>Q σ H3
def S9 (te:TE) (g:TG):TS:=fun D σ H=>te σ H fun x H1=>g x σ H1 D.nx
theorem yo {tg e:Expr} {te:TE} {g:TG} (he:PE X e te) (hg:PG X tg g) (hs:swapsWithSole [tg] e pos.line X.env=pure false:=by rfl) (hw:swappedStores [tg] e X.env=pure none:=by rfl)
  (h1:(assignEach [tg] X.env).map (·.2) = [assign tg X.env]:=by rfl):PS X (.Assign [tg] e pos) (S9 te g):=by
 intro pins s σ H D I h
 refine wpAny_Assign_stores (thn (he pins s σ H _ I h) fun v s1 zz13=>?_) hs hw
 obtain ⟨x,H1,I1,r1,q1⟩:=zz13
 rw [h1]
 exact thn (hg pins s1 σ H1 x v _ I1 r1 q1) fun _ s2 q=>q
theorem U3 {i:Nat} {x:Str} {e:Expr} {te:TE} {pos':Pos} (hN:X.N.Nodup) (hi:X.N[i]?=some x) (hx:Loc X.env.scope x) (he:PE X e te) (hs:swapsWith e (some (.Name x pos')) pos.line X.env=pure false:=by rfl) (hf:X.fn x=true\/X.env.scope.names.lookup x=some .local:=by first | exact .inl rfl | exact .inr rfl | assumption) :
  PS X (.Assign [.Name x pos'] e pos) (S9 te (C4 i)):=by
 intro pins s σ H D I h
 refine wpAny_Assign_Name (thn (he pins s σ H _ I h) fun v s1 zz14=>?_) hs
 obtain ⟨y,H1,I1,r1,q1⟩:=zz14
 exact bd I1 hN hi hx r1 (fun s2 I2=>⟨_,H1,I2,q1⟩) hf
def wQ (i:Nat) (te:TE) (ti:TIp):TS:=fun D σ H=>∃ x,σ[i]?=some (some x)/\te σ H fun y H1=>ti x y H1 fun z H2=>D.nx (σ.set i (some z)) H2
theorem yn {i:Nat} {x:Str} {e:Expr} {te:TE} {op:Operator} {ti:TIp} {pos':Pos} (hN:X.N.Nodup) (hi:X.N[i]?=some x) (hx:Loc X.env.scope x) (he:PE X e te) (ho:PIp X op ti) (hf:X.fn x=true\/X.env.scope.names.lookup x=some .local:=by first | exact .inl rfl | exact .inr rfl | assumption) :
  PS X (.AugAssign (.Name x pos') op e pos) (wQ i te ti):=by
 intro pins s σ H D I h
 obtain ⟨v,e1,h⟩:=h
 obtain ⟨m,hn,hl⟩:=I.loc
 have vis:Vis X.env.scope x:=by rcases hx with k | k; exact .inl k; exact .inr (.inl k)
 obtain ⟨u,r,l⟩:=hl i x v hi e1 vis
 refine wpAny_AugAssign_Name ?_
 have go:wpAny (model X.prog X.w) X.A (eval e X.env) (fun w s₂=>wpAny (model X.prog X.w) X.A (inplaceOp op u w) (fun r s₃=>wpAny (model X.prog X.w) X.A (storeName X.env x r) (fun _=>SP X pins D .next) X.xe s₃) X.xe s₂) X.xe s:=by
  refine thn (he pins s σ H _ I h) fun w s1 zz15=>?_
  obtain ⟨y,H1,I1,r1,q1⟩:=zz15
  refine thn (ho pins s1 σ H1 v y u w _ I1 r r1 q1) fun z s2 zz16=>?_
  obtain ⟨zv,H2,I2,r2,q2⟩:=zz16
  exact bd I2 hN hi hx r2 (fun s3 I3=>⟨_,H2,I3,q2⟩) hf
 rcases l with ⟨hk,hm⟩ | ⟨hk,c,hc,hcell⟩
 ·exact wpAny_loadName_local I.ok.kind hk hn hm go
 ·rcases hk with hk | hk
  ·exact wpAny_loadName_cell I.ok.kind hk hc hcell go
  ·rcases hx with k | k
   ·have:X.env.scope.names.lookup x=some .free:=hk
    rw [k] at this; cases this
   ·have:X.env.scope.names.lookup x=some .free:=hk
    rw [k] at this; cases this
def ipI (f:Int->Int->Int):TIp:=fun x y H Q=>∃ i j,x=.int i/\y=.int j/\Q (.int (f i j)) H
theorem zJ:PIp X .Add (ipI fun i j=>i+j):=by
 intro pins s σ H x y v u Q I r1 r2 h
 obtain ⟨i,j,e1,e2,q⟩:=h
 subst e1; subst e2
 obtain ⟨t,rfl⟩:=r1
 obtain ⟨t',rfl⟩:=r2
 exact iadd_int ⟨.int _,H,I.tok _,⟨_,rfl⟩,q⟩
end
section
variable {X:Cx} {pos:Pos}
def lE (c:TT) (tb:TS):TS:=fun D σ H=>∃ W:Nat->St->Hp->Prop,(∃ m,W m σ H)/\∀ m σ H,W m σ H ->
 c σ H fun b H1=>if b=true then ∃ N:St->Hp->Prop,(∀ σ' H',N σ' H'->∃ m',m'<m/\W m' σ' H')/\tb { D with nx:=N,ct:=N,bk:=D.nx } σ H1 else D.nx σ H1
theorem pJ {c:Expr} {body:List Stmt} {tc:TT} {tb:TS} (hp:PassesOwn (model X.prog X.w) X.A X.env X.xe) (hc:PT X c tc) (hb:PSs X body tb):PS X (.While c body [] pos) (lE tc tb):=by
 intro pins s σ H D I h
 obtain ⟨W,⟨m0,w0⟩,turn⟩:=h
 refine wpAny_While (codeAny_whileLoop (fun n s'=>∃ σ' H',Inv X pins σ' H' s'/\W n σ' H') ?_ m0 ⟨σ,H,I,w0⟩)
 rintro n s1 ⟨σ1,H1,I1,w1⟩
 refine wpAny_passesOwn hp (thn (hc pins s1 σ1 H1 _ I1 (turn n σ1 H1 w1)) fun b s2 zz17=>?_)
 obtain ⟨H2,I2,q2⟩:=zz17
 cases b with
 | true=>
  obtain ⟨N,hN,q2⟩:=q2
  rw [if_pos rfl]
  refine wpAny_passesOwn hp (thn (hb pins s2 σ1 H2 _ I2 q2) fun f s3 q3=>?_)
  cases f with
  | next=>
   obtain ⟨σ3,H3,I3,n3⟩:=q3
   obtain ⟨m',hm,w3⟩:=hN σ3 H3 n3
   exact ⟨m',hm,σ3,H3,I3,w3⟩
  | cont=>
   obtain ⟨σ3,H3,I3,n3⟩:=q3
   obtain ⟨m',hm,w3⟩:=hN σ3 H3 n3
   exact ⟨m',hm,σ3,H3,I3,w3⟩
  | brk=>exact q3
  | ret v=>exact q3
 | false=>
  rw [if_neg Bool.false_ne_true]
  exact wpAny_execs_nil ⟨σ1,H2,I2,q2⟩
end
structure It where
 go:Nat->Hp->Prop
 yld:Nat->Hp->V->Hp->Prop
 stop:Nat->Hp->Prop
def D2 (X:Cx) (pins:List (Addr×Obj)) (H:Hp) (b:Addr):Prop:=
 H b=none/\b≠X.env.locals/\b∉X.fs/\(b∈X.ex\/X.s₀.heap.objs.size<=b)/\(∀ x c,X.env.cells.lookup x=some c->c≠b)/\∀ p∈X.pn++pins,p.1≠b
theorem Inv.fpOk {X:Cx} {pins:List (Addr×Obj)} {σ:St} {H H':Hp} {s:Shared} {b:Addr} (I:Inv X pins σ H s) (hb:s.heap.objs.size<=b) (hn:H' b=none):D2 X pins H' b:=by
 refine ⟨hn,Nat.ne_of_gt (Nat.lt_of_lt_of_le I.lt hb),I.nofs hb,.inr (Nat.le_trans I.sz hb),fun x c e z=>?_,fun p hp z=>?_⟩
 ·obtain ⟨v,q⟩:=I.cell x c e
  exact absurd (Nat.lt_of_lt_of_le q.lt (by rw [z]; exact hb)) (Nat.lt_irrefl _)
 ·exact absurd (Nat.lt_of_lt_of_le (Heap.lt_size (I.pin p hp).1) (by rw [z]; exact hb)) (Nat.lt_irrefl _)
structure Turn (P:Program) (w:World) (K:Frag) (tg:Expr) (J:It) (fp:List Addr) (it:Addr) (tn:Nat->Heap->Prop):Prop where
 mem:it∈fp
 obj:∀ i h,tn i h->∀ b∈fp,∃ o,h.get? b=some o/\∀ v,o.data≠.cell v
 keep:∀ i h h',tn i h->(∀ b∈fp,∀ o,h.get? b=some o->h'.get? b=some o)->tn i h'
 item:∀ (X:Cx),X.prog=P->X.w=w->X.K=K->X.calm=true->∀ (i:Nat) (pins:List (Addr×Obj)) (s:Shared) (σ:St) (H:Hp) (E:Value->Shared->Prop),Inv X pins σ H s->(∀ b∈fp,D2 X pins H b)->tn i s.heap->J.go i H ->
  wpAny (model P w) X.A (pyNext (.ref it)) (fun r s1=>∃ u,r=some u /\
   wpAny (model P w) X.A (letOwnedTupleGo tg (.ref it) u) (fun _ s2=>∃ x H',Inv X pins σ H' s2/\RelV x u/\J.yld i H x H'/\tn (i+1) s2.heap/\∀ b∈fp,H' b=none) E s1) E s
 done:∀ (X:Cx),X.prog=P->X.w=w->X.K=K->X.calm=true->∀ (i:Nat) (pins:List (Addr×Obj)) (s:Shared) (σ:St) (H:Hp) (E:Value->Shared->Prop),Inv X pins σ H s->(∀ b∈fp,D2 X pins H b)->tn i s.heap->J.stop i H ->
  wpAny (model P w) X.A (pyNext (.ref it)) (fun r s1=>r=none/\Inv X pins σ H s1) E s
 self:∀ (A:Around) (i:Nat) (s:Shared) (Q:Value->Shared->Prop) (E:Value->Shared->Prop),tn i s.heap->Q (.ref it) s->wpAny (model P w) A (pyIter (.ref it)) Q E s
abbrev TI:=St->Hp->(It->Hp->Prop)->Prop
def PIE (X:Cx) (pins:List (Addr×Obj)) (σ:St) (tg:Expr) (R:It->Hp->Prop) (itv:Value) (s2:Shared):Prop:=
 ∃ (it:Addr) (fp:List Addr) (tn:Nat->Heap->Prop) (J:It) (H':Hp),itv=.ref it/\Inv X pins σ H' s2/\Turn X.prog X.w X.K tg J fp it tn/\tn 0 s2.heap/\(∀ b∈fp,D2 X pins H' b)/\R J H'
def PI (X:Cx) (tg iter:Expr) (wi:TI):Prop:=
 ∀ (pins:List (Addr×Obj)) (s:Shared) (σ:St) (H:Hp) (R:It->Hp->Prop),Inv X pins σ H s->wi σ H R ->
  wpAny (model X.prog X.w) X.A (eval iter X.env) (fun v s1=>wpAny (model X.prog X.w) X.A (pyIter v) (PIE X pins σ tg R) X.xe s1) X.xe s
theorem kH {M:Model} {A:Around} {E:Value->Shared->Prop} {s:Shared} {tg:Expr} {it:Addr} {u:Value} {o:Obj} {n:String} {vs:Array Value} {Q:Unit->Shared->Prop} (ho:s.heap.get? it=some o) (hc:o.cls=.type n) (hd:o.data=.fields vs)
    (hn:["enumerate", "zip", "dict_itemiterator", "dict_reverseitemiterator", "odict_iterator", "itertools.zip_longest", "itertools.pairwise"].contains n=false) (hQ:Q () s):wpAny M A (letOwnedTupleGo tg (.ref it) u) Q E s:=by
  unfold letOwnedTupleGo
  cases tg <;> first
    | exact wpAny_pure hQ
    | (cases u <;> first
        | exact wpAny_pure hQ
        | (refine wpAny_bind (wpAny_load ho ?_)
           rw [hc,hd]
           show wpAny M A (if (["enumerate", "zip", "dict_itemiterator", "dict_reverseitemiterator", "odict_iterator", "itertools.zip_longest", "itertools.pairwise"].contains n&&vs[0]? == some (rawInt _))=true then _ else _) Q E s
           rw [if_neg (by intro h; rw [hn,Bool.false_and] at h; cases h)]
           exact wpAny_pure hQ))
def Itl (K:Frag) (a:Addr):It:=
 ⟨fun i H=>∃ xs x,SqL K H a xs/\xs[i]?=some x,fun i H x H'=>H'=H/\∀ xs,SqL K H a xs->xs[i]?=some x,fun i H=>∃ xs,SqL K H a xs/\xs.length<=i⟩
def Itt (K:Frag) (a:Addr):It:=
 ⟨fun i H=>∃ xs x,SqT K H a xs/\xs[i]?=some x,fun i H x H'=>H'=H/\∀ xs,SqT K H a xs->xs[i]?=some x,fun i H=>∃ xs,SqT K H a xs/\xs.length<=i⟩
def Itr (lo:Int) (n:Nat):It:=⟨fun i _=>i<n,fun i H x H'=>H'=H/\x=.int (lo+i),fun i _=>n<=i⟩
theorem lB {P:Program} {w:World} {K:Frag} {tg:Expr} (a it:Addr):Turn P w K tg (Itl K a) [it] it (fun i h=>h.IsListIter it a i) where
 mem:=by simp
 obj:=fun i h st b hb=>by
  have e:b=it:=by simpa using hb
  subst e
  obtain ⟨o,e,c,d⟩:=st
  exact ⟨o,e,fun v z=>by rw [d] at z; cases z⟩
 keep:=fun i h h' st k=>st.at fun o e=>k it (by simp) o e
 item:=by
  intro X hP hw hK hc i pins s σ H E I hf st hg
  subst hP hw hK
  obtain ⟨xs,x,hq,hx⟩:=hg
  obtain ⟨its,rv,p,hz⟩:=I.list hq
  obtain ⟨u,hu,ru⟩:=rv.get hx
  obtain ⟨f0,f1,f2,f3,f4,f5⟩:=hf it (by simp)
  refine wpAny_pyNext_list_item st p.isList (x:=u) (by simpa using hu) fun h' st' sb=>?_
  have I1:Inv X pins σ H { s with heap:=h' }:=I.turned (t':=s.toks) (fun b o hb e=>(sb.2 b hb).trans e) f0 f1 f3 f4 f5
  obtain ⟨o,e,c,d⟩:=id st'
  exact ⟨u,rfl,kH (s:={ s with heap:=h' }) e c d (by decide) ⟨x,H,I1,ru,⟨rfl,fun ys hy=>by rw [I.list_inj hy hq]; exact hx⟩,st',fun b hb=>(hf b hb).1⟩⟩
 done:=by
  intro X hP hw hK hc i pins s σ H E I hf st hg
  subst hP hw hK
  obtain ⟨xs,hq,hx⟩:=hg
  obtain ⟨its,rv,p,hz⟩:=I.list hq
  obtain ⟨f0,f1,f2,f3,f4,f5⟩:=hf it (by simp)
  have hl:=rv.length
  exact wpAny_pyNext_list_end (I.ok.hd hc) st p.isList (by simp; omega) fun h' eb=>⟨rfl,I.turned (t':=s.toks) (fun b o hb e=>eb b o hb e) f0 f1 f3 f4 f5⟩
 self:=fun _ _ _ _ _ st h=>wpAny_pyIter_listiter st h
theorem bF {P:Program} {w:World} {K:Frag} {tg:Expr} (a it:Addr):Turn P w K tg (Itt K a) [it] it (fun i h=>h.IsTupleIter it a i) where
 mem:=by simp
 obj:=fun i h st b hb=>by
  have e:b=it:=by simpa using hb
  subst e
  obtain ⟨o,e,c,d⟩:=st
  exact ⟨o,e,fun v z=>by rw [d] at z; cases z⟩
 keep:=fun i h h' st k=>st.at fun o e=>k it (by simp) o e
 item:=by
  intro X hP hw hK hc i pins s σ H E I hf st hg
  subst hP hw hK
  obtain ⟨xs,x,hq,hx⟩:=hg
  obtain ⟨its,rv,p,hz⟩:=I.tuple hq
  obtain ⟨u,hu,ru⟩:=rv.get hx
  obtain ⟨f0,f1,f2,f3,f4,f5⟩:=hf it (by simp)
  refine wpAny_pyNext_tuple_item st (show s.heap.IsTuple a its.toArray from p) (x:=u) (by simpa using hu) fun h' st' sb=>?_
  have I1:Inv X pins σ H { s with heap:=h' }:=I.turned (t':=s.toks) (fun b o hb e=>(sb.2 b hb).trans e) f0 f1 f3 f4 f5
  obtain ⟨o,e,c,d⟩:=id st'
  exact ⟨u,rfl,kH (s:={ s with heap:=h' }) e c d (by decide) ⟨x,H,I1,ru,⟨rfl,fun ys hy=>by rw [I.tuple_inj hy hq]; exact hx⟩,st',fun b hb=>(hf b hb).1⟩⟩
 done:=by
  intro X hP hw hK hc i pins s σ H E I hf st hg
  subst hP hw hK
  obtain ⟨xs,hq,hx⟩:=hg
  obtain ⟨its,rv,p,hz⟩:=I.tuple hq
  obtain ⟨f0,f1,f2,f3,f4,f5⟩:=hf it (by simp)
  have hl:=rv.length
  exact wpAny_pyNext_tuple_end (I.ok.hd hc) st (show s.heap.IsTuple a its.toArray from p) (by simp; omega) fun h' eb=>⟨rfl,I.turned (t':=s.toks) (fun b o hb e=>eb b o hb e) f0 f1 f3 f4 f5⟩
 self:=fun _ _ _ _ _ st h=>wpAny_pyIter_tupleiter st h
theorem jL {P:Program} {w:World} {K:Frag} {tg:Expr} (it:Addr) (lo:Int) (n:Nat):Turn P w K tg (Itr lo n) [it] it (fun i h=>IsRangeIter h it (lo+(i:Nat)*1) ((n:Int)-(i:Nat)) 1) where
 mem:=by simp
 obj:=fun i h st b hb=>by
  have e:b=it:=by simpa using hb
  subst e
  exact ⟨_,st,fun v z=>by
   have z':Data.fields _=Data.cell v:=z
   cases z'⟩
 keep:=fun i h h' st k=>k it (by simp) _ st
 item:=by
  intro X hP hw hK hc i pins s σ H E I hf st hg
  subst hP hw hK
  obtain ⟨f0,f1,f2,f3,f4,f5⟩:=hf it (by simp)
  have W:=Walks.range (prog:=X.prog) (w:=X.w) (I.ok.hd hc) it lo 1 n
  refine W.item i s _ _ hg st fun v h' tk hv st' kk=>?_
  obtain ⟨t,rfl⟩:=hv
  have I1:Inv X pins σ H { s with heap:=h',toks:=tk }:=I.turned (fun b o hb e=>kk b o (by simpa using hb) e) f0 f1 f3 f4 f5
  refine ⟨_,rfl,kH (s:={ s with heap:=h',toks:=tk }) (n := "range_iterator") st' rfl rfl (by decide) ⟨.int (lo+i),H,I1,⟨t,?_⟩,⟨rfl,rfl⟩,st',fun b hb=>(hf b hb).1⟩⟩
  rw [Int.mul_one]
 done:=by
  intro X hP hw hK hc i pins s σ H E I hf st hg
  subst hP hw hK
  obtain ⟨f0,f1,f2,f3,f4,f5⟩:=hf it (by simp)
  exact wpAny_pyNext_range_end (I.ok.hd hc) st (by have:n<=i:=hg; omega) fun h' eb=>⟨rfl,I.turned (t':=s.toks) (fun b o hb e=>eb b o hb e) f0 f1 f3 f4 f5⟩
 self:=fun _ _ _ _ _ st h=>wpAny_pyIter_rangeiter st h
end L2
namespace L2
open PySem PySem.Spec PyProof.Rows
section
variable {X:Cx} {tg:Expr}
def zO (K:Frag) (tl:TE):TI:=fun σ H R=>tl σ H fun x H1=>∃ a,x=.ref a/\(∃ xs,SqT K H1 a xs)/\R (Itt K a) H1
theorem yu {l:Expr} {tl:TE} (hl:PE X l tl):PI X tg l (zO X.K tl):=by
 intro pins s σ H R I h
 refine thn (hl pins s σ H _ I h) fun v s1 zz18=>?_
 obtain ⟨x,H1,I1,r1,q1⟩:=zz18
 obtain ⟨a,e,⟨xs,hq⟩,q⟩:=q1
 subst e
 cases r1
 obtain ⟨its,rv,p,hz⟩:=I1.tuple hq
 refine wpAny_pyIter_tuple (show s1.heap.IsTuple a its.toArray from p) ?_
 refine ⟨s1.heap.objs.size,[s1.heap.objs.size],_,_,H1,rfl,I1.kept (t':=s1.toks) fun b o e=>Heap.get?_push_of_some _ e,bF a _,⟨_,Heap.get?_push_size _ rfl,rfl,rfl⟩,fun b hb=>?_,q⟩
 have e:b=s1.heap.objs.size:=by simpa using hb
 subst e
 exact I1.fpOk (Nat.le_refl _) (I1.hok.fresh (Nat.le_refl _))
theorem pA {pins:List (Addr×Obj)} {σ:St} {H:Hp} {s:Shared} {R:It->Hp->Prop} {E:Value->Shared->Prop} {lo hi:Int} {t u v:Tok} {tk:Nat} (I:Inv X pins σ H s) (h1:-(2^62)<=lo) (h2:lo<2^62) (h3:-(2^62)<=hi) (h4:hi<2^62)
  (q:R (Itr lo (hi-lo).toNat) H):wpAny (model X.prog X.w) X.A (pyIter (.ref s.heap.objs.size)) (PIE X pins σ tg R) E { s with heap:=s.heap.push { cls:=.type "range",data:=.fields #[.int lo t,.int hi u,.int 1 v] },toks:=tk }:=by
 refine wpAny_pyIter_range (IsRange.new ..) (small_one h1 h2 h3 h4) ?_
 have I1:Inv X pins σ H { s with heap:=s.heap.push { cls:=.type "range",data:=.fields #[.int lo t,.int hi u,.int 1 v] },toks:=tk }:=I.kept fun b o e=>Heap.get?_push_of_some _ e
 refine ⟨(s.heap.push { cls:=.type "range",data:=.fields #[.int lo t,.int hi u,.int 1 v] }).objs.size,[(s.heap.push { cls:=.type "range",data:=.fields #[.int lo t,.int hi u,.int 1 v] }).objs.size],_,_,H,rfl,
  I1.kept (t':=tk) fun b o e=>Heap.get?_push_of_some _ e,jL _ lo (hi-lo).toNat,?_,fun b hb=>?_,q⟩
 ·have e1:lo+((0:Nat):Int)*1=lo:=by simp
  have e2:(((hi-lo).toNat:Nat):Int)-((0:Nat):Int)=Builtin.Range.rangeSize lo hi 1:=by rw [rangeSize_one]; split <;> omega
  show IsRangeIter _ _ (lo+((0:Nat):Int)*1) ((((hi-lo).toNat:Nat):Int)-((0:Nat):Int)) 1
  rw [e1,e2]
  exact Heap.get?_push_size _ rfl
 ·have e:b=(s.heap.push { cls:=.type "range",data:=.fields #[.int lo t,.int hi u,.int 1 v] }).objs.size:=by simpa using hb
  subst e
  exact I1.fpOk (Nat.le_refl _) (I1.hok.fresh (Nat.le_refl _))
def se (ta:TA):TI:=fun σ H R=>ta σ H fun vs H1=>∃ j:Int,vs = [.int j] /\ -(2^62)<=j/\j<2^62/\R (Itr 0 j.toNat) H1
theorem mH {a:Expr} {ta:TA} {p pos:Pos} (hg:Gl X "range") (hm:X.mg "range" = none) (ha:PA X [a] ta) (hs:starEach [a] X.env = [(false,eval a X.env)]:=by rfl):PI X tg (.Call (.Name "range" p) [a] [] pos) (se ta):=by
 intro pins s σ H R I h
 refine Call_ (N0 I hg hm boot_range (PyProof.Rows.callWith_type1 (thn (ha pos pins s σ H _ I h) fun us s1 zz19=>?_) hs rfl))
 obtain ⟨vs,H1,I1,r1,q1⟩:=zz19
 obtain ⟨j,e,q1,q2,q⟩:=q1
 subst e
 cases r1 with
 | cons r rr=>
  cases rr
  obtain ⟨t,rfl⟩:=r
  exact call_range_1 (pA I1 (by omega) (by omega) q1 q2 (by simpa using q))
def oP (wi:TI) (g:TG) (tb:TS):TS:=fun D σ H=>wi σ H fun J H1=>∃ W:Nat->Nat->St->Hp->Prop,(∃ m,W 0 m σ H1)/\∀ i m σ H,W i m σ H ->
 (J.stop i H/\D.nx σ H)\/(J.go i H/\∃ N:St->Hp->Prop,(∀ σ' H',N σ' H'->∃ m',m'<m/\W (i+1) m' σ' H')/\∀ x H',J.yld i H x H'->g x σ H' fun σ2 H2=>tb { D with nx:=N,ct:=N,bk:=D.nx } σ2 H2)
def Z9 (fp:List Addr) (h:Heap):List (Addr×Obj):=fp.filterMap fun b=>(h.get? b).map fun o=>(b,o)
theorem O9 {fp:List Addr} {h:Heap} {b:Addr} {o:Obj} (hb:b∈fp) (e:h.get? b=some o):(b,o)∈Z9 fp h:=List.mem_filterMap.mpr ⟨b,hb,by rw [e]; rfl⟩
theorem mQ {fp:List Addr} {h:Heap} {p:Addr×Obj} (hp:p∈Z9 fp h):p.1∈fp/\h.get? p.1=some p.2:=by
 obtain ⟨b,hb,e⟩:=List.mem_filterMap.mp hp
 cases q:h.get? b with
 | none=>rw [q] at e; cases e
 | some o=>
  rw [q] at e
  have e':(b,o)=p:=Option.some.inj e
  subst e'
  exact ⟨hb,q⟩
theorem Inv.pinned {pins:List (Addr×Obj)} {σ:St} {H:Hp} {s:Shared} {fp:List Addr} (I:Inv X pins σ H s) (hf:∀ b∈fp,D2 X pins H b) (ho:∀ b∈fp,∃ o,s.heap.get? b=some o/\∀ v,o.data≠.cell v):Inv X (pins++Z9 fp s.heap) σ H s:=
 I.pins_of fun p hp=>(List.mem_append.mp hp).elim (fun z=>I.pin p (List.mem_append_right _ z)) fun z=>by
  obtain ⟨hb,e⟩:=mQ z
  obtain ⟨f0,f1,f2,_⟩:=hf p.1 hb
  obtain ⟨o,e',d⟩:=ho p.1 hb
  rw [e] at e'; cases e'
  exact ⟨e,f0,f1,f2,d⟩
theorem Inv.unpinned {pins pl:List (Addr×Obj)} {σ:St} {H:Hp} {s:Shared} (I:Inv X (pins++pl) σ H s):Inv X pins σ H s:=I.pins_of fun p hp=>I.pin p (List.mem_append_right _ (List.mem_append_left _ hp))
theorem mE {iter:Expr} {body:List Stmt} {wi:TI} {g:TG} {tb:TS} {pos:Pos} (hp:PassesOwn (model X.prog X.w) X.A X.env X.xe) (hc:X.calm=true) (hi:PI X tg iter wi) (hg:PG X tg g) (hb:PSs X body tb)
  (hs:∀ x,foldedSetIterable iter X.env x=pure x:=by intro _; rfl):PS X (.For tg iter body [] pos) (oP wi g tb):=by
 intro pins s σ H D I h
 refine wpAny_For (thn (hi pins s σ H _ I h) fun v s1 h1=>thn h1 fun itv s2 h2=>?_) hs
 obtain ⟨it,fp,tn,J,H2,e,I2,T,st2,f2,W,⟨m0,w0⟩,turn⟩:=h2
 subst e
 -- what stays true of the iterator's objects through the loop
 have stat:∀ {H':Hp},(∀ b∈fp,H' b=none)->∀ b∈fp,D2 X pins H' b:=fun hn b hb=>⟨hn b hb,(f2 b hb).2⟩
 refine codeAny_forLoop_any (fun n s'=>∃ i σ' H',Inv X pins σ' H' s'/\tn i s'.heap/\(∀ b∈fp,H' b=none)/\W i n σ' H') ?_ m0 ⟨0,σ,H2,I2,st2,fun b hb=>(f2 b hb).1,w0⟩
 rintro n s3 ⟨i,σ3,H3,I3,st3,fr3,w3⟩
 rcases turn i n σ3 H3 w3 with ⟨stop,qn⟩ | ⟨go,N,hN,step⟩
 ·refine wpAny_passesOwn hp (thn (T.done X rfl rfl rfl hc i pins s3 σ3 H3 X.xe I3 (stat fr3) st3 stop) fun r s4 ⟨hr,I4⟩=>?_)
  subst hr
  exact wpAny_execs_nil ⟨σ3,H3,I4,qn⟩
 ·refine wpAny_passesOwn hp (thn (T.item X rfl rfl rfl hc i pins s3 σ3 H3 X.xe I3 (stat fr3) st3 go) fun r s4 ⟨u,hr,h4⟩=>?_)
  subst hr
  refine wpAny_passesOwn hp (thn h4 fun _ s5 zz22=>?_)
  obtain ⟨x,H5,I5,r5,y5,st5,fr5⟩:=zz22
  have I5':=I5.pinned (stat fr5) (T.obj _ _ st5)
  refine wpAny_passesOwn hp (thn (hg _ s5 σ3 H5 x u _ I5' r5 (step x H5 y5)) fun _ s6 zz23=>?_)
  obtain ⟨σ6,H6,I6,q6⟩:=zz23
  refine wpAny_passesOwn hp (thn (hb _ s6 σ6 H6 _ I6 q6) fun f s7 q7=>?_)
  have again:∀ {σ7:St} {H7:Hp},Inv X (pins++Z9 fp s5.heap) σ7 H7 s7->N σ7 H7->∃ m,m<n/\∃ i σ' H',Inv X pins σ' H' s7/\tn i s7.heap/\(∀ b∈fp,H' b=none)/\W i m σ' H':=fun {σ7 H7} I7 n7=>by
   obtain ⟨m',hm,w7⟩:=hN σ7 H7 n7
   refine ⟨m',hm,i+1,σ7,H7,I7.unpinned,T.keep _ _ _ st5 fun b hb o e=>(I7.pin (b,o) (List.mem_append_right _ (List.mem_append_right _ (O9 hb e)))).1,fun b hb=>?_,w7⟩
   obtain ⟨o,e,d⟩:=T.obj _ _ st5 b hb
   exact (I7.pin (b,o) (List.mem_append_right _ (List.mem_append_right _ (O9 hb e)))).2.1
  cases f with
  | next=>obtain ⟨σ7,H7,I7,n7⟩:=q7; exact again I7 n7
  | cont=>obtain ⟨σ7,H7,I7,n7⟩:=q7; exact again I7 n7
  | brk=>obtain ⟨σ7,H7,I7,q7⟩:=q7; exact ⟨σ7,H7,I7.unpinned,q7⟩
  | ret v=>obtain ⟨x7,σ7,H7,I7,r7,q7⟩:=q7; exact ⟨x7,σ7,H7,I7.unpinned,r7,q7⟩
end
end L2
namespace L2
open PySem PySem.Spec PyProof.Rows
abbrev R2:=V->V->Hp->VK->Prop
def OpR (X:Cx) (f:Value->Value->Sem Value) (r:R2):Prop:=
 ∀ (pins:List (Addr×Obj)) (s:Shared) (σ:St) (H:Hp) (x y:V) (v u:Value) (Q:VK),Inv X pins σ H s->RelV x v->RelV y u->r x y H Q ->
  wpAny (model X.prog X.w) X.A (f v u) (EP X pins σ Q) X.xe s
def UnR (X:Cx) (f:Value->Sem Value) (r:V->Hp->VK->Prop):Prop:=
 ∀ (pins:List (Addr×Obj)) (s:Shared) (σ:St) (H:Hp) (x:V) (v:Value) (Q:VK),Inv X pins σ H s->RelV x v->r x H Q ->
  wpAny (model X.prog X.w) X.A (f v) (EP X pins σ Q) X.xe s
def D7 (X:Cx) (f:Value) (r:List V->Hp->VK->Prop):Prop:=
 ∀ (pins:List (Addr×Obj)) (s:Shared) (σ:St) (H:Hp) (xs:List V) (us:List Value) (Q:VK),Inv X pins σ H s->Vals xs us->r xs H Q ->
  wpAny (model X.prog X.w) X.A (call f us) (EP X pins σ Q) X.xe s
def tOp (r:R2) (ta tb:TE):TE:=fun σ H Q=>ta σ H fun x H1=>tb σ H1 fun y H2=>r x y H2 Q
def tUn (r:V->Hp->VK->Prop) (ta:TE):TE:=fun σ H Q=>ta σ H fun x H1=>r x H1 Q
def rI (C:Int->Int->Prop) (g:Int->Int->V):R2:=fun x y H Q=>∃ i j,x=.int i/\y=.int j/\C i j/\Q (g i j) H
def rI0 (g:Int->Int->V):R2:=fun x y H Q=>∃ i j,x=.int i/\y=.int j/\Q (g i j) H
def rU (g:Int->V):V->Hp->VK->Prop:=fun x H Q=>∃ i,x=.int i/\Q (g i) H
section
variable {X:Cx} {a b c:Expr} {ta tb tc:TE} {pos:Pos}
theorem rh (ha:PE X a ta) (hb:PE X b tb) {pins:List (Addr×Obj)} {s:Shared} {σ:St} {H:Hp} {R:V->V->Hp->Prop} (I:Inv X pins σ H s)
  (h:ta σ H fun x H1=>tb σ H1 fun y H2=>R x y H2) {Q:Value->Shared->Prop} {f:Value->Value->Sem Value}
  (hf:∀ v u s2 x y H2,Inv X pins σ H2 s2->RelV x v->RelV y u->R x y H2->wpAny (model X.prog X.w) X.A (f v u) Q X.xe s2) :
  wpAny (model X.prog X.w) X.A (eval a X.env) (fun v s₁=>wpAny (model X.prog X.w) X.A (eval b X.env) (fun u s₂=>wpAny (model X.prog X.w) X.A (f v u) Q X.xe s₂) X.xe s₁) X.xe s:=by
 refine thn (ha pins s σ H _ I h) fun v s1 zz24=>?_
 obtain ⟨x,H1,I1,r1,q1⟩:=zz24
 refine thn (hb pins s1 σ H1 _ I1 q1) fun u s2 zz25=>?_
 obtain ⟨y,H2,I2,r2,q2⟩:=zz25
 exact hf v u s2 x y H2 I2 r1 r2 q2
theorem BZ {op:Operator} {r:R2} (ho:OpR X (binaryOp op) r) (ha:PE X a ta) (hb:PE X b tb):PE X (.BinOp a op b pos) (tOp r ta tb):=by
 intro pins s σ H Q I h
 exact wpAny_BinOp (rh ha hb I h fun v u s2 x y H2 I2 rx ry q=>ho pins s2 σ H2 x y v u Q I2 rx ry q)
theorem BY {op:UnaryOp} {r:V->Hp->VK->Prop} (ho:UnR X (unaryOp op) r) (ha:PE X a ta):PE X (.UnaryOp op a pos) (tUn r ta):=by
 intro pins s σ H Q I h
 exact UnaryOp_ (thn (ha pins s σ H _ I h) fun v s1 zz26=>by obtain ⟨x,H1,I1,r1,q1⟩:=zz26; exact ho pins s1 σ H1 x v Q I1 r1 q1)
theorem opI {f:Value->Value->Sem Value} {C:Int->Int->Prop} {g:Int->Int->Int}
  (rule:∀ (i j:Int) (t u:Tok) (s:Shared) (Q:Value->Shared->Prop) (E:Value->Shared->Prop),C i j->Q (.int (g i j) s.toks) { s with toks:=s.toks+1 }->wpAny (model X.prog X.w) X.A (f (.int i t) (.int j u)) Q E s) :
  OpR X f (rI C fun i j=>.int (g i j)):=by
 intro pins s σ H x y v u Q I rx ry h
 obtain ⟨i,j,rfl,rfl,hc,q⟩:=h
 obtain ⟨t,rfl⟩:=rx
 obtain ⟨t',rfl⟩:=ry
 exact rule i j t t' s _ _ hc ⟨.int (g i j),H,I.tok _,⟨_,rfl⟩,q⟩
theorem yG {f:Value->Value->Sem Value} {g:Int->Int->Int}
  (rule:∀ (i j:Int) (t u:Tok) (s:Shared) (Q:Value->Shared->Prop) (E:Value->Shared->Prop),Q (.int (g i j) s.toks) { s with toks:=s.toks+1 }->wpAny (model X.prog X.w) X.A (f (.int i t) (.int j u)) Q E s) :
  OpR X f (rI0 fun i j=>.int (g i j)):=by
 intro pins s σ H x y v u Q I rx ry h
 obtain ⟨i,j,rfl,rfl,q⟩:=h
 obtain ⟨t,rfl⟩:=rx
 obtain ⟨t',rfl⟩:=ry
 exact rule i j t t' s _ _ ⟨.int (g i j),H,I.tok _,⟨_,rfl⟩,q⟩
theorem yH {f:Value->Value->Sem Value} {g:Int->Int->Bool}
  (rule:∀ (i j:Int) (t u:Tok) (s:Shared) (Q:Value->Shared->Prop) (E:Value->Shared->Prop),Q (.bool (g i j)) s->wpAny (model X.prog X.w) X.A (f (.int i t) (.int j u)) Q E s) :
  OpR X f (rI0 fun i j=>.bl (g i j)):=by
 intro pins s σ H x y v u Q I rx ry h
 obtain ⟨i,j,rfl,rfl,q⟩:=h
 obtain ⟨t,rfl⟩:=rx
 obtain ⟨t',rfl⟩:=ry
 exact rule i j t t' s _ _ ⟨.bl (g i j),H,I,rfl,q⟩
def B8 (i j:Int):Prop:=0<j/\j<1073741824
def bC (i j:Int):Prop:=0<=j/\j<=1000000/\i.natAbs<2^64
def CMul (i j:Int):Prop:=(-(2^64)<i/\i<2^64)\/(-(2^64)<j/\j<2^64)
theorem CMul.ok {i j:Int} (h:CMul i j):IntMulOk i j:=by
 rcases h with ⟨h1,h2⟩ | ⟨h1,h2⟩
 ·exact .of_left (intBits_le_64 h1 h2)
 ·exact .of_right (intBits_le_64 h1 h2)
theorem n4:OpR X (binaryOp .Add) (rI0 fun i j=>.int (i+j)):=yG fun _ _ _ _ _ _ _ q=>add_int q
theorem U4:OpR X (binaryOp .Sub) (rI0 fun i j=>.int (i-j)):=yG fun _ _ _ _ _ _ _ q=>sub_int q
theorem L0:OpR X (binaryOp .FloorDiv) (rI B8 fun i j=>.int (i/j)):=opI fun i j _ _ _ _ _ hc q=>by
 have h1:(0:Int)<j:=hc.1
 have h2:j<1073741824:=hc.2
 exact floordiv_int (by omega) (by rw [Int.fdiv_eq_ediv_of_nonneg i (by omega)]; exact q) (.inl (PyProof.noPylong_small (by omega)))
theorem t7:OpR X (binaryOp .Mod) (rI (fun _ j=>0<j) fun i j=>.int (i%j)):=opI fun i j _ _ _ _ _ hc q=>by
 have h1:(0:Int)<j:=hc
 exact mod_int' (by omega) (by rw [Int.fmod_eq_emod_of_nonneg i (by omega)]; exact q)
theorem yE:OpR X (binaryOp .Pow) (rI bC fun i j=>.int (i^j.toNat)):=opI fun _ _ _ _ _ _ _ hc q=>pow_int_small hc.1 hc.2.1 hc.2.2 q
theorem unI {f:Value->Sem Value} {g:Int->Int}
  (rule:∀ (i:Int) (t:Tok) (s:Shared) (Q:Value->Shared->Prop) (E:Value->Shared->Prop),Q (.int (g i) s.toks) { s with toks:=s.toks+1 }->wpAny (model X.prog X.w) X.A (f (.int i t)) Q E s) :
  UnR X f (rU fun i=>.int (g i)):=by
 intro pins s σ H x v Q I rx h
 obtain ⟨i,rfl,q⟩:=h
 obtain ⟨t,rfl⟩:=rx
 exact rule i t s _ _ ⟨.int (g i),H,I.tok _,⟨_,rfl⟩,q⟩
theorem lw:UnR X (unaryOp .USub) (rU fun i=>.int (-i)):=unI fun _ _ _ _ _ q=>neg_int q
end
def fE:V->V->Bool
 | .non,.non=>true | .non,.int _=>true | .int _,.non=>true | .non,.bl _=>true | .bl _,.non=>true | .non,.str _=>true | .str _,.non=>true
 | .int _,.int _=>true | .bl _,.bl _=>true | .str _,.str _=>true | .byt _,.byt _=>true
 | .int _,.str _=>true | .str _,.int _=>true | .bl _,.str _=>true | .str _,.bl _=>true
 | _,_=>false
def rEq:R2:=fun x y H Q=>fE x y=true/\Q (.bl (decide (x=y))) H
def rNe:R2:=fun x y H Q=>fE x y=true/\Q (.bl (!decide (x=y))) H
theorem jx {i j:Int}:decide (V.int i=V.int j)=(i == j):=by
 rw [Bool.eq_iff_iff]
 simp
theorem nQ {i j:Bool}:decide (V.bl i=V.bl j)=(i == j):=by
 rw [Bool.eq_iff_iff]
 simp
theorem jw {i j:Str}:decide (V.str i=V.str j)=(i == j):=by
 rw [Bool.eq_iff_iff]
 simp
theorem jy {i j:Array UInt8}:decide (V.byt i=V.byt j)=(i.toList == j.toList):=by
 rw [Bool.eq_iff_iff]
 cases i
 cases j
 simp
section
variable {X:Cx} {a b c:Expr} {ta tb tc:TE} {pos:Pos}
theorem g9 {pins:List (Addr×Obj)} {σ:St} {H:Hp} {s:Shared} {Q:VK} {k k':Bool} (I:Inv X pins σ H s) (q:Q (.bl k) H) (e:k=k'):EP X pins σ Q (.bool k') s:=by
 subst e
 exact ⟨.bl k,H,I,rfl,q⟩
theorem O8:OpR X (compareOp .Eq) rEq:=by
 intro pins s σ H x y v u Q I rx ry h
 obtain ⟨hs,q⟩:=h
 cases x with
 | non=>
  cases rx
  cases y with
  | non=>cases ry; exact PySem.EqNone.eq_none_none (g9 I q (by simp))
  | bl j=>cases ry; exact PySem.EqNone.eq_none_bool (g9 I q (by simp))
  | int j=>obtain ⟨t',rfl⟩:=ry; exact PySem.EqNone.eq_none_int (g9 I q (by simp))
  | str j=>obtain ⟨t',rfl⟩:=ry; exact PySem.EqNone.eq_none_str (g9 I q (by simp))
  | _=>exact absurd (show false=true from hs) Bool.false_ne_true
 | bl i=>
  cases rx
  cases y with
  | non=>cases ry; exact PySem.EqNone.eq_bool_none (g9 I q (by simp))
  | bl j=>cases ry; exact eq_bool (g9 I q nQ)
  | str j=>obtain ⟨t',rfl⟩:=ry; exact PySem.EqMixed.eq_bool_str (g9 I q (by simp))
  | _=>exact absurd (show false=true from hs) Bool.false_ne_true
 | int i=>
  obtain ⟨t,rfl⟩:=rx
  cases y with
  | non=>cases ry; exact PySem.EqNone.eq_int_none (g9 I q (by simp))
  | int j=>obtain ⟨t',rfl⟩:=ry; exact eq_int (g9 I q jx)
  | str j=>obtain ⟨t',rfl⟩:=ry; exact PySem.EqMixed.eq_int_str (g9 I q (by simp))
  | _=>exact absurd (show false=true from hs) Bool.false_ne_true
 | str i=>
  obtain ⟨t,rfl⟩:=rx
  cases y with
  | non=>cases ry; exact PySem.EqNone.eq_str_none (g9 I q (by simp))
  | bl j=>cases ry; exact PySem.EqMixed.eq_str_bool (g9 I q (by simp))
  | int j=>obtain ⟨t',rfl⟩:=ry; exact PySem.EqMixed.eq_str_int (g9 I q (by simp))
  | str j=>obtain ⟨t',rfl⟩:=ry; exact eq_str (g9 I q jw)
  | _=>exact absurd (show false=true from hs) Bool.false_ne_true
 | byt i=>
  obtain ⟨t,rfl⟩:=rx
  cases y with
  | byt j=>obtain ⟨t',rfl⟩:=ry; exact PySem.W.eq_bytes (g9 I q jy)
  | _=>exact absurd (show false=true from hs) Bool.false_ne_true
 | _=>cases y <;> exact absurd (show false=true from hs) Bool.false_ne_true
theorem ki:OpR X (compareOp .NotEq) rNe:=by
 intro pins s σ H x y v u Q I rx ry h
 obtain ⟨hs,q⟩:=h
 cases x with
 | non=>
  cases rx
  cases y with
  | non=>cases ry; exact PySem.EqNone.ne_none_none (g9 I q (by simp))
  | bl j=>cases ry; exact PySem.EqNone.ne_none_bool (g9 I q (by simp))
  | int j=>obtain ⟨t',rfl⟩:=ry; exact PySem.EqNone.ne_none_int (g9 I q (by simp))
  | str j=>obtain ⟨t',rfl⟩:=ry; exact PySem.EqNone.ne_none_str (g9 I q (by simp))
  | _=>exact absurd (show false=true from hs) Bool.false_ne_true
 | bl i=>
  cases rx
  cases y with
  | non=>cases ry; exact PySem.EqNone.ne_bool_none (g9 I q (by simp))
  | bl j=>cases ry; exact ne_bool (g9 I q (congrArg not nQ))
  | str j=>obtain ⟨t',rfl⟩:=ry; exact PySem.EqMixed.ne_bool_str (g9 I q (by simp))
  | _=>exact absurd (show false=true from hs) Bool.false_ne_true
 | int i=>
  obtain ⟨t,rfl⟩:=rx
  cases y with
  | non=>cases ry; exact PySem.EqNone.ne_int_none (g9 I q (by simp))
  | int j=>obtain ⟨t',rfl⟩:=ry; exact ne_int (g9 I q (congrArg not jx))
  | str j=>obtain ⟨t',rfl⟩:=ry; exact PySem.EqMixed.ne_int_str (g9 I q (by simp))
  | _=>exact absurd (show false=true from hs) Bool.false_ne_true
 | str i=>
  obtain ⟨t,rfl⟩:=rx
  cases y with
  | non=>cases ry; exact PySem.EqNone.ne_str_none (g9 I q (by simp))
  | bl j=>cases ry; exact PySem.EqMixed.ne_str_bool (g9 I q (by simp))
  | int j=>obtain ⟨t',rfl⟩:=ry; exact PySem.EqMixed.ne_str_int (g9 I q (by simp))
  | str j=>obtain ⟨t',rfl⟩:=ry; exact ne_str (g9 I q (congrArg not jw))
  | _=>exact absurd (show false=true from hs) Bool.false_ne_true
 | byt i=>
  obtain ⟨t,rfl⟩:=rx
  cases y with
  | byt j=>obtain ⟨t',rfl⟩:=ry; exact PySem.W.ne_bytes (g9 I q (congrArg not jy))
  | _=>exact absurd (show false=true from hs) Bool.false_ne_true
 | _=>cases y <;> exact absurd (show false=true from hs) Bool.false_ne_true
theorem bR:OpR X (compareOp .Lt) (rI0 fun i j=>.bl (decide (i<j))):=yH fun _ _ _ _ _ _ _ q=>lt_int q
theorem eV:OpR X (compareOp .Gt) (rI0 fun i j=>.bl (decide (j<i))):=yH fun _ _ _ _ _ _ _ q=>gt_int q
theorem mM:OpR X (compareOp .Is) (fun x y H Q=>y=.non/\Q (.bl (decide (x=.non))) H):=by
 intro pins s σ H x y v u Q I rx ry h
 obtain ⟨rfl,q⟩:=h
 cases ry
 refine is_none_gen (g9 I q ?_)
 cases x <;> first
  | (cases rx; rfl)
  | (obtain ⟨t,rfl⟩:=rx; rfl)
theorem uD:OpR X (compareOp .IsNot) (fun x y H Q=>y=.non/\Q (.bl (!decide (x=.non))) H):=by
 intro pins s σ H x y v u Q I rx ry h
 obtain ⟨rfl,q⟩:=h
 cases ry
 refine isnot_none_gen (g9 I q ?_)
 cases x <;> first
  | (cases rx; rfl)
  | (obtain ⟨t,rfl⟩:=rx; rfl)
theorem mS (b:Expr) {op:CmpOp} (h:op≠.In:=by decide) (h2:op≠.NotIn:=by decide):behindInMarks op b=false:=by
 have e1:(op == CmpOp.In)=false:=by cases op <;> first | rfl | exact absurd rfl h
 have e2:(op == CmpOp.NotIn)=false:=by cases op <;> first | rfl | exact absurd rfl h2
 cases b <;> simp [behindInMarks,e1,e2]
theorem uu {op:CmpOp} {r:R2} (ho:OpR X (compareOp op) r) (ha:PE X a ta) (hb:PE X b tb) (hm:behindInMarks op b=false):PE X (.Compare a [op] [b] pos) (tOp r ta tb):=by
 intro pins s σ H Q I h
 exact wpAny_Compare1 (rh ha hb I h fun v u s2 x y H2 I2 rx ry q=>ho pins s2 σ H2 x y v u Q I2 rx ry q) hm
def rD (t:TE):TT:=fun σ H Q=>t σ H fun x H'=>∃ k,x=.bl k/\Q k H'
theorem ui {op:CmpOp} {r:R2} (ho:OpR X (compareOp op) r) (ha:PE X a ta) (hb:PE X b tb) (hm:behindInMarks op b=false):PT X (.Compare a [op] [b] pos) (rD (tOp r ta tb)):=by
 intro pins s σ H Q I h
 refine wpAny_isTrue_Compare1 (thn (ha pins s σ H _ I h) fun v s1 ⟨x,H1,I1,r1,q1⟩=>thn (hb pins s1 σ H1 _ I1 q1) fun u s2 ⟨y,H2,I2,r2,q2⟩=>
  thn (ho pins s2 σ H2 x y v u _ I2 r1 r2 q2) fun c s3 ⟨z,H3,I3,r3,k,e,q3⟩=>?_) hm
 subst e
 cases r3
 exact wpAny_truthy_bool ⟨H3,I3,q3⟩
theorem cq:(sizeLine:Nat)<2^63:=by rw [sizeLine_eq]; decide
theorem vals1 {x:V} {us:List Value} (r:Vals [x] us):∃ u,us = [u]/\RelV x u:=by
 cases r with
 | cons r1 r2=>cases r2; exact ⟨_,rfl,r1⟩
theorem vals2 {x y:V} {us:List Value} (r:Vals [x,y] us):∃ u w',us = [u,w']/\RelV x u/\RelV y w':=by
 cases r with
 | cons r1 r2=>
  cases r2 with
  | cons r3 r4=>cases r4; exact ⟨_,_,rfl,r1,r3⟩
theorem S7 (hc:X.calm=true):D7 X (.builtin "max") (fun xs H Q=>∃ i j,xs = [.int i,.int j]/\Q (.int (if j>i then j else i)) H):=by
 intro pins s σ H xs us Q I r h
 obtain ⟨i,j,rfl,q⟩:=h
 obtain ⟨u,w',rfl,⟨t,rfl⟩,⟨t',rfl⟩⟩:=vals2 r
 refine max_two_ints (I.ok.hd hc) fun h' tk k=>⟨_,H,I.kept k,?_,q⟩
 by_cases hj:j>i
 ·rw [if_pos hj,if_pos hj]; exact ⟨_,rfl⟩
 ·rw [if_neg hj,if_neg hj]; exact ⟨_,rfl⟩
end
end L2
namespace L2
open PySem PySem.Spec PyProof.Rows
structure ObjM (h:Heap) (x dx C:Addr) (mA:Str->Option Value):Prop where
 obj:h.get? x=some (PySem.W.instObj C dx)
 ns:h.Ns1 dx mA
 ne:dx≠x
theorem nh {h:Heap} {dx:Addr} {mA:Str->Option Value} (n:h.Ns1 dx mA):∃ od,h.get? dx=some od/\∀ name,PySem.W.lookIn name od=some (mA name):=by
 obtain ⟨o,es,ep,ho,hd,hk,_,hm⟩:=n
 refine ⟨o,ho,fun name=>?_⟩
 have e:=hm name
 unfold nsFind findBy at e
 rw [<- Array.find?_toList] at e
 unfold PySem.W.lookIn
 rw [hd]
 dsimp only
 split
 ·rename_i y q
  rw [q] at e
  exact congrArg some e
 ·rename_i q
  rw [q] at e
  have a:es.toList.any (·.refKey)=false:=by
   rw [List.any_eq_false]
   intro y hy
   obtain ⟨z,t,hkey⟩:=hk y (Array.mem_toList_iff.mp hy)
   simp [DictEntry.refKey,hkey]
  have a':¬ es.toList.any (·.refKey)=true:=by rw [a]; exact Bool.false_ne_true
  rw [if_neg a']
  exact congrArg some e
theorem ObjM.look {h:Heap} {x dx C:Addr} {mA:Str->Option Value} (I:ObjM h x dx C mA):∃ od,PySem.W.InstAt h x (PySem.W.instObj C dx) C (some od)/\∀ name,PySem.W.lookIn name od=some (mA name):=
 let ⟨od,ho,hl⟩:=nh I.ns
 ⟨od,⟨I.obj,rfl,rfl,ho⟩,hl⟩
section
variable {prog:Program} {w:World} {A:Around} {E:Value->Shared->Prop} {s:Shared} {K:Frag} {x dx C f:Addr} {mA:Str->Option Value} {name:Str} {v:Value}
end
section
variable {P:Program} {w:World} {H H':Hp} {h h':Heap} {a C dx:Addr} {fs fs':List (Str×V)}
theorem vw (hok:HOk P w H h) (e:H a=some (.ins C dx fs)):∃ mA,ObjM h a dx C mA/\(∀ f,RelO (fs.lookup f) (mA f))/\PySem.Within mA (fs.map (·.1))/\fs.length<=1000/\H dx=some (.own a):=by
 obtain ⟨d,z,ne,ob,mA,n,r,q⟩:=(show ObjOk P w H h a (.ins C dx fs) from hok a _ e)
 exact ⟨mA,⟨ob,n,ne⟩,r,q,z,d⟩
end
structure Cls (K:Frag) (C:Addr):Prop where
 pg:PySem.W.plainGet K C Str.empty=true
 hd:PySem.W.hasDictIn K C=true
 po:PySem.W.plainOver K C=true
 sa:PySem.W.findIn K (.ref C) "__setattr__" = some (some (.builtin "object.__setattr__"))
theorem Cls.get {K:Frag} {C:Addr} (c:Cls K C) (f:Str):PySem.W.plainGet K C f=true:=c.pg
section
variable {X:Cx} {pins:List (Addr×Obj)} {σ:St} {H:Hp} {s:Shared} {a C dx:Addr} {fs:List (Str×V)} {f:Str} {v:V} {A:Around} {E:Value->Shared->Prop}
end
section
variable {X:Cx} {o e value:Expr} {f:Str} {pos pos' tpos:Pos} {ta tv:TE}
end
section
variable {X:Cx} {pins:List (Addr×Obj)} {σ:St} {H:Hp} {s:Shared} {A:Around} {E:Value->Shared->Prop} {Q:Value->Shared->Prop} {c:Value} {b:Bool}
inductive L9 (K:Frag) (H:Hp):V->Value->Prop where
 | non:L9 K H .non (.type "NoneType")
 | bl (x:Bool):L9 K H (.bl x) (.type "bool")
 | int (i:Int):L9 K H (.int i) (.type "int")
 | str (x:Str):L9 K H (.str x) (.type "str")
 | flt (x:UInt64):L9 K H (.flt x) (.type "float")
 | lst {a:Addr} {xs:List V} (e:H a=some (.lst xs)):L9 K H (.ref a) (.type "list")
 | frz {a:Addr} {o:Obj} {xs:List V} (e:H a=some (.frz o (.lst xs))):L9 K H (.ref a) (.type "list")
 | tup {a:Addr} {xs:List V} (e:H a=some (.tup xs)):L9 K H (.ref a) (.type "tuple")
 | dK {a:Addr} {kvs:List (Key×V)} (e:H a=some (.dK kvs)):L9 K H (.ref a) (.type "dict")
 | dT {a:Addr} {kvs:List (List Key×V)} (e:H a=some (.dT kvs)):L9 K H (.ref a) (.type "dict")
 | ins {a C dx:Addr} {fs:List (Str×V)} (e:H a=some (.ins C dx fs)) (cl:Cls K C) (ha:PySem.W.findIn K (.ref C) "__class__" = some (some (.builtin "object.__class__")))
   (hn:PySem.W.specialIn K (.builtin "object.__class__") "__get__" = some (some (.builtin "getset_descriptor.__get__"))) (htk:PySem.W.takesIn K (.builtin "object.__class__")=some true)
   (hm:PySem.W.mroIn K C (.type "object")=some true):L9 K H (.ref a) (.ref C)
theorem nz {x:V} {u t:Value} (I:Inv X pins σ H s) (rx:RelV x u) (ty:L9 X.K H x t) (e:PySem.W.kitOne X.K t c=some b) (h:∀ tk,Q (.bool b) { s with toks:=tk }) :
  wpAny (model X.prog X.w) A (call (.builtin "isinstance") [u,c]) Q E s:=by
 cases ty with
 | non=>cases (show u=Value.none from rx); exact PySem.W.kia_one PySem.W.kitx_none I.kIn True.intro e (fun z=>nomatch z) h
 | bl y=>cases (show u=Value.bool y from rx); exact PySem.W.kia_one PySem.W.kitx_bool I.kIn True.intro e (fun z=>nomatch z) h
 | int i=>obtain ⟨t,q⟩:=(show ∃ t,u=Value.int i t from rx); cases q; exact PySem.W.kia_one PySem.W.kitx_int I.kIn True.intro e (fun z=>nomatch z) h
 | str y=>obtain ⟨t,q⟩:=(show ∃ t,u=Value.str y t from rx); cases q; exact PySem.W.kia_one PySem.W.kitx_str I.kIn True.intro e (fun z=>nomatch z) h
 | flt y=>obtain ⟨t,q⟩:=(show ∃ t,u=Value.float y t from rx); cases q; exact PySem.W.kia_one PySem.W.kitx_float I.kIn True.intro e (fun z=>nomatch z) h
 | @lst a xs ea=>
  cases (show u=Value.ref a from rx)
  obtain ⟨_,_,n,_,h1⟩:=(show ObjOk X.prog X.w H s.heap a (.lst xs) from I.hok a _ ea)
  exact PySem.W.kia_one PySem.W.kitx_list I.kIn ⟨_,h1,rfl⟩ e (fun z=>nomatch z) h
 | @frz a ob xs ea=>
  cases (show u=Value.ref a from rx)
  obtain ⟨_,_,_,n,_,h1⟩:=(show ObjOk X.prog X.w H s.heap a (.frz ob (.lst xs)) from I.hok a _ ea)
  exact PySem.W.kia_one PySem.W.kitx_list I.kIn ⟨_,h1,rfl⟩ e (fun z=>nomatch z) h
 | @tup a xs ea=>
  cases (show u=Value.ref a from rx)
  obtain ⟨_,_,_,p⟩:=(show ObjOk X.prog X.w H s.heap a (.tup xs) from I.hok a _ ea)
  obtain ⟨o,h1,h2,_⟩:=p
  exact PySem.W.kia_one PySem.W.kitx_tuple I.kIn ⟨o,h1,h2⟩ e (fun z=>nomatch z) h
 | @dK a kvs ea=>
  cases (show u=Value.ref a from rx)
  obtain ⟨_,_,vs,_,p⟩:=(show ObjOk X.prog X.w H s.heap a (.dK kvs) from I.hok a _ ea)
  obtain ⟨o,es,ep,h1,h2,_⟩:=p
  exact PySem.W.kia_one PySem.W.kitx_dict I.kIn ⟨o,h1,h2.1⟩ e (fun z=>nomatch z) h
 | @dT a kvs ea=>
  cases (show u=Value.ref a from rx)
  obtain ⟨_,_,xs,_,o,es,ep,h1,h2,_⟩:=(show ObjOk X.prog X.w H s.heap a (.dT kvs) from I.hok a _ ea)
  exact PySem.W.kia_one PySem.W.kitx_dict I.kIn ⟨o,h1,h2.1⟩ e (fun z=>nomatch z) h
 | @ins a C dx fs ea cl ha hn htk hm=>
  cases (show u=Value.ref a from rx)
  obtain ⟨mA,O,_⟩:=vw I.hok ea
  obtain ⟨od,J,_⟩:=O.look
  exact PySem.W.kia_one (PySem.W.kitx_own (cl.get _) cl.hd ha hn htk hm) I.kIn J e (fun z=>nomatch z) h
end
end L2
namespace L2
open PySem PySem.Spec PyProof.Rows
structure Room (k:Nat) (A:Around):Prop where
 hd:A.handled=none
 dp:A.depth+3*k+5<recursionLimit
 un:A.units+16*k+200<cLine
theorem Room.mono {j k:Nat} {A:Around} (r:Room k A) (h:j<=k):Room j A:=⟨r.hd,by have:=r.dp; omega,by have:=r.un; omega⟩
theorem Room.deeper {k:Nat} {A:Around} (r:Room (k+1) A) (env:Env):Room k (A.deeper env):=
 ⟨r.hd,by have:=r.dp; show A.depth+1+3*k+5<_; omega,by have:=r.un; show A.units+3+16*k+200<_; omega⟩
theorem Room.depth {k:Nat} {A:Around} (r:Room k A):A.depth<recursionLimit:=by have:=r.dp; omega
theorem Room.units {k:Nat} {A:Around} (r:Room k A):A.units+64<cLine:=by have:=r.un; omega
def tNil:TA:=fun _ H Q=>Q [] H
def jP (ta:TE) (tr:TA):TA:=fun σ H Q=>ta σ H fun x H1=>tr σ H1 fun xs H2=>Q (x::xs) H2
section
variable {X:Cx} {e:Expr} {es:List Expr} {te:TE} {t:TA} {pos:Pos}
theorem pa_nil:PA X [] tNil:=fun _ _ _ _ H Q I h=>Calls.spliced_nil ⟨[],H,I,.nil,h⟩
theorem cZ (ha:PE X e te) (hr:PA X es t) (hs:starEach (e::es) X.env=(false,eval e X.env)::starEach es X.env:=by rfl):PA X (e::es) (jP te t):=by
 intro pos pins s σ H Q I h
 rw [hs]
 show wpAny _ _ (spliced ((false,eval e X.env)::backTo pos (starEach es X.env))) _ _ s
 refine Calls.spliced_cons (thn (ha pins s σ H _ I h) fun u s1 zz30=>?_)
 obtain ⟨x,H1,I1,r1,q1⟩:=zz30
 exact thn (hr pos pins s1 σ H1 _ I1 q1) fun us s2 zz31=>by obtain ⟨xs,H2,I2,r2,q2⟩:=zz31; exact ⟨x::xs,H2,I2,.cons r1 r2,q2⟩
def wK (t:TA):TE:=fun σ H Q=>t σ H fun xs H1=>xs.length<=sizeLine/\∀ p,H1 p=none->Q (.ref p) (upd H1 p (.tup xs))
def wN (t:TA):TE:=fun σ H Q=>t σ H fun xs H1=>xs.length<=sizeLine/\∀ p,H1 p=none->Q (.ref p) (upd H1 p (.lst xs))
theorem yx {x1} (h:PA X es t):PE X (.Tuple es x1 pos) (wK t):=by
 intro pins s σ H Q I hq
 refine wpAny_Tuple_spliced (thn (h pos pins s σ H _ I hq) fun us s1 ⟨xs,H1,I1,r,z,q⟩=>⟨by rw [<- r.length]; exact z,?_⟩)
 have hf:H1 s1.heap.objs.size=none:=I1.hok.fresh (Nat.le_refl _)
 refine ⟨.ref s1.heap.objs.size,upd H1 s1.heap.objs.size (.tup xs),I1.laid (t':=s1.toks) (fun b u e=>Heap.get?_push_of_some _ e) (Nat.le_refl _) ?_,rfl,q _ hf⟩
 exact ⟨z,us,r,⟨_,Heap.get?_push_size _ rfl,rfl,_,rfl⟩⟩
theorem yA (h:PA X es t):PE X (.List es pos) (wN t):=by
 intro pins s σ H Q I hq
 refine wpAny_List_spliced (thn (h pos pins s σ H _ I hq) fun us s1 ⟨xs,H1,I1,r,z,q⟩=>⟨by rw [<- r.length]; exact z,?_⟩)
 have hf:H1 s1.heap.objs.size=none:=I1.hok.fresh (Nat.le_refl _)
 refine ⟨.ref s1.heap.objs.size,upd H1 s1.heap.objs.size (.lst xs),I1.laid (t':=s1.toks) (fun b u e=>Heap.get?_push_of_some _ e) (Nat.le_refl _) ?_,rfl,q _ hf⟩
 exact ⟨z,us,0,r,Heap.get?_push_size _ rfl⟩
end
abbrev Sp:=List V->Hp->VK->XK->Prop
abbrev CXT:=List Env->Hp->Shared->XK->Value->Shared->Prop
structure kY (P:Program) (w:World) (K:Frag) (mg:Str->Option Value) (base:Heap) (A:Around) (outer:List Env) (s:Shared) (H:Hp):Prop where
 frames:A.frames=some outer
 mod:Mod K mg base
 bs:∀ b o,base.get? b=some o->s.heap.get? b=some o/\H b=none
 bsz:base.objs.size<=s.heap.objs.size
 funs:s.heap.FunFrames base outer
 frf:∀ b∈frs outer,H b=none
 hok:HOk P w H s.heap
 bare:AllBare s.gens
def CE (outer:List Env) (P:Program) (w:World) (H:Hp) (s:Shared) (Q:VK) (u:Value) (s':Shared):Prop:=
 ∃ v H',s'.os=s.os/\AllBare s'.gens/\Un (frs outer) [] H H' s.heap s'.heap/\HOk P w H' s'.heap/\RelV v u/\Q v H'
def CR (CX:CXT) (outer:List Env) (P:Program) (w:World) (H:Hp) (s:Shared) (Q:VK) (E:XK) (r:Result) (s':Shared):Prop:=
 match r with
 | .ok (.ret u)=>CE outer P w H s Q u s'
 | .ok _=>False
 | .error e=>CX outer H s E e s'
structure FnOk (P:Program) (w:World) (K:Frag) (mg:Str->Option Value) (base:Heap) (CX:CXT) (k:Nat) (f:Addr) (fd:FuncData) (ps:List Str) (sp:Sp):Prop where
 len:∀ vs H Q E,sp vs H Q E->vs.length=ps.length
 run:∀ (A:Around) (outer:List Env) (s:Shared) (H:Hp) (args:Args) (us:List Value) (vs:List V) (Q:VK) (E:XK),Room k A->kY P w K mg base A outer s H->BindsTo s fd args (ps.zip us)->Vals vs us->sp vs H Q E ->
  codeAny (model P w) A (.call (.ref f) args) (CR CX outer P w H s Q E) s
theorem FnOk.imp {P:Program} {w:World} {K:Frag} {mg:Str->Option Value} {base:Heap} {CX:CXT} {k:Nat} {f:Addr} {fd:FuncData} {ps:List Str} {sp sp':Sp} (F:FnOk P w K mg base CX k f fd ps sp)
  (h:∀ vs H Q E,sp' vs H Q E->sp vs H Q E):FnOk P w K mg base CX k f fd ps sp':=
 ⟨fun vs H Q E q=>F.len vs H Q E (h _ _ _ _ q),fun A outer s H args us vs Q E hr he hb hv hs=>F.run A outer s H args us vs Q E hr he hb hv (h _ _ _ _ hs)⟩
section
variable {X:Cx} {pins:List (Addr×Obj)} {σ:St} {H:Hp} {s s':Shared}
theorem Inv.env0 (I:Inv X pins σ H s):kY X.prog X.w X.K X.mg X.base X.A X.stack s H:=
 ⟨I.ok.frames,I.ok.mod,I.bs,Nat.le_trans I.ok.bsz I.sz,I.stack,I.stkFree,I.hok,I.bare⟩
theorem Inv.after {Q:VK} {u:Value} (I:Inv X pins σ H s) (h:CE X.stack X.prog X.w H s Q u s'):EP X pins σ Q u s':=by
 obtain ⟨v,H',os,bare,un,hok,r,q⟩:=h
 obtain ⟨hh,g,d,t,os'⟩:=s'
 obtain rfl:os'=s.os:=os
 exact ⟨v,H',I.call (h':=hh) (g':=g) (d':=d) (t':=t) (ch:=[]) un hok bare (fun b z=>absurd z (by simp)),r,q⟩
end
def eQ (sp:Sp) (dvs:List V) (E:XK) (t:TA):TE:=fun σ H Q=>t σ H fun vs H1=>sp (vs++dvs) H1 Q E
def Binds (K:Frag) (fd:FuncData) (ps:List Str) (ds:List Value):Prop:=
 ∀ (s:Shared) (us:List Value),K.In s.heap->(us++ds).length=ps.length->BindsTo s fd ⟨us,[]⟩ (ps.zip (us++ds))
theorem Binds.all {K:Frag} {fd:FuncData} {ps:List Str} (h:∀ us:List Value,us.length=ps.length->bindArgs fd ⟨us,[]⟩=pure (ps.zip us)):Binds K fd ps []:=fun s us _ hl=>by
 rw [List.append_nil] at hl ⊢
 exact .of_eq (h us hl)
def iq (CX:CXT) (X:Cx) (E:XK):Prop:=∀ (pins:List (Addr×Obj)) (σ:St) (H:Hp) (s:Shared) (e:Value) (s':Shared),Inv X pins σ H s->CX X.stack H s E e s'->X.xe e s'
section
variable {X:Cx} {CX:CXT} {k:Nat} {f C:Addr} {fd:FuncData} {ps:List Str} {sp:Sp} {dvs:List V} {ds:List Value} {E:XK} {x m:Str} {p pos apos:Pos} {e o:Expr} {es:List Expr} {ta:TE} {t:TA}
theorem xi {pins:List (Addr×Obj)} {σ:St} {H:Hp} {s:Shared} {Q:VK} {us:List Value} {vs:List V} (F:FnOk X.prog X.w X.K X.mg X.base CX k f fd ps sp) (hr:Room k X.A) (hb:Binds X.K fd ps ds) (hd:Vals dvs ds) (hx:iq CX X E)
  (I:Inv X pins σ H s) (r:Vals vs us) (h:sp (vs++dvs) H Q E):wpAny (model X.prog X.w) X.A (call (.ref f) us) (EP X pins σ Q) X.xe s:=by
 have r2:Vals (vs++dvs) (us++ds):=r.append hd
 have hl:(us++ds).length=ps.length:=by rw [<- r2.length]; exact F.len _ _ _ _ h
 refine wpAny_call (codeAny_mono (F.run X.A X.stack s H ⟨us,[]⟩ (us++ds) (vs++dvs) Q E hr I.env0 (hb s us I.kIn hl) r2 h) fun r s' hq=>?_)
 cases r with
 | error e=>exact hx pins σ H s e s' I hq
 | ok fl=>
  cases fl with
  | ret u=>exact I.after hq
  | next=>exact False.elim hq
  | brk=>exact False.elim hq
  | cont=>exact False.elim hq
theorem cY (F:FnOk X.prog X.w X.K X.mg X.base CX k f fd ps sp) (hr:Room k X.A) (hg:Gl X x) (hm:X.mg x=some (.ref f)) (hk:PySem.W.keepIn X.K (.ref f)=true) (hb:Binds X.K fd ps ds) (hd:Vals dvs ds) (hx:iq CX X E)
  (ha:PA X (e::es) t) (hdb:(x == ("__debug__" : Str))=false:=by decide) (he:starEach (e::es) X.env=(false,eval e X.env)::starEach es X.env:=by rfl) (hpl:(backTo pos (starEach es X.env)).any (·.1)=false:=by rfl) :
  PE X (.Call (.Name x p) (e::es) [] pos) (eQ sp dvs E t):=by
 intro pins s σ H Q I h
 refine wpAny_Call_Name_kw (vj I hg hm ?_ hdb)
 refine PySem.W.callWith_K (h₀:=X.base) I.ok.mod.kin hk (thn (ha pos pins s σ H _ I h) fun us s1 ⟨vs,H1,I1,r,q⟩=>⟨I1.kIn,?_⟩) he hpl
 exact xi F hr hb hd hx I1 r q
end
section
variable {X:Cx} {CX:CXT} {k:Nat} {f C:Addr} {fd:FuncData} {ps ks:List Str} {sp:Sp} {E:XK} {x m:Str} {p pos apos kpos:Pos} {e o:Expr} {es:List Expr} {kws:List Keyword} {te ta:TE} {t tk:TA} {nm:Option Str}
variable {g:List Value->List Value->List Value} {gV:List V->List V->List V}
end
structure e7 (N P:List Str) (sc:Scope):Prop where
 kind:sc.kind=.function
 co:sc.isCoroutine=false
 gen:sc.isGenerator=false
 nd:N.Nodup
 pre:N.take P.length=P
 par:∀ x∈P,sc.names.lookup x=some .local\/sc.names.lookup x=some .cell
 nofree:∀ y∈sc.names,y.2≠.free
theorem oj {kindOf:Str->Option NameKind} {x:Str}:∀ {binds:List (Str×Value)} {m:Str->Option Value},(∀ v,(x,v)∉binds)->bindL kindOf binds m x=m x:=by
 intro binds
 induction binds with
 | nil=>intro m _; rfl
 | cons p r ih=>
  intro m h
  unfold bindL
  rw [ih fun w hw=>h w (List.mem_cons_of_mem _ hw)]
  split
  ·have:x≠p.1:=by rintro rfl; exact h p.2 List.mem_cons_self
   simp [this]
  ·rfl
theorem on {kindOf:Str->Option NameKind} {x:Str}:∀ {binds:List (Str×Value)} {m:Str->Option Value},(∀ v,(x,v)∉binds)->bindC kindOf binds m x=m x:=by
 intro binds
 induction binds with
 | nil=>intro m _; rfl
 | cons p r ih=>
  intro m h
  unfold bindC
  rw [ih fun w hw=>h w (List.mem_cons_of_mem _ hw)]
  split
  ·rfl
  ·have:x≠p.1:=by rintro rfl; exact h p.2 List.mem_cons_self
   simp [this]
theorem om {kindOf:Str->Option NameKind} {x:Str} {v:Value}:∀ {P:List Str} {vs:List Value} {i:Nat} {m:Str->Option Value},P.Nodup->P[i]?=some x->vs[i]?=some v->kindOf x=some .local ->
  bindL kindOf (P.zip vs) m x=some v:=by
 intro P
 induction P with
 | nil=>intro vs i m _ h _ _; cases h
 | cons p P ih=>
  intro vs i m nd h1 h2 hk
  cases vs with
  | nil=>cases h2
  | cons w vs=>
   show bindL kindOf ((p,w)::P.zip vs) m x=_
   unfold bindL
   cases i with
   | zero=>
    cases h1
    cases h2
    rw [oj fun v hv=>(List.nodup_cons.mp nd).1 (List.of_mem_zip hv).1,if_pos hk]
    simp
   | succ i=>exact ih (List.nodup_cons.mp nd).2 h1 h2 hk
theorem oo {kindOf:Str->Option NameKind} {x:Str} {v:Value}:∀ {P:List Str} {vs:List Value} {i:Nat} {m:Str->Option Value},P.Nodup->P[i]?=some x->vs[i]?=some v->kindOf x≠some .local ->
  bindC kindOf (P.zip vs) m x=some v:=by
 intro P
 induction P with
 | nil=>intro vs i m _ h _ _; cases h
 | cons p P ih=>
  intro vs i m nd h1 h2 hk
  cases vs with
  | nil=>cases h2
  | cons w vs=>
   show bindC kindOf ((p,w)::P.zip vs) m x=_
   unfold bindC
   cases i with
   | zero=>
    cases h1
    cases h2
    rw [on fun v hv=>(List.nodup_cons.mp nd).1 (List.of_mem_zip hv).1,if_neg hk]
    simp
   | succ i=>exact ih (List.nodup_cons.mp nd).2 h1 h2 hk
def start (N:List Str) (vs:List V):St:=vs.map some++List.replicate (N.length-vs.length) none
def X7 (CX:CXT) (P:Program) (w:World) (K:Frag) (mg:Str->Option Value) (base:Heap) (N:List Str) (qual:Str) (scope:Scope) (f:Addr) (cd:Value) (A:Around) (outer:List Env) (s:Shared) (H:Hp) (E:XK):Cx where
 prog:=P
 w:=w
 K:=K
 mg:=mg
 base:=base
 A:=A.deeper (envOfC qual scope s.heap.objs.size f cd)
 N:=N
 s₀:=s
 H₀:=H
 env:=envOfC qual scope s.heap.objs.size f cd
 outer:=outer
 stack:=envOfC qual scope s.heap.objs.size f cd::outer
 ex:=[]
 calm:=true
 fn:=fun _=>true
 pn:=[]
 xe:=fun e s'=>wpAny (model P w) (A.deeper (envOfC qual scope s.heap.objs.size f cd)) (leaving (envOfC qual scope s.heap.objs.size f cd) e) (fun _ s''=>CX outer H s E e s'') (fun e' s''=>CX outer H s E e' s'') s'
theorem ic {sc:Scope} {n:Nat} {x:Str} (h:sc.names.lookup x=some .cell):∃ c,(cellsFrom n sc.names []).lookup x=some c:=by
 have q:=PySem.W.cellsFrom_some sc.names n [] (.inl h)
 exact Option.isSome_iff_exists.mp q
theorem nB {CX:CXT} {P:Program} {w:World} {K:Frag} {mg:Str->Option Value} {base:Heap} {N ps:List Str} {qual:Str} {scope:Scope} {f:Addr} {cd:Value} {A:Around} {outer:List Env} {s s1:Shared} {H:Hp} {E:XK} {us:List Value} {vs:List V}
  (S:e7 N ps scope) (hd:A.handled=none) (e0:kY P w K mg base A outer s H) (hl:vs.length=ps.length) (r:Vals vs us)
  (x:InCallC s s.heap.objs.size (bindL (envOfC qual scope s.heap.objs.size f cd).kindOf (ps.zip us) fun _=>none) (cellsFrom (s.heap.objs.size+1) scope.names []) (bindC (envOfC qual scope s.heap.objs.size f cd).kindOf (ps.zip us) fun _=>none) s1) :
  Inv (X7 CX P w K mg base N qual scope f cd A outer s H E) [] (start N vs) H s1:=by
 have hpl:ps.length<=N.length:=by have:=congrArg List.length S.pre; rw [List.length_take] at this; omega
 obtain ⟨h1,tk,rfl,hk⟩:=x.done
 have noA:∀ b:Addr,b∉(X7 CX P w K mg base N qual scope f cd A outer s H E).ex:=fun b z=>absurd (show b∈([]:List Addr) from z) (by simp)
 refine ⟨⟨e0.mod,S.kind,rfl,rfl,Nat.le_refl _,fun y z c h1 h2=>?_,fun y hy=>?_,fun y c _ h=>?_,fun _=>hd,Around.frames_deeper e0.frames,.inr ⟨rfl,rfl⟩,fun b z=>absurd z (noA b),e0.bs,e0.bsz,fun b _ _=>noA b,fun b z=>absurd z (noA b),e0.funs,e0.frf⟩,
  rfl,e0.bare,Un.kept hk,⟨_,x.toInCall.ns,fun i y v h1 h2 h3=>?_⟩,fun y c h=>⟨_,x.cell y c h⟩,e0.hok.fresh (Nat.le_refl _),fun y c h=>?_,fun p hp=>absurd (show p∈([]:List (Addr×Obj)) from hp) (by simp),e0.hok.kept hk,?_⟩
 ·exact name_of_addr x.apart (PySem.mem_of_lookup h1) (PySem.mem_of_lookup h2)
 ·have hy:scope.names.lookup y=some .cell\/scope.names.lookup y=some .free:=hy
  rcases hy with hy | hy
  ·exact ic hy
  ·exact absurd rfl (S.nofree _ (PySem.mem_of_lookup hy))
 ·exact Nat.le_of_lt (x.above y c (PySem.mem_of_lookup h))
 ·have hi:i<vs.length:=by
   unfold start at h2
   by_cases hi:i<vs.length
   ·exact hi
   ·rw [List.getElem?_append_right (by simpa using hi)] at h2
    rw [List.getElem?_replicate] at h2
    split at h2 <;> cases h2
  have ha:vs[i]?=some v:=by
   unfold start at h2
   rw [List.getElem?_append_left (by simpa using hi),List.getElem?_map] at h2
   cases e:vs[i]? with
   | none=>rw [e] at h2; cases h2
   | some a=>rw [e] at h2; cases h2; rfl
  obtain ⟨u,hu,rv⟩:=r.get ha
  have hp:ps[i]?=some y:=by
   rw [<- S.pre,List.getElem?_take_of_lt (by omega)]; exact h1
  have ndP:ps.Nodup:=by rw [<- S.pre]; exact S.nd.sublist (List.take_sublist _ _)
  refine ⟨u,rv,?_⟩
  rcases S.par y (List.mem_of_getElem? hp) with k | k
  ·exact .inl ⟨k,om ndP hp hu k⟩
  ·obtain ⟨c,e⟩:=ic (n:=s.heap.objs.size+1) k
   refine .inr ⟨.inl k,c,e,?_⟩
   have q:=x.cell y c e
   rw [oo ndP hp hu (by show scope.names.lookup y≠_; rw [k]; decide)] at q
   exact q
 ·exact e0.hok.fresh (Nat.le_of_lt (x.above y c (PySem.mem_of_lookup h)))
 ·unfold start
  show _=N.length
  rw [List.length_append,List.length_map,List.length_replicate]
  omega
theorem Cp {CX:CXT} {P:Program} {w:World} {K:Frag} {mg:Str->Option Value} {base:Heap} {k:Nat} {f:Addr} {name qual:Str} {params:Arguments} {body:List Stmt} {scope:Scope} {dV kV doc pm cdv ct oc:Value} {an od:Option Addr}
  {osl:Array (Option Value)} {N ps:List Str} {sp:Sp} (lk:K.lookup f=some ⟨oc,od,.func (PySem.W.fnOf name qual params body scope dV kV doc pm an cdv ct),osl⟩) (hcd:PySem.W.codeIn K cdv qual=true) (S:e7 N ps scope)
  (len:∀ vs H Q E,sp vs H Q E->vs.length=ps.length)
  (hbody:∀ (A:Around) (outer:List Env) (s:Shared) (H:Hp) (vs:List V) (Q:VK) (E:XK),Room k (A.deeper (envOfC qual scope s.heap.objs.size f cdv))->sp vs H Q E ->
   ∃ t,PSs (X7 CX P w K mg base N qual scope f cdv A outer s H E) body t/\t { nx:=fun _ H'=>Q .non H',rt:=Q } (start N vs) H) :
  FnOk P w K mg base CX (k+1) f (PySem.W.fnOf name qual params body scope dV kV doc pm an cdv ct) ps sp:=by
 refine ⟨len,fun A outer s H args us vs Q E hr e0 hb r hsp=>?_⟩
 have hl:=len _ _ _ _ hsp
 have KX:K.In s.heap:=e0.mod.kin.keeps fun b o e=>(e0.bs b o e).1
 have lim:s.heap.NoLimit:=e0.mod.nolimit.keeps fun b o e=>(e0.bs b o e).1
 have hkind:∀ y∈ps.zip us,scope.names.lookup y.1=some .local\/(scope.names.lookup y.1=some .cell/\((cellsFrom (s.heap.objs.size+1) scope.names []).lookup y.1).isSome=true):=fun zz35 hy=>by
  obtain ⟨n,v⟩:=zz35
  rcases S.par n (List.of_mem_zip hy).1 with q | q
  ·exact .inl q
  ·exact .inr ⟨q,PySem.W.cellsFrom_some _ _ _ (.inl q)⟩
 refine codeAny_call_function hr.depth (KX _ _ lk) rfl S.co S.gen rfl (PySem.W.codeRec_of KX hcd) (hb _ _ _ _ ?_)
 refine wpAny_newFunctionEnv_cells S.kind hkind fun env he s1 x=>?_
 subst he
 refine ⟨lim.keeps x.toInCall.keep,codeAny_func ?_⟩
 obtain ⟨t,ht,hq⟩:=hbody A outer s H vs Q E (hr.deeper _) hsp
 have I:Inv (X7 CX P w K mg base N qual scope f cdv A outer s H E) [] (start N vs) H s1:=nB S hr.hd e0 hl r x
 refine wpAny_mono (ht [] s1 (start N vs) H _ I hq) (fun fl s' hs=>?_) fun e s' hs=>hs
 have fin:∀ {σ':St} {H':Hp} {v:V} {u:Value},Inv (X7 CX P w K mg base N qual scope f cdv A outer s H E) [] σ' H' s'->RelV v u->Q v H'->CE outer P w H s Q u s':=
  fun {σ' H' v u} J rv q=>⟨v,H',J.os,J.bare,J.base,J.hok,rv,q⟩
 cases fl with
 | ret u=>
  obtain ⟨v,σ',H',J,rv,q⟩:=hs
  exact fin J rv q
 | next=>
  obtain ⟨σ',H',J,q⟩:=hs
  exact fin (v:=V.non) (u:=Value.none) J rfl q
 | brk=>
  obtain ⟨_,_,_,q⟩:=hs
  exact False.elim q
 | cont=>
  obtain ⟨_,_,_,q⟩:=hs
  exact False.elim q
end L2
namespace L2
open PySem PySem.Spec PyProof.Rows
section
variable {X:Cx} {x:Str} {p pos:Pos} {e:Expr} {es:List Expr} {t:TA} {id T:String} {r:List V->Hp->VK->Prop}
def tCB (r:List V->Hp->VK->Prop) (t:TA):TE:=fun σ H Q=>t σ H fun vs H1=>r vs H1 Q
theorem pP (hc:D7 X (.builtin id) r) (hg:Gl X x) (hm:X.mg x=none) (hv:bootBuiltins x=some (.builtin id)) (ha:PA X (e::es) t) (hn:x ≠ "__name__" := by decide) (hdb:(x == ("__debug__" : Str))=false:=by decide)
  (he:starEach (e::es) X.env=(false,eval e X.env)::starEach es X.env:=by rfl) (hpl:(backTo pos (starEach es X.env)).any (·.1)=false:=by rfl):PE X (.Call (.Name x p) (e::es) [] pos) (tCB r t):=by
 intro pins s σ H Q I h
 refine wpAny_Call_Name_kw (N0 I hg hm hv ?_ hn hdb)
 exact PyProof.Rows.callWith_builtin1 (thn (ha pos pins s σ H _ I h) fun us s1 zz36=>by obtain ⟨vs,H1,I1,r1,q1⟩:=zz36; exact hc pins s1 σ H1 vs us Q I1 r1 q1) he hpl
theorem mJ (hc:D7 X (.type T) r) (hg:Gl X x) (hm:X.mg x=none) (hv:bootBuiltins x=some (.type T)) (ha:PA X (e::es) t) (hn:x ≠ "__name__" := by decide) (hdb:(x == ("__debug__" : Str))=false:=by decide)
  (he:starEach (e::es) X.env=(false,eval e X.env)::starEach es X.env:=by rfl) (hpl:(backTo pos (starEach es X.env)).any (·.1)=false:=by rfl):PE X (.Call (.Name x p) (e::es) [] pos) (tCB r t):=by
 intro pins s σ H Q I h
 refine wpAny_Call_Name_kw (N0 I hg hm hv ?_ hn hdb)
 exact PyProof.Rows.callWith_type1 (thn (ha pos pins s σ H _ I h) fun us s1 zz37=>by obtain ⟨vs,H1,I1,r1,q1⟩:=zz37; exact hc pins s1 σ H1 vs us Q I1 r1 q1) he hpl
end
end L2
namespace HT
open PySem PyProof.Rows
def lexLt:List Int->List Int->Bool
 | [],[]=>false
 | [],_::_=>true
 | _::_,[]=>false
 | x::xs,y::ys=>if x=y then lexLt xs ys else decide (x<y)
section
open PySem.SeqAt
open PySem.AutoSeq1 (wpAny_loadPart')
open PySem.MeetsSeq PySem.MeetsSeq2 PySem.MeetsSeq3
end
section
variable {prog:Program} {w:World} {A:Around} {E:Value->Shared->Prop} {s:Shared}
def sIx (n d:Nat):Option Int->Nat
 | none=>d
 | some v=>if v<0 then (v+(n:Int)).toNat else min v.toNat n
theorem sIx_none (n d:Nat):sIx n d none=d:=rfl
theorem sIx_nat (n d k:Nat):sIx n d (some (k:Int))=min k n:=by
 show (if (k:Int)<0 then ((k:Int)+(n:Int)).toNat else min (k:Int).toNat n)=min k n
 rw [if_neg (by omega),Int.toNat_natCast]
theorem lW (n d:Nat) (hd:d<=n) (o:Option Int):sIx n d o<=n:=by
 cases o with
 | none=>exact hd
 | some v=>
  show (if v<0 then (v+(n:Int)).toNat else min v.toNat n)<=n
  by_cases hv:v<0
  ·rw [if_pos hv]; omega
  ·rw [if_neg hv]; exact Nat.min_le_right _ _
theorem jB (v:Int) (n d:Nat):(if v<0 then max (v+(n:Int)) 0 else min v (n:Int))=((sIx n d (some v):Nat):Int):=by
 show (if v<0 then max (v+(n:Int)) 0 else min v (n:Int))=(((if v<0 then (v+(n:Int)).toNat else min v.toNat n):Nat):Int)
 by_cases hv:v<0
 ·simp only [if_pos hv]; omega
 ·simp only [if_neg hv]; omega
theorem kX (lo hi:Option Int) (n:Nat):Builtin.Slice.sliceAdjust lo hi 1 (n:Int)=(((sIx n 0 lo:Nat):Int),((sIx n n hi:Nat):Int)):=by
 have h1:¬ ((1:Int)<0):=by omega
 unfold Builtin.Slice.sliceAdjust
 simp only [h1,if_false]
 refine Prod.ext ?_ ?_
 ·cases lo with
  | none=>rfl
  | some v=>exact jB v n 0
 ·cases hi with
  | none=>rfl
  | some v=>exact jB v n n
theorem kg (i j:Nat):Builtin.Slice.slicePlaces (i:Int) (j:Int) 1=j-i:=by
 unfold Builtin.Slice.slicePlaces
 have h1:(1:Int)>0:=by omega
 simp only [h1,if_true,Int.ediv_one]
 split <;> omega
theorem bH {v:Value} {o:Option Int} {Q:Option Int->Shared->Prop} (p:IsPart v o) (h:Q o s):wpAny (model prog w) A (Builtin.Slice.slicePartIndex v) Q E s:=by
 cases p with
 | none=>exact slicePart_none h
 | int i t=>exact slicePart_int h
theorem P9 {sl:Addr} {vl vu:Value} {lo hi:Option Int} {n:Nat} {Q:Int×Int×Nat->Shared->Prop} (hs:s.heap.IsSliceOf sl vl vu .none) (pl:IsPart vl lo) (pu:IsPart vu hi)
  (h:Q (((sIx n 0 lo:Nat):Int),1,sIx n n hi-sIx n 0 lo) s):wpAny (model prog w) A (Builtin.Slice.sliceApplied (.ref sl) (pure (n:Int))) Q E s:=by
 obtain ⟨os,hos,hcs,hds⟩:=id hs
 unfold Builtin.Slice.sliceApplied Builtin.Slice.sliceFields
 refine wpAny_bind (wpAny_bind (wpAny_field hos hds (x:=vl) rfl (wpAny_bind (wpAny_field hos hds (x:=vu) rfl (wpAny_bind (wpAny_field hos hds (x:=.none) rfl (wpAny_pure ?_)))))))
 refine wpAny_bind (slicePart_none ?_)
 show wpAny _ _ (if ((1:Int) == 0)=true then _ else _) _ _ s
 rw [if_neg (by decide)]
 refine wpAny_bind (bH pl (wpAny_bind (bH pu (wpAny_bind (wpAny_pure ?_)))))
 show wpAny _ _ (match Builtin.Slice.sliceAdjust lo hi 1 (n:Int) with | (lo,hi)=>pure (lo,(1:Int),Builtin.Slice.slicePlaces lo hi 1)) _ _ s
 rw [kX lo hi n]
 show wpAny _ _ (pure (((sIx n 0 lo:Nat):Int),(1:Int),Builtin.Slice.slicePlaces ((sIx n 0 lo:Nat):Int) ((sIx n n hi:Nat):Int) 1)) _ _ s
 rw [kg]
 exact wpAny_pure h
theorem pL (xs:Array Value) (i k:Nat):((List.range k).filterMap fun (m:Nat)=>xs[((i:Int)+(m:Int)*1).toNat]?).toArray=((xs.toList.drop i).take k).toArray:=by
 have e:(fun (m:Nat)=>xs[((i:Int)+(m:Int)*1).toNat]?)=fun m=>xs[i+m]?:=by
  funext m
  have:((i:Int)+(m:Int)*1).toNat=i+m:=by omega
  rw [this]
 rw [e]
 have:=pick_run xs i k
 rw [List.filterMap_map] at this
 have e2:((fun x=>xs[x]?)∘fun x=>i+x)=fun m=>xs[i+m]?:=rfl
 rw [e2] at this
 rw [this]
theorem getItem_tuple_cut {t sl:Addr} {items:Array Value} {vl vu:Value} {lo hi:Option Int} {Q:Value->Shared->Prop} (ht:IsTup s.heap t items) (hs:s.heap.IsSliceOf sl vl vu .none) (pl:IsPart vl lo) (pu:IsPart vu hi)
  (hw:¬ (sIx items.size 0 lo=0/\sIx items.size items.size hi=items.size))
  (h:Q (.ref s.heap.objs.size) { s with heap:=s.heap.push { cls:=.type "tuple",data:=.seq ((items.toList.drop (sIx items.size 0 lo)).take (sIx items.size items.size hi-sIx items.size 0 lo)).toArray } })
  (hsz:items.size<=sizeLine):wpAny (model prog w) A (getItem (.ref t) (.ref sl)) Q E s:=by
 have htake:sizeOk (.seq ((items.toList.drop (sIx items.size 0 lo)).take (sIx items.size items.size hi-sIx items.size 0 lo)).toArray):=by
  show ((items.toList.drop (sIx items.size 0 lo)).take (sIx items.size items.size hi-sIx items.size 0 lo)).toArray.size<=sizeLine
  rw [List.size_toArray,List.length_take,List.length_drop,Array.length_toList]
  omega
 have hj:sIx items.size items.size hi<=items.size:=lW _ _ (Nat.le_refl _) hi
 obtain ⟨os,hos,hcs,hds⟩:=id hs
 have hTs:s.TypeIs (.ref sl) "slice" := ⟨os,hos,hcs⟩
 unfold getItem
 try with_reducible refine wpAny_holding ?_
 first | refine wpAny_bind (wpAny_pure ?_) | skip
 refine wpAny_bind (wpAny_sequenceKey ht.typeIs (by decide) ?_)
 refine wpAny_bind (wpAny_callSpecial?_slot (name:=Str.ofString "__getitem__") ht.typeIs PyProof.Rows.slot_tuple_getitem
  (wpAny_call_entry PyProof.Rows.slot_tuple_getitem ht.typeIs entry_tuple_getitem ?_ (args_tuple_getitem _ _)))
 show wpAny _ _ (Builtin.Tuple.tupleItemsOf (.ref t)>>=_) _ _ s
 refine wpAny_bind (tupleItemsOf_ ht ?_)
 refine wpAny_bind (wpAny_typeOf hTs ?_)
 rw [if_pos (by decide)]
 refine wpAny_bind (P9 hs pl pu ?_)
 have hno:¬ ((((sIx items.size 0 lo:Nat):Int) == 0&&(1:Int) == 1&&(sIx items.size items.size hi-sIx items.size 0 lo) == items.size)=true):=by
  intro q
  rw [Bool.and_eq_true,Bool.and_eq_true] at q
  have q1:((sIx items.size 0 lo:Nat):Int)=0:=eq_of_beq q.1.1
  have q2:sIx items.size items.size hi-sIx items.size 0 lo=items.size:=eq_of_beq q.2
  exact hw ⟨by omega,by omega⟩
 show wpAny _ _ (if (((sIx items.size 0 lo:Nat):Int) == 0&&(1:Int) == 1&&(sIx items.size items.size hi-sIx items.size 0 lo) == items.size)=true then _ else _) _ _ s
 rw [if_neg hno,pL]
 first
  | exact wpAny_bind (m:=Builtin.Tuple.tupleExact _) (wpAny_newObj_type (wpAny_pure ⟨_,rfl,wpAny_pure h⟩) htake)
  | exact wpAny_bind (m:=Builtin.Tuple.tupleExact _) (wpAny_newObj_type (wpAny_bind (wpAny_pure (wpAny_pure ⟨_,rfl,wpAny_pure h⟩))) htake)
  | exact wpAny_bind (wpAny_bind (m:=Builtin.Tuple.tupleExact _) (wpAny_newObj_type (wpAny_pure (wpAny_pure ⟨_,rfl,wpAny_pure h⟩)) htake))
  | exact wpAny_bind (wpAny_bind (m:=Builtin.Tuple.tupleExact _) (wpAny_newObj_type (wpAny_pure ⟨_,rfl,wpAny_pure h⟩) htake))
end
end HT
namespace L2
open PySem PySem.Spec PyProof.Rows
abbrev TO:=St->Hp->(Option Int->Hp->Prop)->Prop
def PO (X:Cx) (e:Option Expr) (t:TO):Prop:=
 ∀ (pins:List (Addr×Obj)) (s:Shared) (σ:St) (H:Hp) (Q:Option Int->Hp->Prop),Inv X pins σ H s->t σ H Q ->
  wpAny (model X.prog X.w) X.A (evalPart e X.env) (fun u s'=>∃ o H',Inv X pins σ H' s'/\IsPart u o/\Q o H') X.xe s
def tNoPart:TO:=fun _ H Q=>Q none H
def jO (t:TE):TO:=fun σ H Q=>t σ H fun x H1=>∃ i,x=.int i/\Q (some i) H1
section
variable {X:Cx} {e:Expr} {te:TE} {lo hi:Option Expr} {tl th:TO} {pos p2:Pos}
theorem po_none:PO X none tNoPart:=by
 intro pins s σ H Q I h
 rw [evalPart_none]
 exact wpAny_pure ⟨none,H,I,.none,h⟩
theorem iW (h:PE X e te):PO X (some e) (jO te):=by
 intro pins s σ H Q I hw
 rw [evalPart_some]
 refine thn (h pins s σ H _ I hw) fun u s1 zz38=>?_
 obtain ⟨x,H1,I1,r1,q1⟩:=zz38
 obtain ⟨i,rfl,q⟩:=q1
 obtain ⟨t,rfl⟩:=r1
 exact ⟨some i,H1,I1,.int i t,q⟩
def SlR (X:Cx) (r:V->Option Int->Option Int->Hp->VK->Prop):Prop:=
 ∀ (pins:List (Addr×Obj)) (s:Shared) (σ:St) (H:Hp) (x:V) (v vl vu:Value) (lo hi:Option Int) (sl:Addr) (Q:VK),Inv X pins σ H s->RelV x v->s.heap.IsSliceOf sl vl vu .none->IsPart vl lo->IsPart vu hi->r x lo hi H Q ->
  ∃ T id,typeLookup (.type T) "__getitem__" = pure (some (.builtin id))/\s.TypeIs v T/\wpAny (model X.prog X.w) X.A (getItem v (.ref sl)) (EP X pins σ Q) X.xe s
theorem SlR.or {r r':V->Option Int->Option Int->Hp->VK->Prop} (h:SlR X r) (h':SlR X r'):SlR X (fun x lo hi H Q=>r x lo hi H Q\/r' x lo hi H Q):=by
 intro pins s σ H x v vl vu lo hi sl Q I rx hs pl pu q
 rcases q with q | q
 ·exact h pins s σ H x v vl vu lo hi sl Q I rx hs pl pu q
 ·exact h' pins s σ H x v vl vu lo hi sl Q I rx hs pl pu q
def tSl (r:V->Option Int->Option Int->Hp->VK->Prop) (te:TE) (tl th:TO):TE:=fun σ H Q=>te σ H fun x H1=>tl σ H1 fun l H2=>th σ H2 fun u H3=>r x l u H3 Q
theorem fX {r:V->Option Int->Option Int->Hp->VK->Prop} (hr:SlR X r) (he:PE X e te) (hl:PO X lo tl) (hu:PO X hi th):PE X (.Subscript e (.Slice lo hi none p2) pos) (tSl r te tl th):=by
 intro pins s σ H Q I h
 refine Subscript_ (thn (he pins s σ H _ I h) fun v s1 zz39=>?_)
 obtain ⟨x,H1,I1,r1,q1⟩:=zz39
 refine wpAny_Slice (thn (hl pins s1 σ H1 _ I1 q1) fun vl s2 ⟨l,H2,I2,pl,q2⟩=>thn (hu pins s2 σ H2 _ I2 q2) fun vu s3 zz41=>?_)
 obtain ⟨u,H3,I3,pu,q3⟩:=zz41
 rw [evalPart_none]
 refine wpAny_pure ?_
 have I4:Inv X pins σ H3 { s3 with heap:=s3.heap.push { cls:=.type "slice",data:=.fields #[vl,vu,.none] } }:=I3.kept (t':=s3.toks) fun b ob q=>Heap.get?_push_of_some _ q
 obtain ⟨T,id,hT,ht,hg⟩:=hr pins { s3 with heap:=s3.heap.push { cls:=.type "slice",data:=.fields #[vl,vu,.none] } } σ H3 x v vl vu l u s3.heap.objs.size Q I4 r1 (Heap.IsSliceOf.new ..) pl pu q3
 show wpAny (model X.prog X.w) X.A (subscriptTail e (.Slice lo hi none p2) v (.ref s3.heap.objs.size)) (EP X pins σ Q) X.xe { s3 with heap:=s3.heap.push { cls:=.type "slice",data:=.fields #[vl,vu,.none] } }
 exact tail_any (ops:=[.ref s3.heap.objs.size,v]) ht hT hg (by with_unfolding_all rfl)
def cutV (xs:List V) (lo hi:Option Int):List V:=(xs.drop (HT.sIx xs.length 0 lo)).take (HT.sIx xs.length xs.length hi-HT.sIx xs.length 0 lo)
theorem aW (xs:List V) (lo hi:Option Int):(cutV xs lo hi).length<=xs.length:=by
 unfold cutV
 rw [List.length_take,List.length_drop]
 omega
def xN (K:Frag):V->Option Int->Option Int->Hp->VK->Prop:=fun x lo hi H Q=>∃ a xs,x=.ref a/\SqT K H a xs /\
 ¬ (HT.sIx xs.length 0 lo=0/\HT.sIx xs.length xs.length hi=xs.length)/\∀ p,H p=none->Q (.ref p) (upd H p (.tup (cutV xs lo hi)))
theorem wS:SlR X (xN X.K):=by
 intro pins s σ H x v vl vu lo hi sl Q I rx hs pl pu h
 obtain ⟨a,xs,rfl,hx,hw,q⟩:=h
 cases rx
 obtain ⟨its,r,ht,hz⟩:=I.tuple hx
 have hlen:its.toArray.size=xs.length:=by rw [List.size_toArray]; exact r.length.symm
 refine ⟨"tuple",_,PyProof.Rows.slot_tuple_getitem.lookup,ht.typeIs,?_⟩
 refine HT.getItem_tuple_cut ht hs pl pu (by rw [hlen]; exact hw) ?_ (by rw [hlen]; exact hz)
 rw [hlen]
 refine ⟨.ref s.heap.objs.size,_,I.laid (t':=s.toks) (o:=.tup (cutV xs lo hi)) (fun b ob q=>Heap.get?_push_of_some _ q) (Nat.le_refl _) ?_,rfl,q _ (I.hok.fresh (Nat.le_refl _))⟩
 exact ⟨Nat.le_trans (aW xs lo hi) hz,_,(r.drop (HT.sIx xs.length 0 lo)).take (HT.sIx xs.length xs.length hi-HT.sIx xs.length 0 lo),IsTup.new _ _⟩
theorem Vals.nil_iff {xs:List V} {us:List Value} (r:Vals xs us):us = []↔xs = []:=by
 cases r with
 | nil=>simp
 | cons _ _=>simp
end
end L2
namespace L2
open PySem PySem.Spec PyProof.Rows
def ixN (n:Nat) (i:Int):Option Nat:=if 0<=i then (if i<n then some i.toNat else none) else if -(n:Int)<=i then some (i+n).toNat else none
def atI {α:Type} (xs:List α) (i:Int):Option α:=(ixN xs.length i).bind fun j=>xs[j]?
theorem vm {n:Nat} {i:Int} {j:Nat} (h:ixN n i=some j):seqIndex? i n=some j/\j<n /\ -(n:Int)<=i/\i<n:=by
 unfold ixN at h
 by_cases h0:0<=i
 ·rw [if_pos h0] at h
  by_cases h1:i<n
  ·rw [if_pos h1] at h
   have e:i.toNat=j:=Option.some.inj h
   exact ⟨by rw [seqIndex_of h0 h1,e],by omega,by omega,h1⟩
  ·rw [if_neg h1] at h; cases h
 ·rw [if_neg h0] at h
  by_cases h1:-(n:Int)<=i
  ·rw [if_pos h1] at h
   have e:(i+n).toNat=j:=Option.some.inj h
   exact ⟨by rw [seqIndex_neg (by omega) h1,e],by omega,h1,by omega⟩
  ·rw [if_neg h1] at h; cases h
theorem dC {α:Type} {xs:List α} {i:Int} {v:α} (h:atI xs i=some v):∃ j,seqIndex? i xs.length=some j/\xs[j]?=some v/\j<xs.length /\ -(xs.length:Int)<=i/\i<xs.length:=by
 unfold atI at h
 cases e:ixN xs.length i with
 | none=>rw [e] at h; cases h
 | some j=>
  rw [e] at h
  obtain ⟨h1,h2,h3,h4⟩:=vm e
  exact ⟨j,h1,h,h2,h3,h4⟩
def dE (b:Expr):Prop:=∀ o i,subscripted b false o i=operate [o,i] (getItem o i)
def IxR (X:Cx) (r:R2):Prop:=
 ∀ (value slice:Expr) (pins:List (Addr×Obj)) (s:Shared) (σ:St) (H:Hp) (x y:V) (v u:Value) (Q:VK),Inv X pins σ H s->RelV x v->RelV y u->r x y H Q ->
  subscripted slice false v u=operate [v,u] (getItem v u)->wpAny (model X.prog X.w) X.A (subscriptTail value slice v u) (EP X pins σ Q) X.xe s
def MtR (X:Cx) (id:String) (r:V->List V->Hp->VK->Prop):Prop:=
 ∀ (pins:List (Addr×Obj)) (s:Shared) (σ:St) (H:Hp) (x:V) (xs:List V) (v:Value) (us:List Value) (Q:VK),Inv X pins σ H s->RelV x v->Vals xs us->r x xs H Q ->
  wpAny (model X.prog X.w) X.A (call (.builtin id) (v::us)) (EP X pins σ Q) X.xe s
section
variable {X:Cx} {a b:Expr} {ta tb:TE} {pos:Pos}
theorem IxR.or {r r':R2} (h:IxR X r) (h':IxR X r'):IxR X (fun x y H Q=>r x y H Q\/r' x y H Q):=by
 intro value slice pins s σ H x y v u Q I rx ry q hs
 rcases q with q | q
 ·exact h value slice pins s σ H x y v u Q I rx ry q hs
 ·exact h' value slice pins s σ H x y v u Q I rx ry q hs
theorem rR {r:R2} (hr:IxR X r) (ha:PE X a ta) (hb:PE X b tb) (hs:dE b):PE X (.Subscript a b pos) (tOp r ta tb):=by
 intro pins s σ H Q I h
 exact Subscript_ (rh ha hb I h fun v u s2 x y H2 I2 rx ry q=>hr a b pins s2 σ H2 x y v u Q I2 rx ry q (hs _ _))
def xU (K:Frag):R2:=fun x y H Q=>∃ p xs i v,x=.ref p/\y=.int i/\SqL K H p xs/\atI xs i=some v/\Q v H
def xT (K:Frag):R2:=fun x y H Q=>∃ p xs i v,x=.ref p/\y=.int i/\SqT K H p xs/\atI xs i=some v/\Q v H
def rIxS:R2:=fun x y H Q=>∃ z i c,x=.str z/\y=.int i/\z.length<=sizeLine/\atI z.cps.toList i=some c/\Q (.str ⟨#[c]⟩) H
theorem ix_list:IxR X (xU X.K):=by
 intro value slice pins s σ H x y v u Q I rx ry h hs
 obtain ⟨p,xs,i,z,rfl,rfl,hq,he,q⟩:=h
 cases rx
 obtain ⟨t,rfl⟩:=ry
 obtain ⟨its,r,pl,hz⟩:=I.list hq
 obtain ⟨j,h1,h2,h3,h4,h5⟩:=dC he
 obtain ⟨w,ew,rw'⟩:=r.get h2
 have hl:=r.length
 have hn:=cq
 have fin:EP X pins σ Q w s:=⟨z,H,I,rw',q⟩
 by_cases h0:0<=i
 ·have hj:i.toNat=j:=by
   rw [seqIndex_of h0 h5] at h1
   exact Option.some.inj h1
  exact item_listR pl.isList h0 (by omega) (by rw [hj]; simpa using ew) fin hs
 ·have hj:(i+(its.toArray.size:Int)).toNat=j:=by
   rw [seqIndex_neg (by omega) h4] at h1
   rw [List.size_toArray,<- hl]
   exact Option.some.inj h1
  exact subscriptTail_builtinR (x:=w) pl.isList.typeIs slot_list_getitem.lookup
   (wpAny_getItem_list_neg (Q:=fun r s'=>r=w/\EP X pins σ Q r s') pl.isList (by omega) (by rw [List.size_toArray] <;> omega) (by omega) (by rw [hj]; simpa using ew) ⟨rfl,fin⟩) hs
theorem ix_tup:IxR X (xT X.K):=by
 intro value slice pins s σ H x y v u Q I rx ry h hs
 obtain ⟨p,xs,i,z,rfl,rfl,hq,he,q⟩:=h
 cases rx
 obtain ⟨t,rfl⟩:=ry
 obtain ⟨its,r,pl,hz⟩:=I.tuple hq
 obtain ⟨j,h1,h2,h3,h4,h5⟩:=dC he
 obtain ⟨w,ew,rw'⟩:=r.get h2
 have hl:=r.length
 have hn:=cq
 have fin:EP X pins σ Q w s:=⟨z,H,I,rw',q⟩
 exact subscriptTail_builtinR (x:=w) pl.typeIs slot_tuple_getitem.lookup
  (getItem_tuple (j:=j) (Q:=fun r s'=>r=w/\EP X pins σ Q r s') pl (by omega) (by omega) (by rw [List.size_toArray,<- hl]; exact h1) (by simpa using ew) ⟨rfl,fin⟩) hs
theorem zb:IxR X rIxS:=by
 intro value slice pins s σ H x y v u Q I rx ry h hs
 obtain ⟨z,i,c,rfl,rfl,hz,he,q⟩:=h
 obtain ⟨t,rfl⟩:=rx
 obtain ⟨t',rfl⟩:=ry
 obtain ⟨j,h1,h2,h3,h4,h5⟩:=dC he
 have hl:z.cps.toList.length=z.length:=by simp [Str.length]
 rw [hl] at h1 h4 h5
 have hn:=cq
 exact tail_any (typeIs_str s z t) slot_str_getitem.lookup (getItem_str (c:=c) (by
  have e1:decide (i < -(2^63:Int))=false:=decide_eq_false (by omega)
  have e2:decide (i≥2^63)=false:=decide_eq_false (by omega)
  rw [e1,e2,Bool.or_false]) (by rw [h1]; simpa using h2) ⟨.str ⟨#[c]⟩,H,I.tok _,⟨_,rfl⟩,q⟩) hs
def rIx (K:Frag):R2:=fun x y H Q=>xU K x y H Q\/xT K x y H Q\/rIxS x y H Q
theorem nt:IxR X (rIx X.K):=ix_list.or (ix_tup.or zb)
theorem fA (lo hi:Option Int) (n:Nat):(sliceBounds lo hi none n).1=((HT.sIx n 0 lo:Nat):Int)/\(sliceBounds lo hi none n).2.1=((HT.sIx n n hi:Nat):Int)/\(sliceBounds lo hi none n).2.2=1:=by
 refine ⟨?_,?_,rfl⟩
 ·cases lo with
  | none=>simp [sliceBounds,HT.sIx]
  | some i=>
   simp only [sliceBounds,HT.sIx,Option.getD_none,show (1:Int)>0 by decide,if_true]
   by_cases h:i<0
   ·simp only [h,if_true] <;> omega
   ·simp only [h,if_false] <;> omega
 ·cases hi with
  | none=>simp [sliceBounds,HT.sIx]
  | some i=>
   simp only [sliceBounds,HT.sIx,Option.getD_none,show (1:Int)>0 by decide,if_true]
   by_cases h:i<0
   ·simp only [h,if_true] <;> omega
   ·simp only [h,if_false] <;> omega
theorem eF (its:List Value) (lo hi:Option Int):slicePick its.toArray lo hi none=((its.drop (HT.sIx its.length 0 lo)).take (HT.sIx its.length its.length hi-HT.sIx its.length 0 lo)).toArray:=by
 obtain ⟨h1,h2,h3⟩:=fA lo hi its.toArray.size
 unfold slicePick
 rw [h1,h2,h3]
 simp only [sliceRange_one,pick_run,List.size_toArray] <;> rfl
def xO (K:Frag):V->Option Int->Option Int->Hp->VK->Prop:=fun x lo hi H Q=>∃ a xs,x=.ref a/\SqL K H a xs/\∀ p,H p=none->Q (.ref p) (upd H p (.lst (cutV xs lo hi)))
theorem tz:SlR X (xO X.K):=by
 intro pins s σ H x v vl vu lo hi sl Q I rx hs pl pu h
 obtain ⟨a,xs,rfl,hx,q⟩:=h
 cases rx
 obtain ⟨its,r,ht,hz⟩:=I.list hx
 have hlen:=r.length
 refine ⟨"list",_,slot_list_getitem.lookup,ht.isList.typeIs,?_⟩
 refine wpAny_getItem_list_slice ht.isList hs pl pu .none (by simp) ?_ (by rw [List.size_toArray] <;> omega)
 rw [eF,<- hlen]
 refine ⟨.ref s.heap.objs.size,_,I.laid (t':=s.toks) (o:=.lst (cutV xs lo hi)) (fun b ob q=>Heap.get?_push_of_some _ q) (Nat.le_refl _) ?_,rfl,q _ (I.hok.fresh (Nat.le_refl _))⟩
 exact ⟨Nat.le_trans (aW xs lo hi) hz,_,0,(r.drop (HT.sIx xs.length 0 lo)).take (HT.sIx xs.length xs.length hi-HT.sIx xs.length 0 lo),Heap.get?_push_size _ rfl⟩
def si:V->Bool
 | .non=>true
 | .bl _=>true
 | .int _=>true
 | .str _=>true
 | _=>false
def eqV:V->V->Bool
 | .non,.non=>true
 | .bl a,.bl b=>a == b
 | .bl a,.int b=>(if a then 1 else 0) == b
 | .int a,.bl b=>a == (if b then 1 else 0)
 | .int a,.int b=>a == b
 | .str a,.str b=>a == b
 | _,_=>false
def inV (x:V) (xs:List V):Bool:=xs.any fun y=>eqV y x
def rIn (K:Frag) (neg:Bool):R2:=fun x y H Q=>∃ p xs,y=.ref p/\(SqL K H p xs\/SqT K H p xs)/\si x=true/\xs.all si=true/\Q (.bl (if neg then !inV x xs else inV x xs)) H
theorem ig:D7 X (.builtin "len") (fun xs H Q=>∃ p ys,xs = [.ref p]/\(SqL X.K H p ys\/SqT X.K H p ys)/\Q (.int ys.length) H):=by
 intro pins s σ H xs us Q I r h
 obtain ⟨p,ys,rfl,hq,q⟩:=h
 obtain ⟨u,rfl,rx⟩:=vals1 r
 cases rx
 have hn:=cq
 rcases hq with hq | hq
 ·obtain ⟨its,r',pl,hz⟩:=I.list hq
  have hlen:=r'.length
  exact Calls.call_len_list pl.isList (by simp only [List.size_toArray] <;> omega) ⟨.int ys.length,H,I.tok _,⟨s.toks+1,by rw [List.size_toArray,hlen]⟩,q⟩
 ·obtain ⟨its,r',pl,hz⟩:=I.tuple hq
  have hlen:=r'.length
  exact len_tuple pl (by simp only [List.size_toArray] <;> omega) ⟨.int ys.length,H,I.tok _,⟨s.toks+1,by rw [List.size_toArray,hlen]⟩,q⟩
theorem ie:D7 X (.type "list") (fun xs H Q=>∃ p ys,xs = [.ref p]/\(SqL X.K H p ys\/SqT X.K H p ys)/\∀ l,H l=none->Q (.ref l) (upd H l (.lst ys))):=by
 intro pins s σ H xs us Q I r h
 obtain ⟨p,ys,rfl,hq,q⟩:=h
 obtain ⟨u,rfl,rx⟩:=vals1 r
 cases rx
 have fin:∀ (its:List Value),Vals ys its->ys.length<=sizeLine->∀ (h':Heap) (c':Nat),(∀ b o',s.heap.get? b=some o'->h'.get? b=some o') ->
   h'.get? s.heap.objs.size=some { cls:=.type "list",dict:=none,data:=.seq its.toArray c',slots:=#[] }->EP X pins σ Q (.ref s.heap.objs.size) { s with heap:=h' }:=fun its r' hz h' c' kp e=>
  ⟨.ref s.heap.objs.size,_,I.laid (t':=s.toks) kp (Nat.le_refl _) (show ObjOk X.prog X.w _ h' _ (.lst ys) from ⟨hz,its,c',r',e⟩),rfl,q _ (I.hok.fresh (Nat.le_refl _))⟩
 rcases hq with hq | hq
 ·obtain ⟨its,r',pl,hz⟩:=I.list hq
  have hlen:=r'.length
  obtain ⟨o,ho,hc,n,hd⟩:=pl.isList
  exact call_list_seq p (.inl rfl) ho hc hd (fun h' c' kp e=>fin its r' hz h' c' kp e) (by simp only [List.size_toArray] <;> omega)
 ·obtain ⟨its,r',pl,hz⟩:=I.tuple hq
  have hlen:=r'.length
  obtain ⟨o,ho,hc,n,hd⟩:=pl
  exact call_list_seq p (.inr rfl) ho hc hd (fun h' c' kp e=>fin its r' hz h' c' kp e) (by simp only [List.size_toArray] <;> omega)
theorem eN:D7 X (.type "tuple") (fun xs H Q=>∃ p ys,xs = [.ref p]/\((SqL X.K H p ys/\∀ l,H l=none->Q (.ref l) (upd H l (.tup ys)))\/(SqT X.K H p ys/\Q (.ref p) H))):=by
 intro pins s σ H xs us Q I r h
 obtain ⟨p,ys,rfl,h⟩:=h
 obtain ⟨u,rfl,rx⟩:=vals1 r
 cases rx
 rcases h with ⟨hq,q⟩ | ⟨hq,q⟩
 ·obtain ⟨its,r',pl,hz⟩:=I.list hq
  have hlen:=r'.length
  refine call_tuple_list pl.isList (fun h' kp=>?_) (by simp only [List.size_toArray] <;> omega)
  have I1:Inv X pins σ H { s with heap:=h' }:=I.kept (t':=s.toks) kp
  have I2:Inv X pins σ (upd H h'.objs.size (.tup ys)) { s with heap:=h'.push { cls:=.type "tuple",data:=.seq its.toArray } }:=
   I1.laid (t':=s.toks) (fun b o e=>Heap.get?_push_of_some _ e) (Nat.le_refl _) (show ObjOk X.prog X.w _ _ _ (.tup ys) from ⟨hz,its,r',IsTup.new _ _⟩)
  exact ⟨.ref h'.objs.size,_,I2,rfl,q _ (I1.hok.fresh (Nat.le_refl _))⟩
 ·obtain ⟨its,r',pl,hz⟩:=I.tuple hq
  exact call_tuple_same pl ⟨.ref p,H,I,rfl,q⟩
def tyV (K:Frag) (T:String) (x:V) (H:Hp):Prop:=match x with
 | .str _=>T = "str"
 | .int _=>T = "int"
 | .ref p=>(T = "list" /\ ∃ xs,SqL K H p xs)\/(T = "tuple" /\ ∃ o,K.lookup p=some o/\o.cls=.type "tuple" /\ o.dict=none) \/
   (T = "dict" /\ ((∃ kvs,H p=some (.dK kvs))\/∃ kvs,H p=some (.dT kvs)))\/(T = "set" /\ ∃ S n,H p=some (.set S n))
 | _=>False
theorem lA {pins:List (Addr×Obj)} {σ:St} {H:Hp} {s:Shared} {T:String} {x:V} {v:Value} (I:Inv X pins σ H s) (r:RelV x v) (ty:tyV X.K T x H) :
  s.TypeIs v T/\∀ a,v=.ref a->∃ ob,s.heap.get? a=some ob/\ob.dict=none:=by
 cases x with
 | str z=>
  obtain ⟨t,rfl⟩:=r
  cases (show T = "str" from ty)
  exact ⟨typeIs_str s z t,fun _ e=>nomatch e⟩
 | int i=>
  obtain ⟨t,rfl⟩:=r
  cases (show T = "int" from ty)
  exact ⟨typeIs_int s i t,fun _ e=>nomatch e⟩
 | ref p=>
  cases r
  rcases ty with ⟨rfl,xs,hq⟩ | ⟨rfl,o,hk,hc,hd⟩ | ⟨rfl,hk⟩ | ⟨rfl,S,n,hk⟩
  ·obtain ⟨its,_,pl,_⟩:=I.list hq
   refine ⟨pl.isList.typeIs,fun a e=>?_⟩
   cases e
   obtain ⟨o,n,e,c,hd,_⟩:=pl
   exact ⟨o,e,hd⟩
  ·refine ⟨⟨o,I.kIn p o hk,hc⟩,fun a e=>?_⟩
   cases e
   exact ⟨o,I.kIn _ o hk,hd⟩
  ·have z:∃ o,s.heap.get? p=some o/\o.ExactDict:=by
    rcases hk with ⟨kvs,hk⟩ | ⟨kvs,hk⟩
    ·obtain ⟨_,_,_,_,o,_,_,e,ex,_⟩:=I.hok p _ hk
     exact ⟨o,e,ex⟩
    ·obtain ⟨_,_,_,_,o,_,_,e,ex,_⟩:=I.hok p _ hk
     exact ⟨o,e,ex⟩
   obtain ⟨o,e,ex⟩:=z
   refine ⟨⟨o,e,ex.1⟩,fun a e2=>?_⟩
   cases e2
   exact ⟨o,e,ex.2.1⟩
  ·obtain ⟨o,_,_,_,e,ex,_⟩:=I.hok p _ hk
   refine ⟨⟨o,e,ex.1⟩,fun a e2=>?_⟩
   cases e2
   exact ⟨o,e,ex.2.1⟩
 | _=>exact False.elim ty
def tBM (K:Frag) (T:String) (r:V->List V->Hp->VK->Prop) (to:TE) (t:TA):TE:=fun σ H Q=>to σ H fun x H1=>tyV K T x H1/\t σ H1 fun xs H2=>r x xs H2 Q
variable {o e:Expr} {es:List Expr} {to:TE} {t:TA} {name:Str} {apos cpos:Pos} {T id:String} {r:V->List V->Hp->VK->Prop}
theorem rS (pa:PlainAttrs T) (slot:Slot T name id) (hty:typeOf (.builtin id)=pure (.type "method_descriptor")) (hm:MtR X id r) (ho:PE X o to) (ha:PA X (e::es) t)
  (hbase:attributeBase o name X.env (eval o X.env)=eval o X.env:=by rfl)
  (hfew:((backTo cpos (starEach (e::es) X.env)).all (fun x=>!x.1)&&(backToKw cpos (keywordEach [] X.env)).all (fun x=>x.1.isSome)
   && decide ((e::es).length+([]:List Keyword).length+(if ([]:List Keyword).isEmpty then 0 else 1)<30))=true:=by rfl)
  (hline:(apos.endLine == cpos.line)=true:=by rfl) (hs:starEach (e::es) X.env=(false,eval e X.env)::starEach es X.env:=by rfl) (hplain:(backTo cpos (starEach es X.env)).any (·.1)=false:=by rfl) :
  PE X (.Call (.Attribute o name apos) (e::es) [] cpos) (tBM X.K T r to t):=by
 intro pins s σ H Q I h
 refine wpAny_Call_method_late hbase hfew hline rfl (thn (ho pins s σ H _ I h) fun v s1 zz42=>?_)
 obtain ⟨x,H1,I1,r1,ty,q1⟩:=zz42
 obtain ⟨h1,h2⟩:=lA I1 r1 ty
 refine ⟨T,id,pa,slot,hty,h1,h2,?_⟩
 have hA:=ha cpos pins s1 σ H1 _ I1 q1
 rw [hs] at hA ⊢
 refine Calls.callWith_builtin (by show (false||(backTo cpos (starEach es X.env)).any (·.1))=false; rw [hplain] <;> rfl) (Calls.evalArgs_plain ?_)
 exact thn hA fun us s2 zz43=>by obtain ⟨vs,H2,I2,r2,q2⟩:=zz43; exact hm pins s2 σ H2 x vs v us Q I2 r1 r2 q2
end
end L2
namespace L2
open PySem PySem.Spec PyProof.Rows
def MtM (X:Cx) (id:String) (r:V->List V->Hp->VK->Prop):Prop:=
 ∀ (pins:List (Addr×Obj)) (s:Shared) (σ:St) (H:Hp) (x:V) (xs:List V) (v:Value) (us:List Value) (Q:VK),Inv X pins σ H s->RelV x v->Vals xs us->r x xs H Q ->
  wpAny (model X.prog X.w) X.A (call (.builtin id) (v::us)) (EP X pins σ Q) X.xe s
theorem Vals.one:∀ {x:V} {us:List Value},Vals [x] us->∃ u,us = [u]/\RelV x u:=by
 intro x us r
 cases r with
 | cons r t=>cases t; exact ⟨_,rfl,r⟩
theorem Vals.reverse {xs:List V} {us:List Value} (h:Vals xs us):Vals xs.reverse us.reverse:=by
 induction h with
 | nil=>exact .nil
 | cons r t ih=>rw [List.reverse_cons,List.reverse_cons]; exact Vals.append ih (.cons r .nil)
theorem Vals.rep {xs:List V} {us:List Value} (h:Vals xs us):∀ k:Nat,Vals (List.replicate k xs).flatten (List.replicate k us).flatten
 | 0=>.nil
 | k+1=>by
  rw [List.replicate_succ,List.replicate_succ,List.flatten_cons,List.flatten_cons]
  exact Vals.append h (Vals.rep h k)
section
variable {X:Cx} {pins:List (Addr×Obj)} {σ:St} {H:Hp} {s:Shared} {l b:Addr} {xs ys zs:List V}
theorem Inv.lset {its its':List Value} {n:Nat} {f:Array Value->Array Value} {t':Nat} (I:Inv X pins σ H s) (hH:H l=some (.lst xs))
  (e:s.heap.get? l=some { cls:=.type "list",data:=.seq its.toArray n }) (hf:f its.toArray=its'.toArray) (hv:Vals ys its') (hz:ys.length<=sizeLine) :
  Inv X pins σ (upd H l (.lst ys)) { s with heap:=s.heap.update l (Obj.mapSeq f),toks:=t' }:=by
 have q:=PySem.IsL.update e f
 rw [hf] at q
 refine I.write (x:=l) (e:=l) (by rw [hH]; exact trivial) (.inl rfl) (fun b' u hb hu=>(Heap.get?_update_other s.heap (Obj.mapSeq f) (Ne.symm hb)).trans hu) ⟨_,q⟩ ?_
 exact ⟨hz,its',_,hv,q⟩
theorem Inv.lnew {its:List Value} {t':Nat} (I:Inv X pins σ H s) (hv:Vals ys its) (hz:ys.length<=sizeLine) :
  Inv X pins σ (upd H s.heap.objs.size (.lst ys)) { s with heap:=s.heap.push { cls:=.type "list",data:=.seq its.toArray },toks:=t' }:=
 I.laid (fun _ _ q=>Heap.get?_push_of_some _ q) (Nat.le_refl _) ⟨hz,its,0,hv,Heap.get?_push_size _ rfl⟩
theorem Inv.fresh (I:Inv X pins σ H s):H s.heap.objs.size=none:=I.hok.fresh (Nat.le_refl _)
theorem Inv.lstM (I:Inv X pins σ H s) (hH:H l=some (.lst xs)):xs.length<=sizeLine/\∃ (its:List Value) (n:Nat),Vals xs its/\xs.length=its.length/\s.heap.get? l=some { cls:=.type "list",data:=.seq its.toArray n }:=by
 obtain ⟨z,its,n,r,e⟩:=I.hok l _ hH
 exact ⟨z,its,n,r,r.length,e⟩
theorem pY {n:Nat} (h:n<=sizeLine):Builtin.List.listTooLong n=false:=by
 unfold Builtin.List.listTooLong
 exact decide_eq_false (by omega)
end
section
variable {X:Cx}
def rAppend:V->List V->Hp->VK->Prop:=fun x vs H Q=>∃ l xs y,x=.ref l/\vs = [y]/\H l=some (.lst xs)/\xs.length<sizeLine/\Q .non (upd H l (.lst (xs ++ [y])))
theorem dO:MtM X "list.append" rAppend:=by
 intro pins s σ H x vs v us Q I rx rv h
 obtain ⟨l,xs,y,rfl,rfl,hH,hz,q⟩:=h
 cases rx
 obtain ⟨u,rfl,ru⟩:=rv.one
 obtain ⟨z,its,n,r,hl,e⟩:=I.lstM hH
 refine call_meets F.slot_list_append ⟨_,e,rfl⟩ F.entry_list_append (F.args_list_append_2 _ _) (PySem.list_append l its.toArray n u (by rw [List.size_toArray]; omega)) ⟨e,?_⟩
 refine ⟨.non,_,I.lset (its':=its ++ [u]) hH e (by simp) (r.append (.cons ru .nil)) ?_,rfl,q⟩
 rw [List.length_append,List.length_singleton]
 omega
def rExtend:V->List V->Hp->VK->Prop:=fun x vs H Q=>∃ l b xs zs,x=.ref l/\vs = [.ref b]/\H l=some (.lst xs)/\H b=some (.lst zs)/\xs.length+zs.length<=sizeLine/\Q .non (upd H l (.lst (xs++zs)))
theorem mZ:MtM X "list.extend" rExtend:=by
 intro pins s σ H x vs v us Q I rx rv h
 obtain ⟨l,b,xs,zs,rfl,rfl,hH,hB,hz,q⟩:=h
 cases rx
 obtain ⟨u,rfl,ru⟩:=rv.one
 cases ru
 obtain ⟨z,its,n,r,hl,e⟩:=I.lstM hH
 obtain ⟨z2,its2,n2,r2,hl2,e2⟩:=I.lstM hB
 have hsz:its.toArray.size+its2.toArray.size<=sizeLine:=by rw [List.size_toArray,List.size_toArray]; omega
 have hlong:¬ (!its.toArray.isEmpty&&Builtin.List.listTooLong (its.toArray.size+its2.toArray.size))=true:=by
  rw [pY hsz,Bool.and_false]
  exact Bool.false_ne_true
 refine call_meets F.slot_list_extend ⟨_,e,rfl⟩ F.entry_list_extend (F.args_list_extend_2 _ _)
  (AutoSeq1.list_extend_list_list_0 l its.toArray n b its2.toArray n2 hlong (by rw [List.size_toArray]; omega) (by omega)) ⟨e,e2,?_⟩
 refine ⟨.non,_,I.lset (its':=its++its2) hH e (by simp) (r.append r2) ?_,rfl,q⟩
 rw [List.length_append]
 omega
def rCat:R2:=fun x y H Q=>∃ l b xs zs,x=.ref l/\y=.ref b/\H l=some (.lst xs)/\H b=some (.lst zs)/\xs.length+zs.length<=sizeLine/\∀ p,H p=none->Q (.ref p) (upd H p (.lst (xs++zs)))
theorem gd:OpR X (binaryOp .Add) rCat:=by
 intro pins s σ H x y v u Q I rx ry h
 obtain ⟨l,b,xs,zs,rfl,rfl,hH,hB,hz,q⟩:=h
 cases rx
 cases ry
 obtain ⟨z,its,n,r,hl,e⟩:=I.lstM hH
 obtain ⟨z2,its2,n2,r2,hl2,e2⟩:=I.lstM hB
 refine PySem.P.add_list e e2 ?_ (by rw [List.size_toArray,List.size_toArray]; omega)
 have ea:its.toArray++its2.toArray=(its++its2).toArray:=by simp
 rw [ea]
 exact ⟨.ref _,_,I.lnew (t':=s.toks) (r.append r2) (by rw [List.length_append]; omega),rfl,q _ I.fresh⟩
end
section
variable {prog:Program} {w:World} {A:Around} {E:Value->Shared->Prop} {s:Shared}
end
section
variable {X:Cx}
end
end L2
namespace Att
open PySem PySem.W PySem.Calls PyProof.Rows
theorem cw {P:Params} {h:Heap}:∀ (ns:List Int) (vs:List Value),WellAll P h vs (ns.map WData.int)->IntsAre vs ns:=by
 intro ns
 induction ns with
 | nil=>
  intro vs w
  rw [List.map_nil] at w
  cases w
  exact .nil
 | cons n ns ih=>
  intro vs w
  rw [List.map_cons] at w
  cases w with
  | cons a b=>
   cases a
   exact .cons _ _ (ih _ b)
theorem lT {l:OpenLaw} {n:Nat} (hn:l.most=some n) {P:Params} {h:Heap} {args:List WData} {vals:List Value}
  (hpre:l.row.toRowW.claim.pre args=true) (hwl:WellAll P h vals args) :
  ∃ a vs ns,vals = [Value.ref a]/\args = [WData.list (ns.map WData.int)]/\h.get? a=some { cls:=.type "list",data:=.seq vs.toArray }/\IntsAre vs ns/\ns.length<=n:=by
 have hsh:WShape.hasAll [] args [.list .int]=true:=(pre_splitW hpre).1
 have hc:l.pre.holds [] { args:=args }=true:=(pre_splitW hpre).2
 obtain ⟨d,r,rfl,h1,h2⟩:=hasAllW_cons hsh
 obtain rfl:=hasAllW_nil h2
 obtain ⟨xs,rfl,h3⟩:=hasW_list h1
 obtain ⟨ns,rfl⟩:=items_int h3
 have hlen:ns.length<=n:=by
  unfold OpenLaw.pre at hc
  have h4:(WTm.not (.lt (.lit (.int (n:Int))) (.len (.arg 0)))).holds [] { args:=[.list (ns.map .int)] }=true:=by
   have h4:=(holds_andW hc).1
   rw [hn] at h4
   exact h4
  have h5:=condW_of h4 (w_not (w_lt w_lit (w_len_list (w_arg rfl))))
  rw [List.length_map] at h5
  refine Nat.le_of_not_lt fun q=>?_
  have q':(n:Int)<((ns.length:Nat):Int):=by omega
  first
   | (rw [decide_eq_true q'] at h5; exact absurd h5 (by decide))
   | (simp at h5; omega)
 cases hwl with
 | cons w1 w2=>
  cases w2
  cases w1 with
  | list ho hall=>exact ⟨_,_,ns,rfl,rfl,ho,cw ns _ hall,hlen⟩
theorem mF (l:OpenLaw) (args:List WData):l.row.toRowW.claim.post args (.bool true) args=true:=
 postW_of (r:=l.row.toRowW) (X:=(true == true))
  (show WShape.has [] (.bool true) .bool=true by first | rfl | decide | simp [WShape.has,WShape.arms,WShape.armsAll])
  (show (WTm.eq .res (.lit (.bool true))).value [] { args:=args,res:=some (.bool true),after:=args }=some (.bool (true == true)) from w_eq_bool (w_res rfl) w_lit) rfl
section
variable {prog:Program} {w:World} {A:Around} {E:Value->Shared->Prop} {s:Shared} {K:Frag}
end
end Att
namespace L2
open PySem PySem.Spec PyProof.Rows
theorem ln:∀ {vs:List Value} {ns:List Int},IntsAre vs ns->Vals (ns.map V.int) vs:=by
 intro vs ns h
 induction h with
 | nil=>exact .nil
 | cons n t h ih=>exact .cons ⟨t,rfl⟩ ih
def iu (H:Hp):Prop:=∀ b,H b=none\/∃ o xs,H b=some (.frz o (.lst xs))
theorem qt {P:Program} {w:World} {K:Frag} {mg mb:Str->Option Value} {CX:CXT} {k:Nat} {fa a:Addr} {fd:FuncData} {x:Str} {sp:Sp} {s₁:Shared} {vs:List Value} {ns:List Int}
  (KX:K.In s₁.heap) (hns:s₁.heap.Ns mainGlobals mg) (hb:s₁.heap.Ns builtinsNs mb) (hbb:∀ x:Str,x ≠ "__name__" -> mb x=bootBuiltins x) (hlim:s₁.heap.NoLimit) (hg:s₁.gens=#[])
  (ha:s₁.heap.get? a=some { cls:=.type "list",data:=.seq vs.toArray }) (hi:IntsAre vs ns) (hl:ns.length<=sizeLine) (hr:Room k callerA)
  (F:∀ base:Heap,K.In base->base.Ns mainGlobals mg->FnOk P w K mg base CX k fa fd [x] sp) (hbind:∀ (s:Shared) (u:Value),BindsTo s fd ⟨[u],[]⟩ [(x,u)])
  (hsp:∀ H:Hp,iu H->SqL K H a (ns.map V.int)->sp [.ref a] H (fun v _=>v=.bl true) fun _ _ _=>False)
  (hCX:∀ H e s',CX [] H s₁ (fun _ _ _=>False) e s'->False) :
  codeAny (model P w) callerA (.call (.ref fa) ⟨[.ref a],[]⟩) (fun r s'=>r=.ok (.ret (.bool true))/\OldK s₁.heap s'.heap/\s'.os=s₁.os/\AllBare s'.gens) s₁:=by
 have rv:=ln hi
 have lenV:=hi.length
 -- from an abstract heap in which nothing but the script may be tracked
 have core:∀ H:Hp,iu H->SqL K H a (ns.map V.int)->HOk P w H s₁.heap->(∀ b,H b≠none->b=a)->(H a≠none->K.lookup a=none) ->
   codeAny (model P w) callerA (.call (.ref fa) ⟨[.ref a],[]⟩) (fun r s'=>r=.ok (.ret (.bool true))/\OldK s₁.heap s'.heap/\s'.os=s₁.os/\AllBare s'.gens) s₁:=by
  intro H hO hS hok hA hK
  have base_of:∀ {b:Addr} {o:Obj},s₁.heap.get? b=some o->H b=none->(X5 s₁.heap H).get? b=some o:=fun e n=>qE e n
  have noA:∀ {b:Addr} {o:Obj} {es:Array DictEntry} {ep:Nat},s₁.heap.get? b=some o->o.data=.dict es ep->H b=none:=fun {b o es ep} e d=>by
   cases q:H b with
   | none=>rfl
   | some u=>
    have e':b=a:=hA b (by rw [q]; simp)
    subst e'
    rw [ha] at e; cases e
    have d':Data.seq vs.toArray _=Data.dict es ep:=d
    cases d'
  have nsK:∀ {b:Addr} {m:Str->Option Value},s₁.heap.Ns b m->(X5 s₁.heap H).Ns b m:=fun {b m} zz44=>by obtain ⟨o,es,ep,e,d,r⟩:=zz44; exact ⟨o,es,ep,base_of e (noA e d),d,r⟩
  have hKb:K.In (X5 s₁.heap H):=fun b o e=>base_of (KX b o e) (by
   cases q:H b with
   | none=>rfl
   | some u=>
    have e':b=a:=hA b (by rw [q]; simp)
    subst e'
    rw [hK (by rw [q]; simp)] at e; cases e)
  have hM:Mod K mg (X5 s₁.heap H):=⟨hKb,nsK hns,⟨mb,nsK hb,hbb⟩,let ⟨mc,h1,h2⟩:=hlim; ⟨mc,nsK h1,h2⟩⟩
  have e0:kY P w K mg (X5 s₁.heap H) callerA [] s₁ H:=⟨rfl,hM,fun b o e=>uH e,Nat.le_of_eq (nE _ _),trivial,fun b hb=>absurd (show b∈([]:List Addr) from hb) (by simp),hok,.of_eq hg⟩
  refine codeAny_mono ((F _ hKb (nsK hns)).run callerA [] s₁ H ⟨[.ref a],[]⟩ [.ref a] [.ref a] _ _ hr e0 (hbind s₁ (.ref a)) (.cons rfl .nil) (hsp H hO hS)) fun r s' h=>?_
  cases r with
  | error e=>exact (hCX H e s' h).elim
  | ok fl=>
   cases fl with
   | next=>exact False.elim h
   | brk=>exact False.elim h
   | cont=>exact False.elim h
   | ret u=>
    obtain ⟨v,H',os,bare,un,hok',r',q⟩:=h
    have q':v=.bl true:=q
    subst q'
    obtain rfl:u=Value.bool true:=r'
    refine ⟨rfl,OldK.of_keep fun b o e=>?_,os,bare⟩
    cases q:H b with
    | none=>exact un.keep b o e q (by intro z; exact absurd (show b∈([]:List Addr) from z) (by simp)) (by simp)
    | some u=>
     rcases hO b with z | ⟨ob,xs,z⟩
     ·rw [q] at z; cases z
     ·have z2:=un.frzs b ob _ z
      obtain ⟨e1,_⟩:=hok b _ z
      obtain ⟨e2,_⟩:=hok' b _ z2
      rw [e] at e1; cases e1
      exact e2
 cases hk:K.lookup a with
 | some o=>
  -- the script is one of the module's own objects
  have e:=KX a o hk
  rw [ha] at e
  cases e
  refine core (fun _=>none) (fun _=>.inl rfl) (.inr ⟨_,vs.toArray,_,hk,rfl,rfl,rfl,by rw [List.size_toArray,lenV]; exact hl,by simpa using rv⟩) (fun b u z=>by have z':(none:Option HO)=some u:=z; cases z') (fun b z=>absurd rfl z) fun z=>absurd rfl z
 | none=>
  refine core (fun b=>if b=a then some (.frz { cls:=.type "list",data:=.seq vs.toArray } (.lst (ns.map V.int))) else none) (fun b=>?_) (.inl (.inr ⟨{ cls:=.type "list",data:=.seq vs.toArray },if_pos rfl⟩)) (fun b u z=>?_) (fun b z=>?_) fun _=>hk
  ·by_cases hb:b=a
   ·exact .inr ⟨_,_,if_pos hb⟩
   ·exact .inl (if_neg hb)
  ·by_cases hb:b=a
   ·have z':=(if_pos hb).symm.trans z
    cases z'
    subst hb
    exact ⟨ha,by rw [List.length_map]; exact hl,vs,_,rv,ha⟩
   ·have z':=(if_neg hb).symm.trans z
    cases z'
  ·by_cases hb:b=a
   ·exact hb
   ·exact absurd (if_neg hb) z
end L2
namespace L2
open PySem PySem.Spec PyProof.Rows
end L2
namespace L2
open PySem PySem.Spec PyProof.Rows
def L7 (s:Stmt):Arguments:=match s with
 | .FunctionDef _ a _ _ _ _ _ _ _ _=>a
 | _=>{ posonlyargs:=[],args:=[],vararg:=none,kwonlyargs:=[],kw_defaults:=[],kwarg:=none,defaults:=[] }
def B5 (s:Stmt):List Stmt:=match s with
 | .FunctionDef _ _ b _ _ _ _ _ _ _=>b
 | _=>[]
def b7 (s:Stmt):Scope:=match s with
 | .FunctionDef _ _ _ _ _ _ sc _ _ _=>sc
 | _=>{ kind:=.function,names:=[],isGenerator:=false,isCoroutine:=false }
abbrev CX0:CXT:=fun _ _ _ _ _ _=>False
abbrev E0:XK:=fun _ _ _=>False
theorem kh {X:Cx}:iq CX0 X E0:=fun _ _ _ _ _ _ _ h=>h.elim
structure Fun (K:Frag) (x qual:Str) (st:Stmt) (f:Addr) (fd:FuncData):Prop where
 ex:∃ (oc:Value) (od:Option Addr) (kV doc pm:Value) (an:Option Addr) (cdv ct:Value) (osl:Array (Option Value)),
  fd=PySem.W.fnOf x qual (L7 st) (B5 st) (b7 st) .none kV doc pm an cdv ct/\K.lookup f=some ⟨oc,od,.func fd,osl⟩/\PySem.W.codeIn K cdv qual=true
 kp:PySem.W.keepIn K (.ref f)=true
section
variable {P:Program} {w:World} {K:Frag} {mg:Str->Option Value} {base:Heap}
theorem Fun.ok {x qual:Str} {st:Stmt} {f:Addr} {fd:FuncData} {N ps:List Str} {k:Nat} {sp:Sp} (F:Fun K x qual st f fd) (S:e7 N ps (b7 st)) (len:∀ vs H Q E,sp vs H Q E->vs.length=ps.length)
  (hbody:∀ (cdv:Value) (A:Around) (outer:List Env) (s:Shared) (H:Hp) (vs:List V) (Q:VK) (E:XK),Room k (A.deeper (envOfC qual (b7 st) s.heap.objs.size f cdv))->sp vs H Q E ->
   ∃ t,PSs (X7 CX0 P w K mg base N qual (b7 st) f cdv A outer s H E).nox (B5 st) t/\t { nx:=fun _ H'=>Q .non H',rt:=Q } (start N vs) H):FnOk P w K mg base CX0 (k+1) f fd ps sp:=by
 obtain ⟨oc,od,kV,doc,pm,an,cdv,ct,osl,rfl,lk,hcd⟩:=F.ex
 refine Cp lk hcd S len fun A outer s H vs Q E hr hsp=>?_
 obtain ⟨t,h,q⟩:=hbody cdv A outer s H vs Q E hr hsp
 exact ⟨t,h.nox,q⟩
theorem Fun.binds {x qual:Str} {st:Stmt} {f:Addr} {fd:FuncData} {ps:List Str} (F:Fun K x qual st f fd)
  (h:∀ (kV doc pm:Value) (an:Option Addr) (cdv ct:Value) (us:List Value),us.length=ps.length->bindArgs (PySem.W.fnOf x qual (L7 st) (B5 st) (b7 st) .none kV doc pm an cdv ct) ⟨us,[]⟩=pure (ps.zip us)):Binds K fd ps []:=by
 obtain ⟨oc,od,kV,doc,pm,an,cdv,ct,osl,rfl,lk,hcd⟩:=F.ex
 exact .all (h kV doc pm an cdv ct)
theorem zV {x qual:Str} {st:Stmt} {f:Addr} {oc:Value} {od an:Option Addr} {osl:Array (Option Value)} {kV doc pm cdv ct:Value} (l:K.lookup f=some ⟨oc,od,.func (PySem.W.fnOf x qual (L7 st) (B5 st) (b7 st) .none kV doc pm an cdv ct),osl⟩)
  (c:PySem.W.codeIn K cdv qual=true) (k:PySem.W.keepIn K (.ref f)=true):Fun K x qual st f (PySem.W.fnOf x qual (L7 st) (B5 st) (b7 st) .none kV doc pm an cdv ct):=⟨⟨oc,od,kV,doc,pm,an,cdv,ct,osl,rfl,l,c⟩,k⟩
end
section
variable {X:Cx}
end
def Same (H H':Hp):Prop:=∀ b o,H b=some o->H' b=some o
theorem Same.refl (H:Hp):Same H H:=fun _ _ h=>h
theorem Same.trans {H H1 H2:Hp} (a:Same H H1) (b:Same H1 H2):Same H H2:=fun c o h=>b c o (a c o h)
theorem Same.free {H H':Hp} (e:Same H H') {l:Addr} (h:H' l=Option.none):H l=Option.none:=by
 cases q:H l with
 | none=>rfl
 | some o=>
  rw [e l o q] at h
  cases h
theorem Same.seq {K:Frag} {H H':Hp} {a:Addr} {xs:List V} (e:Same H H') (h:SqL K H a xs):SqL K H' a xs:=by
 rcases h with (h | ⟨o,h⟩) | h
 ·exact .inl (.inl (e _ _ h))
 ·exact .inl (.inr ⟨o,e _ _ h⟩)
 ·exact .inr h
end L2
namespace L2
open PySem PySem.Spec PyProof.Rows
def Dk (h h':Heap):Prop:=∀ b o,h.get? b=some o->∃ o',h'.get? b=some o'/\o'.cls=o.cls/\o'.dict=o.dict
structure KD {α:Type} (t:Sem α):Prop where
 out:∀ (M:Model) (Γ:PySem.Ctx) (P:α->Pos->Shared->Prop) (Ee:Value->Pos->Shared->Prop) (p:Pos) (s:Shared),
  Sem.wp M Γ t P Ee p s->Sem.wp M Γ t (fun a p' s'=>P a p' s'/\Dk s.heap s'.heap) Ee p s
def cut (h:Heap) (fs:List Addr):Heap:={ h with objs:=h.objs.mapIdx fun i o=>if i∈fs then { o with data:=.freed } else o }
structure Dj (P:Program) (w:World) (outer:List Env) (H:Hp) (s:Shared) (a:Addr) (B:Heap) (H':Hp) (cls:Value) (od:Option Addr) (s':Shared):Prop where
 fl:∃ a0,B.FlyingW outer a cls a0 s'.heap
 dict:∃ o,s'.heap.get? a=some o/\o.dict=od
 os:s'.os=s.os
 bare:AllBare s'.gens
 un:Un (frs outer) [] H H' s.heap s'.heap
 hok:HOk P w H' s'.heap
 inB:∀ b o,H' b=some o->∃ ob,B.get? b=some ob
 all:∀ b o,s.heap.get? b=some o->b∉frs outer->∃ o',B.get? b=some o'
def CXW (P:Program) (w:World):CXT:=fun outer H s E e s'=>∃ a B H' cls od,e=.ref a/\Dj P w outer H s a B H' cls od s'/\E cls od H'
section
variable {P:Program} {w:World} {K:Frag} {mg:Str->Option Value} {base:Heap} {N:List Str} {qual:Str} {scope:Scope} {f:Addr} {cd:Value} {A:Around} {outer:List Env} {s:Shared} {H:Hp} {E:XK}
 {pins:List (Addr×Obj)} {σ:St} {H':Hp} {s2:Shared} {a:Addr}
end
end L2
namespace L2
open PySem PySem.Spec PyProof.Rows
section
variable {prog:Program} {w:World} {A:Around} {E:Value->Shared->Prop} {s:Shared} {K:Frag} {x C:Addr} {ox:Obj} {od:Option Obj} {name:Str} {tk:Tok} {fill expr:Bool} {v:Value} {Q:Value->Shared->Prop}
end
end L2
namespace L2
open PySem PySem.Spec PyProof.Rows
section
variable {prog:Program} {w:World} {A:Around} {E:Value->Shared->Prop} {s:Shared} {K:Frag} {x C:Addr} {ox:Obj} {name:Str} {tk:Tok} {v:Value} {Q:Unit->Shared->Prop}
end
end L2
namespace L2
open PySem PySem.Spec PyProof.Rows
section
variable {prog:Program} {w:World} {A:Around} {s:Shared} {K:Frag} {C f:Addr} {R:Result->Shared->Prop} {nm q:Str} {N:Addr} {bs bm bmB:List Value} {hdct:Bool} {sn:List Str} {sub:List Value} {ab:Bool} {col:Option Bool} {dd:Option Addr} {k0 k1 k2 k3 k5:Option Value}
 {B Bn newId nid initId inN:String} {bmN:List Value} {rest:List Value}
end
end L2
namespace L2
open PySem PySem.Spec PyProof.Rows
section
variable {prog:Program} {w:World} {A:Around} {E:Value->Shared->Prop} {s:Shared} {K:Frag} {env:Env} {x:Expr} {pos:Pos} {Q:Flow->Shared->Prop}
end
end L2
namespace L2
open PySem PySem.Spec PyProof.Rows
section
variable {X:Cx} {pins:List (Addr×Obj)} {σ σ':St} {H:Hp} {s:Shared}
end
end L2
namespace L2
open PySem PySem.Spec PyProof.Rows
section
variable {X:Cx} {pins:List (Addr×Obj)} {σ:St} {H H':Hp} {s s1:Shared}
end
end L2
namespace L2
open PySem PySem.Spec PyProof.Rows
section
variable {X:Cx} {pins:List (Addr×Obj)} {σ:St} {H H':Hp} {s s1:Shared} {a:Addr} {B:Heap} {cls:Value} {od:Option Addr}
structure Here (X:Cx) (pins:List (Addr×Obj)) (σ:St) (H':Hp) (a:Addr) (B:Heap) (cls:Value) (od:Option Addr) (s:Shared):Prop where
 inv:Inv X pins σ H' s
 dict:∃ o,s.heap.get? a=some o/\o.dict=od
end
end L2
namespace L2
open PySem PySem.Spec PyProof.Rows
section
variable {X:Cx} {k:Nat} {f:Addr} {fd:FuncData} {ps:List Str} {sp:Sp} {fn cn n y:Str} {fp cp ap np hpos yp pos:Pos} {e:Expr} {es:List Expr} {t:TA} {C:Addr} {i jn:Nat} {b0:Stmt} {suite:List Stmt} {tb:TS}
def tCatch (X:Cx) (C:Addr) (jn:Nat) (tb:TS) (D:Ends) (σ:St):XK:=fun cls od H'=>∃ Dc,cls=.ref Dc/\PySem.W.exmOne X.K (.ref Dc) (.ref C)=some true /\
 ∀ (a:Addr) (o:Obj),H' a=none->o.cls=cls->o.dict=od->(∃ vs:Array Value,o.data=.fields vs) ->
  tb { nx:=fun σ' H'=>D.nx (σ'.set jn none) H',rt:=D.rt,bk:=fun σ' H'=>D.bk (σ'.set jn none) H',ct:=fun σ' H'=>D.ct (σ'.set jn none) H' } (σ.set jn (some (.ref a))) (upd H' a (.ext fun h=>h.get? a=some o))
end
end L2
namespace L2
open PySem PySem.Spec PyProof.Rows
section
variable {X:Cx} {pins:List (Addr×Obj)} {σ:St} {H:Hp} {s:Shared}
end
end L2
namespace L2
open PySem PySem.Spec PyProof.Rows
section
variable {X:Cx}
end
end L2
namespace L2
open PySem PySem.Spec PyProof.Rows
section
variable {X:Cx} {pins:List (Addr×Obj)} {σ:St} {H:Hp} {s:Shared}
end
end L2
namespace L2
open PySem PySem.Spec PyProof.Rows
section
variable {P:Program} {w:World} {K:Frag} {mg:Str->Option Value} {base:Heap} {N:List Str} {qual:Str} {scope:Scope} {f0:Addr} {cd:Value} {A:Around} {outer:List Env} {s0:Shared} {H0:Hp} {E:XK}
 {k:Nat} {C f:Addr} {fd:FuncData} {ps:List Str} {sp:Sp} {cn:Str} {np cp pos:Pos} {e:Expr} {es:List Expr} {t:TA}
end
end L2
namespace L2
open PySem PySem.Spec PyProof.Rows
section
variable {P:Program} {w:World} {K:Frag} {mg:Str->Option Value} {base:Heap} {k:Nat} {f:Addr} {fd:FuncData} {ps N:List Str} {sp:Sp} {CX:CXT}
end
end L2
namespace L2
open PySem PySem.Spec PyProof.Rows
section
variable {X:Cx} {o:Expr} {ta:TE} {name:Str} {pos:Pos}
end
end L2
namespace L2
open PySem PySem.Spec PyProof.Rows
section
variable {X:Cx} {pins:List (Addr×Obj)} {σ:St} {H:Hp} {s:Shared} {A:Around} {E:Value->Shared->Prop} {Q:Value->Shared->Prop} {c:Value} {b:Bool} {a C:Addr} {ox:Obj} {vs:Array Value}
end
end L2
namespace L2
open PySem PySem.Spec PyProof.Rows
section
variable {P:Program} {w:World} {K:Frag} {mg:Str->Option Value} {base:Heap} {N:List Str} {qual:Str} {scope:Scope} {f0:Addr} {cd:Value} {A:Around} {outer:List Env} {s0:Shared} {H0:Hp} {E:XK}
 {C:Addr} {cn:Str} {np cp pos:Pos} {e:Expr} {es:List Expr} {t:TA}
end
end L2
namespace L2
open PySem
structure Nx {α:Type} (t:Sem α):Prop where
 out:∀ (M:Model) (Γ:PySem.Ctx) (P:α->Pos->Shared->Prop) (Ee Ef:Value->Pos->Shared->Prop) (p:Pos) (s:Shared),Sem.wp M Γ t P Ee p s->Sem.wp M Γ t P Ef p s
structure Po {α:Type} (t:Sem α) (pre:Shared->Prop) (post:α->Shared->Prop):Prop where
 out:∀ (M:Model) (Γ:PySem.Ctx) (P:α->Pos->Shared->Prop) (Ee Ef:Value->Pos->Shared->Prop) (p:Pos) (s:Shared),
  pre s->Sem.wp M Γ t P Ee p s->Sem.wp M Γ t (fun a p' s'=>P a p' s'/\post a s') Ef p s
def sI (v:Value) (i:Nat) (x:Value) (h:Heap):Prop:=∃ (a:Addr) (o:Obj) (vs:Array Value),v=.ref a/\h.get? a=some o/\o.data=.fields vs/\vs[i]?=some x
def Marked (e:Value) (f:Addr) (h:Heap):Prop:=∃ t,sI e 1 t h/\sI t 3 (rawInt f) h/\t≠.none
structure Free {α:Type} (t:Sem α):Prop where
 out:∀ (M:Model) (Γ Γ':PySem.Ctx) (P P':α->Pos->Shared->Prop) (E E':Value->Pos->Shared->Prop) (p p':Pos) (s:Shared),(∀ a p p' s,P a p s->P' a p' s)->(∀ a p p' s,E a p s->E' a p' s)->Sem.wp M Γ t P E p s->Sem.wp M Γ' t P' E' p' s
end L2
namespace L2
open PySem PySem.Spec PyProof.Rows
section
variable {X:Cx} {k:Nat} {f:Addr} {fd:FuncData} {ps:List Str} {sp:Sp} {fn cn n y:Str} {fp cp ap np hpos yp pos:Pos} {e:Expr} {es:List Expr} {t:TA} {C:Addr} {i jn:Nat} {b0:Stmt} {suite:List Stmt} {tb:TS}
end
end L2
namespace L2
open PySem PySem.Spec PyProof.Rows
section
variable {X:Cx} {k:Nat} {C f:Addr} {fd:FuncData} {ps:List Str} {sp:Sp} {cn:Str} {np cp pos:Pos} {e:Expr} {es:List Expr} {t:TA}
end
end L2
namespace L2
open PySem PySem.Spec PyProof.Rows
section
variable {κ:Type} [DecidableEq κ]
def P8 (kvs:List (κ×V)) (k:κ):Option V:=(kvs.find? fun kv=>decide (kv.1=k)).map (·.2)
def putK (kvs:List (κ×V)) (k:κ) (v:V):List (κ×V):=
 if (kvs.any fun kv=>decide (kv.1=k))=true then kvs.map (fun kv=>if kv.1=k then (kv.1,v) else kv) else kvs ++ [(k,v)]
def dropK (kvs:List (κ×V)) (k:κ):List (κ×V):=kvs.filter fun kv=>decide (kv.1≠k)
theorem aY {p:κ×V} {r:List (κ×V)} {k:κ} (e:p.1=k):P8 (p::r) k=some p.2:=by simp [P8,List.find?_cons,e]
theorem aZ {p:κ×V} {r:List (κ×V)} {k:κ} (e:¬ p.1=k):P8 (p::r) k=P8 r k:=by simp [P8,List.find?_cons,e]
theorem ba (k:κ):∀ kvs:List (κ×V),(kvs.any fun kv=>decide (kv.1=k))=(P8 kvs k).isSome
 | []=>rfl
 | p::r=>by
  rw [List.any_cons]
  by_cases e:p.1=k
  ·simp only [aY e,decide_eq_true e,Bool.true_or,Option.isSome_some]
  ·rw [aZ e,decide_eq_false e,Bool.false_or]; exact ba k r
theorem aT (kvs:List (κ×V)) (k:κ) (v:V):(putK kvs k v).length<=kvs.length+1:=by
 unfold putK
 split
 ·rw [List.length_map]; omega
 ·rw [List.length_append,List.length_cons,List.length_nil]; omega
theorem RelO.isSome_eq {o:Option V} {u:Option Value} (r:RelO o u):o.isSome=u.isSome:=by
 cases o with
 | none=>cases u with
  | none=>rfl
  | some _=>exact (show False from r).elim
 | some _=>cases u with
  | none=>exact (show False from r).elim
  | some _=>rfl
theorem KV.val {kvs:List (κ×V)} {vs:List (κ×Value)} (r:KV kvs vs) (k:κ):RelO (P8 kvs k) (valueAt vs k):=by
 unfold KV at r
 induction r with
 | nil=>exact True.intro
 | @cons p q ps qs h t ih=>
  obtain ⟨h1,h2⟩:=h
  by_cases e:p.1=k
  ·have e':q.1=k:=h1.symm.trans e
   have b:valueAt (q::qs) k=some q.2:=by simp [valueAt,List.find?_cons,e']
   rw [aY e,b]; exact h2
  ·have e':¬ q.1=k:=fun z=>e (h1.trans z)
   have b:valueAt (q::qs) k=valueAt qs k:=by simp [valueAt,List.find?_cons,e']
   rw [aZ e,b]; exact ih
theorem KV.any {kvs:List (κ×V)} {vs:List (κ×Value)} (r:KV kvs vs) (k:κ):(kvs.any fun kv=>decide (kv.1=k))=vs.any fun kv=>decide (kv.1=k):=by
 unfold KV at r
 induction r with
 | nil=>rfl
 | cons h t ih=>rw [List.any_cons,List.any_cons,ih,h.1]
theorem KV.repl {kvs:List (κ×V)} {vs:List (κ×Value)} (r:KV kvs vs) (k:κ) {y:V} {u:Value} (ry:RelV y u) :
  KV (kvs.map fun kv=>if kv.1=k then (kv.1,y) else kv) (vs.map fun kv=>if kv.1=k then (kv.1,u) else kv):=by
 unfold KV at r ⊢
 induction r with
 | nil=>exact .nil
 | @cons p q ps qs h t ih=>
  rw [List.map_cons,List.map_cons]
  refine .cons ?_ ih
  obtain ⟨h1,h2⟩:=h
  by_cases e:p.1=k
  ·rw [if_pos e,if_pos (h1.symm.trans e)]; exact ⟨h1,ry⟩
  ·rw [if_neg e,if_neg (fun z=>e (h1.trans z))]; exact ⟨h1,h2⟩
theorem KV.put {kvs:List (κ×V)} {vs:List (κ×Value)} (r:KV kvs vs) (k:κ) {y:V} {u:Value} (ry:RelV y u):KV (putK kvs k y) (stored vs k u):=by
 unfold putK stored
 rw [r.any k]
 by_cases e:(vs.any fun kv=>decide (kv.1=k))=true
 ·rw [if_pos e,if_pos e]; exact r.repl k ry
 ·rw [if_neg e,if_neg e]; exact Paired.snoc r ⟨rfl,ry⟩
theorem KV.length {kvs:List (κ×V)} {vs:List (κ×Value)} (r:KV kvs vs):kvs.length=vs.length:=Paired.length r
end
theorem kF {P:Program} {w:World} {k:Key} {u:Value} (r:RelV (kV k) u):(q4 P w).is k u=true:=by
 cases k with
 | inl i=>obtain ⟨t,e⟩:=(show ∃ t,u=Value.int i t from r); subst e; exact iD P w i t
 | inr x=>obtain ⟨t,e⟩:=(show ∃ t,u=Value.str x t from r); subst e; exact iC P w x t
theorem dW {P:Program} {w:World}:∀ {ks:List Key} {us:List Value},Vals (ks.map kV) us->ItemsAre (q4 P w) ks us
 | [],_,r=>by rw [List.map_nil] at r; cases r; exact .nil
 | k::ks,_,r=>by
  rw [List.map_cons] at r
  cases r with
  | cons h t=>exact .cons (kF h) (dW t)
abbrev KT (H:Hp):List (List Key×V)->List (List Key×Addr×Value)->Prop:=Paired fun p q=>p.1=q.1/\H q.2.1=some (.tup (p.1.map kV))/\RelV p.2 q.2.2
theorem KT.val {H:Hp} {kvs:List (List Key×V)} {xs:List (List Key×Addr×Value)} (r:KT H kvs xs) (k:List Key):RelO (P8 kvs k) ((atKey xs k).map (·.2)):=by
 induction r with
 | nil=>exact True.intro
 | @cons p q ps qs h t ih=>
  obtain ⟨h1,_,h2⟩:=h
  by_cases e:p.1=k
  ·have e':q.1=k:=h1.symm.trans e
   have b:atKey (q::qs) k=some q.2:=by simp [atKey,List.find?_cons,e']
   rw [aY e,b]; exact h2
  ·have e':¬ q.1=k:=fun z=>e (h1.trans z)
   have b:atKey (q::qs) k=atKey qs k:=by simp [atKey,List.find?_cons,e']
   rw [aZ e,b]; exact ih
theorem KT.repl {H:Hp} {kvs:List (List Key×V)} {xs:List (List Key×Addr×Value)} (r:KT H kvs xs) (k:List Key) {y:V} {u:Value} (ry:RelV y u) :
  KT H (kvs.map fun kv=>if kv.1=k then (kv.1,y) else kv) (xs.map (putAt k u)):=by
 induction r with
 | nil=>exact .nil
 | @cons p q ps qs h t ih=>
  rw [List.map_cons,List.map_cons]
  refine .cons ?_ ih
  obtain ⟨h1,h2,h3⟩:=h
  unfold putAt
  by_cases e:p.1=k
  ·rw [if_pos e,if_pos (h1.symm.trans e)]; exact ⟨h1,h2,ry⟩
  ·rw [if_neg e,if_neg (fun z=>e (h1.trans z))]; exact ⟨h1,h2,h3⟩
theorem KT.put {H:Hp} {kvs:List (List Key×V)} {xs:List (List Key×Addr×Value)} (r:KT H kvs xs) (k:List Key) {b:Addr} {y:V} {u:Value} (hb:H b=some (.tup (k.map kV))) (ry:RelV y u) :
  KT H (putK kvs k y) (storedH xs k b u):=by
 have e:(kvs.any fun kv=>decide (kv.1=k))=(atKey xs k).isSome:=by
  rw [ba,(r.val k).isSome_eq,Option.isSome_map]
 unfold putK storedH
 rw [e]
 by_cases q:(atKey xs k).isSome=true
 ·rw [if_pos q,if_pos q]; exact r.repl k ry
 ·rw [if_neg q,if_neg q]; exact Paired.snoc r ⟨rfl,hb,ry⟩
theorem KT.keeps {H H':Hp} {kvs:List (List Key×V)} {xs:List (List Key×Addr×Value)} (r:KT H kvs xs) (ht:∀ b ys,H b=some (.tup ys)->H' b=some (.tup ys)):KT H' kvs xs:=
 Paired.mapP r fun _ _ z=>⟨z.1,ht _ _ z.2.1,z.2.2⟩
section
variable {P:Program} {w:World} {H:Hp} {h:Heap} {a:Addr}
theorem rM {u:HO} (ok:HOk P w H h) (e:Rd H a u):ObjOk P w H h a u:=e.ok ok
theorem sr {kvs:List (Key×V)} (ok:HOk P w H h) (e:Rd H a (.dK kvs)):kvs.length<=sizeLine/\(a == sysModules)=false/\∃ vs,KV kvs vs/\h.DictOf (q4 P w) a vs:=
 show ObjOk P w H h a (.dK kvs) from rM ok e
theorem Cw {kvs:List (Key×V)} (ok:HOk P w H h) (e:H a=some (.dK kvs)):kvs.length<=sizeLine/\(a == sysModules)=false/\∃ vs,KV kvs vs/\h.DictOf (q4 P w) a vs:=sr ok (.inl e)
theorem cv {ks:List Key} (ok:HOk P w H h) (e:H a=some (.tup (ks.map kV))):(tupleKind (q4 P w)).is h ks a:=by
 obtain ⟨_,its,r,o,h1,h2,n,h3⟩:=(show ObjOk P w H h a (.tup (ks.map kV)) from ok a _ e)
 exact ⟨o,its.toArray,n,h1,h2,h3,by simpa using dW r⟩
theorem sk {kvs:List (List Key×V)} (ok:HOk P w H h) (e:Rd H a (.dT kvs)):kvs.length<=sizeLine/\(a == sysModules)=false /\
  ∃ xs,KT H kvs xs/\h.DictOfH (tupleKind (q4 P w)) a xs:=by
 obtain ⟨z,y,xs,r,o,es,ep,h1,h2,h3,h4,h5⟩:=(show ObjOk P w H h a (.dT kvs) from rM ok e)
 refine ⟨z,y,xs,r,o,es,ep,h1,h2,h3,h4,fun x hx=>?_,h5⟩
 have all:∀ {l:List (List Key×V)} {m:List (List Key×Addr×Value)},KT H l m->∀ x∈m,(tupleKind (q4 P w)).is h x.1 x.2.1:=by
  intro l m q
  induction q with
  | nil=>intro x hx; exact nomatch hx
  | @cons p q ps qs hq t ih=>
   intro x hx
   rcases List.mem_cons.mp hx with e | hx
   ·subst e
    exact cv ok (by rw [<- hq.1]; exact hq.2.1)
   ·exact ih x hx
 exact all r x hx
theorem so {kvs:List (List Key×V)} (ok:HOk P w H h) (e:H a=some (.dT kvs)):kvs.length<=sizeLine/\(a == sysModules)=false /\
  ∃ xs,KT H kvs xs/\h.DictOfH (tupleKind (q4 P w)) a xs:=sk ok (.inl e)
end
def DGet (H:Hp) (a:Addr) (y:V) (r:Option V):Prop:=
 (∃ kvs k,Rd H a (.dK kvs)/\y=kV k/\r=P8 kvs k)\/∃ kvs k b,Rd H a (.dT kvs)/\y=.ref b/\H b=some (.tup (k.map kV))/\r=P8 kvs k
def DPut (H:Hp) (a:Addr) (y v:V) (H':Hp):Prop:=
 (∃ kvs k,H a=some (.dK kvs)/\y=kV k/\kvs.length<sizeLine/\H'=upd H a (.dK (putK kvs k v))) \/
 ∃ kvs k b,H a=some (.dT kvs)/\y=.ref b/\H b=some (.tup (k.map kV))/\kvs.length<sizeLine/\H'=upd H a (.dT (putK kvs k v))
theorem DGet.t {H:Hp} {a b:Addr} {kvs:List (List Key×V)} {k:List Key} (e:H a=some (.dT kvs)) (eb:H b=some (.tup (k.map kV))):DGet H a (.ref b) (P8 kvs k):=.inr ⟨kvs,k,b,.inl e,rfl,eb,rfl⟩
theorem DPut.t {H:Hp} {a b:Addr} {kvs:List (List Key×V)} {k:List Key} {v:V} (e:H a=some (.dT kvs)) (eb:H b=some (.tup (k.map kV))) (hl:kvs.length<sizeLine) :
  DPut H a (.ref b) v (upd H a (.dT (putK kvs k v))):=.inr ⟨kvs,k,b,e,rfl,eb,hl,rfl⟩
section
variable {X:Cx} {pins:List (Addr×Obj)} {σ:St} {H:Hp} {s:Shared} {a:Addr} {y v:V} {u r:Value} {o:Option V} {A:Around} {E:Value->Shared->Prop}
theorem Inv.big (I:Inv X pins σ H s):sysModules<s.heap.objs.size:=by
 have h:mainGlobals<s.heap.objs.size:=(I.mod.glob.keeps I.bk).lt
 exact Nat.lt_trans (by decide) h
theorem d_in {Q:Value->Shared->Prop} (hu:A.units+1<cLine) (I:Inv X pins σ H s) (g:DGet H a y o) (ry:RelV y u) (h:∀ s',Inv X pins σ H s'->Q (.bool o.isSome) s') :
  wpAny (model X.prog X.w) A (compareOp .In u (.ref a)) Q E s:=by
 rcases g with ⟨kvs,k,e,ey,l⟩ | ⟨kvs,k,b,e,ey,eb,l⟩
 ·subst ey
  obtain ⟨z,hd,vs,rel,dd⟩:=sr I.hok e
  refine wpAny_in_of (kF ry) hd dd.mapOf ?_
  rw [<- (rel.val k).isSome_eq,<- l]
  exact h _ (I.tok _)
 ·subst ey
  cases (show u=Value.ref b from ry)
  obtain ⟨z,hd,xs,rel,dd⟩:=sk I.hok e
  refine wpAny_in_heap (tupleKind_room_in1 hu) (cv I.hok eb) hd dd ?_
  have q:=(rel.val k).isSome_eq
  rw [Option.isSome_map] at q
  rw [<- q,<- l]
  exact h _ (I.tok _)
theorem dz {h':Heap} {t':Nat} {ob:HO} (I:Inv X pins σ H s) (mu:Mut (H a)) (hs:Heap.SameBut a s.heap h') (he:∃ q,h'.get? a=some q) (new:ObjOk X.prog X.w (upd H a ob) h' a ob) :
  Inv X pins σ (upd H a ob) { s with heap:=h',toks:=t' }:=
 I.write (x:=a) (e:=a) mu (.inl rfl) (fun b q hb z=>(hs.2 b hb).trans z) he new
theorem AA {P:Program} {w:World} {H':Hp} {h':Heap} {kvs:List (Key×V)} {vs:List (Key×Value)} (z:kvs.length<=sizeLine) (hd:(a == sysModules)=false) (rel:KV kvs vs) (dd:h'.DictOf (q4 P w) a vs) :
  ObjOk P w H' h' a (.dK kvs):=⟨z,hd,vs,rel,dd⟩
theorem nR {H':Hp} {Q:Unit->Shared->Prop} (hu:A.units+1<cLine) (I:Inv X pins σ H s) (g:DPut H a y v H') (ry:RelV y u) (rv:RelV v r) (h:∀ s',Inv X pins σ H' s'->Q () s') :
  wpAny (model X.prog X.w) A (setItem (.ref a) u r) Q E s:=by
 rcases g with ⟨kvs,k,e,ey,l,eH⟩ | ⟨kvs,k,b,e,ey,eb,l,eH⟩
 ·subst ey eH
  obtain ⟨z,hd,vs,rel,dd⟩:=Cw I.hok e
  have hz:vs.length<=sizeLine:=by rw [<- rel.length]; exact z
  have hl:(putK kvs k v).length<=sizeLine:=by have:=aT kvs k v; omega
  refine wpAny_setItem_pairs (hsz:=hz) (kF ry) dd fun h' dd' hs=>h _ ?_
  have he:∃ q,h'.get? a=some q:=let ⟨q,_,_,hq,_⟩:=dd'; ⟨q,hq⟩
  exact dz I (by rw [e]; exact True.intro) hs he (AA hl hd (rel.put k rv) dd')
 ·subst ey eH
  cases (show u=Value.ref b from ry)
  obtain ⟨z,hd,xs,rel,dd⟩:=so I.hok e
  have hz:xs.length<=sizeLine:=by rw [<- Paired.length rel]; exact z
  have hl:(putK kvs k v).length<=sizeLine:=by have:=aT kvs k v; omega
  refine wpAny_setItem_heap (hsz:=hz) (tupleKind_room_in1 hu) (cv I.hok eb) dd fun h' dd' hs=>h _ ?_
  obtain ⟨q,es,ep,hq,h2,h3,h4,_,h5⟩:=dd'
  refine dz I (by rw [e]; exact True.intro) hs ⟨q,hq⟩ ⟨hl,hd,_,(rel.put k eb rv).keeps fun c ys ec=>?_,q,es,ep,hq,h2,h3,h4,h5⟩
  rw [b9 (rT ec e (fun z=>nomatch z))]
  exact ec
end
section
variable {X:Cx} {pins:List (Addr×Obj)} {σ:St} {H:Hp} {s:Shared} {a:Addr} {kvs:List (Key×V)} {k:Key} {u:Value} {A:Around} {E:Value->Shared->Prop}
end
def wP (ty td:TE):TE:=fun σ H Q=>ty σ H fun y H1=>td σ H1 fun x H2=>∃ a o,x=.ref a/\DGet H2 a y o/\Q (.bl o.isSome) H2
def rG (td ty tv:TE):TS:=fun D σ H=>tv σ H fun v H1=>td σ H1 fun x H2=>ty σ H2 fun y H3=>∃ a H4,x=.ref a/\DPut H3 a y v H4/\D.nx σ H4
section
variable {X:Cx} {o i e value:Expr} {pos pos' tpos:Pos} {td ty tv:TE}
theorem yD (hu:X.A.units+1<cLine) (hi:PE X i ty) (ho:PE X o td):PC X .In i o (wP ty td):=by
 intro pins s σ H Q I h
 refine thn (hi pins s σ H _ I h) fun iv s1 ⟨y,H1,I1,ry,q1⟩=>thn (ho pins s1 σ H1 _ I1 q1) fun u s2 zz46=>?_
 obtain ⟨x,H2,I2,rx,a,ov,ex,g,q2⟩:=zz46
 subst ex
 obtain rfl:u=Value.ref a:=rx
 exact d_in hu I2 g ry fun s3 I3=>⟨.bl ov.isSome,H2,I3,rfl,q2⟩
theorem uk (hu:X.A.units+1<cLine) (ho:PE X o td) (hi:PE X i ty) (hv:PE X value tv) (hs:swapsWith value (some (.Subscript o i pos')) pos.line X.env=pure false) :
  PS X (.Assign [.Subscript o i pos'] value pos) (rG td ty tv):=by
 intro pins s σ H D I h
 refine wpAny_Assign_Subscript (thn (hv pins s σ H _ I h) fun r s1 ⟨v,H1,I1,rv,q1⟩=>thn (ho pins s1 σ H1 _ I1 q1) fun u s2 ⟨x,H2,I2,rx,q2⟩=>thn (hi pins s2 σ H2 _ I2 q2) fun iv s3 zz49=>?_) hs
 obtain ⟨y,H3,I3,ry,a,H4,ex,g,q3⟩:=zz49
 subst ex
 obtain rfl:u=Value.ref a:=rx
 exact nR hu I3 g ry rv fun s4 I4=>⟨σ,H4,I4,q3⟩
end
theorem qU {P:Program} {w:World} {H:Hp} (h:Heap) (hb:sysModules<h.objs.size):ObjOk P w H (h.push { cls:=.type "dict",data:=.dict #[] }) h.objs.size (.dT []):=
 ⟨Nat.zero_le _,beq_eq_false_iff_ne.mpr (Ne.symm (Nat.ne_of_lt hb)),[],.nil,_,#[],0,Heap.get?_push_size _ rfl,⟨rfl,rfl,rfl⟩,rfl,rfl,List.nodup_nil⟩
section
variable {X:Cx} {pos:Pos}
end
end L2
namespace L2
open PySem
structure Sub where
 t:Bool
 i:Addr
 l:Addr
def Sub.At (u:Sub) (h:Heap) (n:Nat):Prop:=if u.t=true then h.IsTupleIter u.i u.l n else h.IsListIter u.i u.l n
def Sub.Src (u:Sub) (h:Heap) (xs:Array Value):Prop:=if u.t=true then h.IsTuple u.l xs else h.IsList u.l xs
theorem Sub.At.obj {u:Sub} {h:Heap} {n:Nat} (x:u.At h n):∃ o,h.get? u.i=some o/\o.data=.fields #[.ref u.l,.int n 0]:=by
 unfold Sub.At at x
 split at x <;> (obtain ⟨o,e,_,d⟩:=x; exact ⟨o,e,d⟩)
theorem Sub.At.keep {u:Sub} {h h':Heap} {n:Nat} (x:u.At h n) (k:∀ o,h.get? u.i=some o->h'.get? u.i=some o):u.At h' n:=by
 unfold Sub.At at x ⊢
 split at x <;> (rename_i ht; obtain ⟨o,e,r⟩:=x; simp only [ht,if_true,if_false,Bool.false_eq_true]; exact ⟨o,k o e,r⟩)
theorem Sub.Src.keep {u:Sub} {h h':Heap} {xs:Array Value} (x:u.Src h xs) (k:∀ o,h.get? u.l=some o->h'.get? u.l=some o):u.Src h' xs:=by
 unfold Sub.Src at x ⊢
 split at x <;> (rename_i ht; obtain ⟨o,e,r⟩:=x; simp only [ht,if_true,if_false,Bool.false_eq_true]; exact ⟨o,k o e,r⟩)
section
variable {prog:Program} {w:World} {A:Around} {E:Value->Shared->Prop} {s:Shared}
theorem bZ {it t:Addr} {i:Nat} {items:Array Value} {x:Value} {Q:Value->Shared->Prop} (hit:s.heap.IsTupleIter it t i) (ht:s.heap.IsTuple t items) (hx:items[i]?=some x)
  (hQ:∀ h',h'.IsTupleIter it t (i+1)->Heap.SameBut it s.heap h'->Q x { s with heap:=h' }):wpAny (model prog w) A (Builtin.SmallTypes.nextOf (.ref it)) Q E s:=by
 obtain ⟨o,ho,hc,hd⟩:=id hit; obtain ⟨ol,hol,_,nl,hdl⟩:=ht; unfold Builtin.SmallTypes.nextOf
 refine wpAny_bind (wpAny_callSpecial?_slot (name:=Str.ofString "__next__") hit.typeIs F.slot_tuple_iterator_next (wpAny_call_entry F.slot_tuple_iterator_next hit.typeIs F.entry_tuple_iterator_next ?_ (F.args_tuple_iterator_next_1 _)))
 show wpAny _ _ (field (.ref it) 0>>=_) _ _ s; refine wpAny_bind (wpAny_field ho hd (x:=.ref t) rfl ?_)
 show wpAny _ _ (if (Value.ref t == Value.none)=true then _ else _) _ _ s; rw [if_neg (show ¬ ((Value.ref t == Value.none)=true) from Bool.false_ne_true)]
 show wpAny _ _ (field (.ref it) 1>>=_) _ _ s; refine wpAny_bind (wpAny_field ho hd (x:=.int i 0) rfl ?_)
 show wpAny _ _ (seqItems? (.ref t)>>=_) _ _ s; refine wpAny_bind (wpAny_seqItems hol hdl ?_); simp only [Int.toNat_natCast,hx]
 refine wpAny_bind (wpAny_setField ho hd (by simp) (wpAny_pure ⟨x,rfl,wpAny_pure (hQ _ ?_ (Heap.SameBut.update ..))⟩)); exact ⟨_,Heap.get?_update_self _ ho (Obj.isFreed_of_fields (Obj.data_mapFields hd _)),(Obj.cls_mapFields ..).trans hc,by rw [Obj.data_mapFields hd]; simp [rawInt]⟩
theorem dc {it t:Addr} {i:Nat} {items:Array Value} {Q:Value->Shared->Prop} (hh:A.handled=none) (hit:s.heap.IsTupleIter it t i) (ht:s.heap.IsTuple t items) (hx:items[i]?=none)
  (hE:∀ h' e,Heap.ExtBut it s.heap h'->(∃ o,h'.get? e=some o/\o.cls=.type "StopIteration")->E (.ref e) { s with heap:=h' }):wpAny (model prog w) A (Builtin.SmallTypes.nextOf (.ref it)) Q E s:=by
 obtain ⟨o,ho,hc,hd⟩:=id hit; obtain ⟨ol,hol,_,nl,hdl⟩:=ht; unfold Builtin.SmallTypes.nextOf
 refine wpAny_bind (wpAny_callSpecial?_slot (name:=Str.ofString "__next__") hit.typeIs F.slot_tuple_iterator_next (wpAny_call_entry F.slot_tuple_iterator_next hit.typeIs F.entry_tuple_iterator_next ?_ (F.args_tuple_iterator_next_1 _)))
 show wpAny _ _ (field (.ref it) 0>>=_) _ _ s; refine wpAny_bind (wpAny_field ho hd (x:=.ref t) rfl ?_)
 show wpAny _ _ (if (Value.ref t == Value.none)=true then _ else _) _ _ s; rw [if_neg (show ¬ ((Value.ref t == Value.none)=true) from Bool.false_ne_true)]
 show wpAny _ _ (field (.ref it) 1>>=_) _ _ s; refine wpAny_bind (wpAny_field ho hd (x:=.int i 0) rfl ?_)
 show wpAny _ _ (seqItems? (.ref t)>>=_) _ _ s; refine wpAny_bind (wpAny_seqItems hol hdl ?_); simp only [Int.toNat_natCast,hx]
 refine wpAny_bind (wpAny_rule (wpAny_bind (wpAny_setField ho hd (by simp) ?_))); show wpAny _ _ (newExc (.type "StopIteration") []>>=_) _ _ _
 refine wpAny_bind ?_; simp only [newExc,newTuple]; refine wpAny_bind (wpAny_newObj_type ?_ (by size_fits))
 refine wpAny_bind (m:=firstArgMember _ _) (wpAny_of_eq (a:=Value.none) (by first | rfl | (simp only [firstArgMember]; rfl)) ?_); refine wpAny_newObj_type ?_ (by size_fits); simp only [raiseNew]
 refine wpAny_bind (wpAny_handled ?_); first | rw [show A.in1.handled=none from hh] | rw [hh]
 refine wpAny_bind (wpAny_pure (wpAny_throw ?_)); exact hE _ _ (((Heap.SameBut.update ..).extBut.push _).push _) ⟨_,Heap.get?_push_size _ rfl,rfl⟩
theorem Sub.item {u:Sub} {n:Nat} {xs:Array Value} {x:Value} {Q:Value->Shared->Prop} (ha:u.At s.heap n) (hs:u.Src s.heap xs) (hx:xs[n]?=some x)
  (hQ:∀ h',u.At h' (n+1)->Heap.SameBut u.i s.heap h'->Q x { s with heap:=h' }):wpAny (model prog w) A (Builtin.SmallTypes.nextOf (.ref u.i)) Q E s:=by
 unfold Sub.At at ha hQ; unfold Sub.Src at hs
 cases ht:u.t with
 | true=>simp only [ht,if_true] at ha hs hQ; exact bZ ha hs hx hQ
 | false=>simp only [ht,if_false,Bool.false_eq_true] at ha hs hQ; exact wpAny_nextOf_list_item ha hs hx hQ
theorem Sub.ends {u:Sub} {n:Nat} {xs:Array Value} {Q:Value->Shared->Prop} (hh:A.handled=none) (ha:u.At s.heap n) (hs:u.Src s.heap xs) (hx:xs[n]?=none)
  (hE:∀ h' e,Heap.ExtBut u.i s.heap h'->(∃ o,h'.get? e=some o/\o.cls=.type "StopIteration")->E (.ref e) { s with heap:=h' }):wpAny (model prog w) A (Builtin.SmallTypes.nextOf (.ref u.i)) Q E s:=by
 unfold Sub.At at ha; unfold Sub.Src at hs
 cases ht:u.t with
 | true=>simp only [ht,if_true] at ha hs; exact dc hh ha hs hx hE
 | false=>simp only [ht,if_false,Bool.false_eq_true] at ha hs; exact wpAny_nextOf_list_end hh ha hs hx hE
abbrev B7 (h:Heap) (T:Addr) (arr:Array Value):Prop:=h.get? T=some { cls:=.type "tuple",data:=.seq arr }
def drawn (n:Nat):List (Sub×Array Value)->Nat->Array Value->Array Value
 | [],_,arr=>arr
 | u::r,c,arr=>drawn n r (c+1) (arr.setIfInBounds c (u.2.getD n .none))
def sK (prog:Program) (w:World) (A:Around) (z TO:Addr) (E:Value->Shared->Prop) (B:Value×Nat->Option Fin×Unit->Sem (ForInStep (Option Fin×Unit))):Prop:=
 ∀ (v:Value) (k:Nat) (s:Shared) (Q:ForInStep (Option Fin×Unit)->Shared->Prop),
  wpAny (model prog w) A (Builtin.SmallTypes.nextOf v) (fun x s1=>∃ arr,B7 s1.heap TO arr/\arr.size<=sizeLine/\∀ h',B7 h' TO (arr.setIfInBounds k x)->Heap.SameBut TO s1.heap h'->Q (.yield (none,())) { s1 with heap:=h' })
   (fun e s1=>wpAny (model prog w) A (setField (.ref z) 0 .none) (fun _ s2=>E e s2) E s1) s->wpAny (model prog w) A (B (v,k) (none,())) Q E s
structure Apart (z TO:Addr) (ss:List (Sub×Array Value)):Prop where
 zTO:z≠TO
 zi:∀ u∈ss,u.1.i≠z
 ti:∀ u∈ss,u.1.i≠TO
 nd:ss.Pairwise fun u v=>u.1.i≠v.1.i
 lz:∀ u∈ss,u.1.l≠z
 lt:∀ u∈ss,u.1.l≠TO
 li:∀ u∈ss,∀ v∈ss,u.1.l≠v.1.i
theorem Apart.tail {z TO:Addr} {u:Sub×Array Value} {ss:List (Sub×Array Value)} (D:Apart z TO (u::ss)):Apart z TO ss:=
 ⟨D.zTO,fun v hv=>D.zi v (List.mem_cons_of_mem _ hv),fun v hv=>D.ti v (List.mem_cons_of_mem _ hv),(List.pairwise_cons.mp D.nd).2,fun v hv=>D.lz v (List.mem_cons_of_mem _ hv),fun v hv=>D.lt v (List.mem_cons_of_mem _ hv),
  fun v hv x hx=>D.li v (List.mem_cons_of_mem _ hv) x (List.mem_cons_of_mem _ hx)⟩
theorem draws {z TI TO:Addr} {n:Nat} {B:Value×Nat->Option Fin×Unit->Sem (ForInStep (Option Fin×Unit))} (hB:sK prog w A z TO E B) :
  ∀ (ss:List (Sub×Array Value)) (c:Nat) (arr:Array Value) (s:Shared) (Q:Option Fin×Unit->Shared->Prop),Apart z TO ss->IsZip s.heap z TI TO .ellipsis->B7 s.heap TO arr->arr.size<=sizeLine ->
   (∀ u∈ss,u.1.At s.heap n/\u.1.Src s.heap u.2/\∃ x,u.2[n]?=some x) ->
   (∀ h',IsZip h' z TI TO .ellipsis->B7 h' TO (drawn n ss c arr)->(∀ u∈ss,u.1.At h' (n+1))->h'.objs.size=s.heap.objs.size ->
    (∀ b o,b≠TO->(∀ u∈ss,b≠u.1.i)->s.heap.get? b=some o->h'.get? b=some o)->Q (none,()) { s with heap:=h' }) ->
   wpAny (model prog w) A (forIn ((ss.map fun u=>Value.ref u.1.i).zipIdx c) (none,()) B) Q E s:=by
 intro ss
 induction ss with
 | nil=>
  intro c arr s Q D hz hT hl hu hQ
  simp only [List.map_nil,List.zipIdx_nil,List.forIn_nil]
  exact wpAny_pure (hQ s.heap hz hT (fun _ h=>absurd h List.not_mem_nil) rfl fun _ _ _ _ e=>e)
 | cons u r ih=>
  intro c arr s Q D hz hT hl hu hQ
  simp only [List.map_cons,List.zipIdx_cons,List.forIn_cons]
  obtain ⟨ha,hsrc,x,hx⟩:=hu u List.mem_cons_self
  refine wpAny_bind (hB _ _ _ _ (Sub.item ha hsrc hx fun h1 ha1 sb1=>⟨arr,sb1.extBut _ _ (D.ti u List.mem_cons_self).symm hT,hl,fun h2 hT2 sb2=>?_⟩))
  have uz:=D.zi u List.mem_cons_self
  have ut:=D.ti u List.mem_cons_self
  have kp:∀ b o,b≠TO->b≠u.1.i->s.heap.get? b=some o->h2.get? b=some o:=fun b o h1 h2 e=>sb2.extBut _ _ h1 (sb1.extBut _ _ h2 e)
  have hui:∀ v∈r,v.1.i≠u.1.i:=fun v hv=>((List.pairwise_cons.mp D.nd).1 v hv).symm
  refine ih (c+1) (arr.setIfInBounds c x) { s with heap:=h2 } Q D.tail (kp _ _ D.zTO uz.symm hz) hT2 (by simpa using hl) (fun v hv=>?_) fun h3 z3 T3 a3 s3 k3=>?_
  ·obtain ⟨a,b,y⟩:=hu v (List.mem_cons_of_mem _ hv)
   exact ⟨a.keep fun o e=>kp _ o (D.ti v (List.mem_cons_of_mem _ hv)) (hui v hv) e,b.keep fun o e=>kp _ o (D.lt v (List.mem_cons_of_mem _ hv)) (D.li v (List.mem_cons_of_mem _ hv) u List.mem_cons_self) e,y⟩
  ·refine hQ h3 z3 ?_ (fun v hv=>?_) (by rw [s3]; show h2.objs.size=_; rw [sb2.1,sb1.1]) fun b o h1 h2 e=>k3 b o h1 (fun v hv=>h2 v (List.mem_cons_of_mem _ hv)) (kp b o h1 (h2 u List.mem_cons_self) e)
   ·have e:u.2.getD n .none=x:=by simp [Array.getD_eq_getD_getElem?,hx]
    show B7 h3 TO (drawn n r (c+1) (arr.setIfInBounds c (u.2.getD n .none)))
    rw [e]; exact T3
   ·rcases List.mem_cons.mp hv with rfl | hv
    ·exact ha1.keep fun o e=>k3 _ o ut (fun v' hv'=>(hui v' hv').symm) (sb2.extBut _ _ ut e)
    ·exact a3 v hv
theorem nM {z TI TO:Addr} {n:Nat} {B:Value×Nat->Option Fin×Unit->Sem (ForInStep (Option Fin×Unit))} (hh:A.handled=none) (hB:sK prog w A z TO E B) :
  ∀ (ss:List (Sub×Array Value)) (c:Nat) (arr:Array Value) (s:Shared) (Q:Option Fin×Unit->Shared->Prop),Apart z TO ss->IsZip s.heap z TI TO .ellipsis->B7 s.heap TO arr->arr.size<=sizeLine ->
   (∀ u∈ss,u.1.At s.heap n/\u.1.Src s.heap u.2)->(∃ u∈ss,u.2[n]?=none) ->
   (∀ h' e,(∀ b o,b≠z->b≠TO->(∀ u∈ss,b≠u.1.i)->s.heap.get? b=some o->h'.get? b=some o)->(∃ o,h'.get? e=some o/\o.cls=.type "StopIteration")->E (.ref e) { s with heap:=h' }) ->
   wpAny (model prog w) A (forIn ((ss.map fun u=>Value.ref u.1.i).zipIdx c) (none,()) B) Q E s:=by
 intro ss
 induction ss with
 | nil=>
  intro c arr s Q D hz hT hl hu hx hQ
  obtain ⟨_,h,_⟩:=hx
  exact absurd h List.not_mem_nil
 | cons u r ih=>
  intro c arr s Q D hz hT hl hu hx hQ
  simp only [List.map_cons,List.zipIdx_cons,List.forIn_cons]
  obtain ⟨ha,hsrc⟩:=hu u List.mem_cons_self
  have uz:=D.zi u List.mem_cons_self
  have ut:=D.ti u List.mem_cons_self
  cases hu0:u.2[n]? with
  | none=>
   refine wpAny_bind (hB _ _ _ _ (Sub.ends hh ha hsrc hu0 fun h1 e eb he=>?_))
   obtain ⟨oe,hoe,hce⟩:=he
   have hz1:IsZip h1 z TI TO .ellipsis:=eb _ _ uz.symm hz
   have hez:e≠z:=fun x=>by subst x; rw [hz1] at hoe; cases hoe; simp at hce
   exact wpAny_setField_rec hz1 (by simp) fun h3 _ sb3=>hQ h3 e (fun b o b1 b2 b3 q=>sb3.extBut _ _ b1 (eb _ _ (b3 u List.mem_cons_self) q)) ⟨oe,sb3.extBut _ _ hez hoe,hce⟩
  | some x=>
   refine wpAny_bind (hB _ _ _ _ (Sub.item ha hsrc hu0 fun h1 ha1 sb1=>⟨arr,sb1.extBut _ _ ut.symm hT,hl,fun h2 hT2 sb2=>?_⟩))
   have kp:∀ b o,b≠TO->b≠u.1.i->s.heap.get? b=some o->h2.get? b=some o:=fun b o h1 h2 e=>sb2.extBut _ _ h1 (sb1.extBut _ _ h2 e)
   have hui:∀ v∈r,v.1.i≠u.1.i:=fun v hv=>((List.pairwise_cons.mp D.nd).1 v hv).symm
   refine ih (c+1) (arr.setIfInBounds c x) { s with heap:=h2 } Q D.tail (kp _ _ D.zTO uz.symm hz) hT2 (by simpa using hl) (fun v hv=>?_) ?_ fun h3 e k3 he=>?_
   ·obtain ⟨a,b⟩:=hu v (List.mem_cons_of_mem _ hv)
    exact ⟨a.keep fun o e=>kp _ o (D.ti v (List.mem_cons_of_mem _ hv)) (hui v hv) e,b.keep fun o e=>kp _ o (D.lt v (List.mem_cons_of_mem _ hv)) (D.li v (List.mem_cons_of_mem _ hv) u List.mem_cons_self) e⟩
   ·obtain ⟨v,hv,e⟩:=hx
    rcases List.mem_cons.mp hv with rfl | hv
    ·rw [hu0] at e; cases e
    ·exact ⟨v,hv,e⟩
   ·exact hQ h3 e (fun b o b1 b2 b3 q=>k3 b o b1 b2 (fun v hv=>b3 v (List.mem_cons_of_mem _ hv)) (kp b o b2 (b3 u List.mem_cons_self) q)) he
theorem kL (n:Nat):∀ (ss:List (Sub×Array Value)) (c:Nat) (arr:Array Value),(drawn n ss c arr).size=arr.size:=by
 intro ss
 induction ss with
 | nil=>intro c arr; rfl
 | cons u r ih=>intro c arr; unfold drawn; rw [ih]; simp
theorem nN (n:Nat):∀ (ss:List (Sub×Array Value)) (c:Nat) (arr:Array Value),c+ss.length=arr.size->(drawn n ss c arr).toList=arr.toList.take c++ss.map fun u=>u.2.getD n .none:=by
 intro ss
 induction ss with
 | nil=>
  intro c arr h
  unfold drawn
  simp at h; subst h
  rw [List.map_nil,List.append_nil]
  exact (List.take_of_length_le (by simp)).symm
 | cons u r ih=>
  intro c arr h
  unfold drawn
  have hc:c<arr.size:=by simp at h; omega
  rw [ih (c+1) _ (by simp at h ⊢; omega)]
  rw [List.map_cons,Array.toList_setIfInBounds]
  have:(arr.toList.set c (u.2.getD n Value.none)).take (c+1)=arr.toList.take c ++ [u.2.getD n Value.none]:=by
   rw [List.take_add_one,List.take_set,List.getElem?_set_self (by simpa using hc)]
   rw [List.set_eq_of_length_le (by simp; omega)]; rfl
  rw [this,List.append_assoc]; rfl
theorem oB {z TI TO:Addr} {n:Nat} {ss:List (Sub×Array Value)} {arr:Array Value} {Q:Option Value->Shared->Prop} (D:Apart z TO ss) (hne:ss ≠ []) (hsz:arr.size=ss.length) (hline:ss.length<=sizeLine)
  (hz:IsZip s.heap z TI TO .none) (hTI:B7 s.heap TI (ss.map fun u=>Value.ref u.1.i).toArray) (hTO:B7 s.heap TO arr) (hu:∀ u∈ss,u.1.At s.heap n/\u.1.Src s.heap u.2/\∃ x,u.2[n]?=some x)
  (hQ:∀ h',IsZip h' z TI TO (rawInt s.heap.objs.size)->(∃ arr',B7 h' TO arr'/\arr'.size=ss.length)->(∀ u∈ss,u.1.At h' (n+1))->B7 h' s.heap.objs.size (ss.map fun u=>u.2.getD n .none).toArray ->
   (∀ b o,b≠z->b≠TO->(∀ u∈ss,b≠u.1.i)->s.heap.get? b=some o->h'.get? b=some o)->Q (some (.ref s.heap.objs.size)) { s with heap:=h' }) :
  wpAny (model prog w) A (pyNext (.ref z)) Q E s:=by
 have hT:s.TypeIs (.ref z) "zip" := ⟨_,hz,rfl⟩
 unfold pyNext
 refine wpAny_bind (wpAny_attempt (wpAny_callSpecial?_slot (name:=Str.ofString "__next__") hT F.slot_zip_next (wpAny_call_entry F.slot_zip_next hT F.entry_zip_next ?_ (F.args_zip_next_1 _))))
 show wpAny _ _ (field (.ref z) 2>>=_) _ _ _; refine wpAny_bind (wpAny_field hz rfl (x:=.bool false) rfl ?_)
 show wpAny _ _ (field (.ref z) 3>>=_) _ _ _; refine wpAny_bind (wpAny_field hz rfl (x:=.ref TI) rfl ?_); refine wpAny_bind (wpAny_seqItems hTI rfl ?_)
 have e1:(ss.map fun u=>Value.ref u.1.i).toArray.isEmpty=false:=by cases ss <;> simp_all
 simp only [e1]
 refine wpAny_bind ?_; unfold Builtin.SmallTypes.ownedTupleIsFree; refine wpAny_bind (wpAny_field hz rfl (x:=.none) rfl (wpAny_pure ?_)); simp only [if_true]
 refine wpAny_bind (wpAny_rule ?_); refine wpAny_bind (wpAny_field hz rfl (x:=.ref TO) rfl ?_)
 refine wpAny_bind (wpAny_setField_rec hz (by simp) fun h1 z1 sb1=>?_); replace z1:IsZip h1 z TI TO .ellipsis:=z1
 refine wpAny_bind (draws (TI:=TI) (n:=n) (z:=z) (TO:=TO) ?_ ss 0 arr _ _ D z1 (sb1.extBut _ _ D.zTO.symm hTO) (by omega) (fun u hm=>?_) fun h2 z2 T2 a2 s2 k2=>?_)
 ·intro v k s Q h
  refine wpAny_bind (wpAny_onRaise ?_)
  show wpAny _ _ (Builtin.SmallTypes.nextOf v>>=_) _ _ _
  refine wpAny_bind (wpAny_mono h (fun x s1 ⟨arr,hT1,hl,hq⟩=>wpAny_pure ?_) fun e s1 he=>he)
  refine wpAny_bind (wpAny_seqItems hT1 rfl ?_)
  refine wpAny_bind (wpAny_updateSeq hT1 rfl ?_ hl (by rw [Array.size_setIfInBounds]; omega))
  refine wpAny_bind (wpAny_letGo (wpAny_pure (hq _ ?_ (Heap.SameBut.update ..))))
  show Heap.get? _ _=_
  rw [Heap.get?_update_self _ hT1 rfl]; simp [Obj.mapSeq]
 ·obtain ⟨a,b,x⟩:=hu u hm
  exact ⟨a.keep fun o e=>sb1.extBut _ _ (D.zi u hm) e,b.keep fun o e=>sb1.extBut _ _ (D.lz u hm) e,x⟩
 ·have ed:(drawn n ss 0 arr).toList=ss.map fun u=>u.2.getD n .none:=by rw [nN n ss 0 arr (by omega)]; simp
  refine wpAny_bind (wpAny_seqItems T2 rfl ?_)
  have hs2:h2.objs.size=s.heap.objs.size:=by rw [s2]; exact sb1.1
  have hlz:z<h2.objs.size:=Heap.lt_size z2
  refine wpAny_bind (wpAny_newTuple (wpAny_bind ?_) (by rw [ed,List.length_map]; exact hline))
  unfold Builtin.SmallTypes.ownedTupleHandOut
  have z3:IsZip (h2.push { cls:=.type "tuple",data:=.seq (drawn n ss 0 arr).toList.toArray }) z TI TO .ellipsis:=Heap.get?_push_of_some _ z2
  refine wpAny_bind (wpAny_setField_rec z3 (by simp) fun h4 z4 sb4=>?_); replace z4:IsZip h4 z TI TO (rawInt h2.objs.size):=z4
  refine wpAny_setField_rec z4 (by simp) fun h5 z5 sb5=>?_; replace z5:IsZip h5 z TI TO (rawInt h2.objs.size):=z5
  have up:∀ b o,b≠z->h2.get? b=some o->h5.get? b=some o:=fun b o hb e=>sb5.extBut _ _ hb (sb4.extBut _ _ hb (Heap.get?_push_of_some _ e))
  have T5:B7 h5 h2.objs.size (drawn n ss 0 arr).toList.toArray:=sb5.extBut _ _ (Nat.ne_of_gt hlz) (sb4.extBut _ _ (Nat.ne_of_gt hlz) (Heap.get?_push_size _ rfl))
  rw [ed] at T5
  rw [hs2] at z5 T5
  refine wpAny_pure ⟨_,rfl,wpAny_pure ?_⟩
  show Q (some (.ref h2.objs.size)) _
  rw [hs2]
  exact hQ h5 z5 ⟨_,up _ _ D.zTO.symm T2,by rw [kL,hsz]⟩ (fun u hm=>(a2 u hm).keep fun o e=>up _ o (D.zi u hm) e) T5 fun b o b1 b2 b3 e=>up b o b1 (k2 b o b2 b3 (sb1.extBut _ _ b1 e))
theorem oA {z TI TO:Addr} {n:Nat} {ss:List (Sub×Array Value)} {arr:Array Value} {Q:Option Value->Shared->Prop} (hh:A.handled=none) (D:Apart z TO ss) (hsz:arr.size=ss.length) (hline:ss.length<=sizeLine)
  (hz:IsZip s.heap z TI TO .none) (hTI:B7 s.heap TI (ss.map fun u=>Value.ref u.1.i).toArray) (hTO:B7 s.heap TO arr) (hu:∀ u∈ss,u.1.At s.heap n/\u.1.Src s.heap u.2) (hx:∃ u∈ss,u.2[n]?=none)
  (hQ:∀ h',(∀ b o,b≠z->b≠TO->(∀ u∈ss,b≠u.1.i)->s.heap.get? b=some o->h'.get? b=some o)->Q none { s with heap:=h' }) :
  wpAny (model prog w) A (pyNext (.ref z)) Q E s:=by
 have hT:s.TypeIs (.ref z) "zip" := ⟨_,hz,rfl⟩
 unfold pyNext
 refine wpAny_bind (wpAny_attempt (wpAny_callSpecial?_slot (name:=Str.ofString "__next__") hT F.slot_zip_next (wpAny_call_entry F.slot_zip_next hT F.entry_zip_next ?_ (F.args_zip_next_1 _))))
 show wpAny _ _ (field (.ref z) 2>>=_) _ _ _; refine wpAny_bind (wpAny_field hz rfl (x:=.bool false) rfl ?_)
 show wpAny _ _ (field (.ref z) 3>>=_) _ _ _; refine wpAny_bind (wpAny_field hz rfl (x:=.ref TI) rfl ?_); refine wpAny_bind (wpAny_seqItems hTI rfl ?_)
 have e1:(ss.map fun u=>Value.ref u.1.i).toArray.isEmpty=false:=by
  obtain ⟨u,hm,_⟩:=hx
  cases ss with
  | nil=>exact nomatch hm
  | cons a b=>simp
 simp only [e1]
 refine wpAny_bind ?_; unfold Builtin.SmallTypes.ownedTupleIsFree; refine wpAny_bind (wpAny_field hz rfl (x:=.none) rfl (wpAny_pure ?_)); simp only [if_true]
 refine wpAny_bind (wpAny_rule ?_); refine wpAny_bind (wpAny_field hz rfl (x:=.ref TO) rfl ?_)
 refine wpAny_bind (wpAny_setField_rec hz (by simp) fun h1 z1 sb1=>?_); replace z1:IsZip h1 z TI TO .ellipsis:=z1
 refine wpAny_bind (nM (A:=A.in1) (TI:=TI) (n:=n) (z:=z) (TO:=TO) (show A.in1.handled=none from hh) ?_ ss 0 arr _ _ D z1 (sb1.extBut _ _ D.zTO.symm hTO) (by omega) (fun u hm=>?_) hx fun h2 e k2 he=>?_)
 ·intro v k s Q h
  refine wpAny_bind (wpAny_onRaise ?_)
  show wpAny _ _ (Builtin.SmallTypes.nextOf v>>=_) _ _ _
  refine wpAny_bind (wpAny_mono h (fun x s1 ⟨arr,hT1,hl,hq⟩=>wpAny_pure ?_) fun e s1 he=>he)
  refine wpAny_bind (wpAny_seqItems hT1 rfl ?_)
  refine wpAny_bind (wpAny_updateSeq hT1 rfl ?_ hl (by rw [Array.size_setIfInBounds]; omega))
  refine wpAny_bind (wpAny_letGo (wpAny_pure (hq _ ?_ (Heap.SameBut.update ..))))
  show Heap.get? _ _=_
  rw [Heap.get?_update_self _ hT1 rfl]; simp [Obj.mapSeq]
 ·obtain ⟨a,b⟩:=hu u hm
  exact ⟨a.keep fun o e=>sb1.extBut _ _ (D.zi u hm) e,b.keep fun o e=>sb1.extBut _ _ (D.lz u hm) e⟩
 ·obtain ⟨o,ho,hc⟩:=he
  refine wpAny_bind (wpAny_isInstance (T := "StopIteration") (b:=true) ⟨o,ho,hc⟩ isSubtype_stop ?_)
  exact wpAny_pure (hQ _ fun b o b1 b2 b3 e=>k2 b o b1 b2 b3 (sb1.extBut _ _ b1 e))
def SrcAt (h:Heap) (u:Bool×Addr×Array Value):Prop:=if u.1=true then h.IsTuple u.2.1 u.2.2 else h.IsList u.2.1 u.2.2
def g5 (n:Nat):List (Bool×Addr×Array Value)->List (Sub×Array Value)
 | []=>[]
 | u::r=>(⟨u.1,n,u.2.1⟩,u.2.2)::g5 (n+1) r
theorem qy {u:Bool×Addr×Array Value} {Q:Value->Shared->Prop} (hs:SrcAt s.heap u)
  (hQ:∀ h',(Sub.mk u.1 s.heap.objs.size u.2.1).At h' 0->h'.objs.size=s.heap.objs.size+1->(∀ b o,s.heap.get? b=some o->h'.get? b=some o)->Q (.ref s.heap.objs.size) { s with heap:=h' }) :
  wpAny (model prog w) A (pyIter (.ref u.2.1)) Q E s:=by
 unfold SrcAt at hs
 cases ht:u.1 with
 | true=>
  simp only [ht,if_true] at hs
  refine wpAny_pyIter_tuple hs (hQ _ ?_ (Heap.size_push ..) fun b o e=>Heap.get?_push_of_some _ e)
  unfold Sub.At
  simp only [ht,if_true]
  exact ⟨_,Heap.get?_push_size _ rfl,rfl,rfl⟩
 | false=>
  simp only [ht,Bool.false_eq_true,if_false] at hs
  refine wpAny_pyIter_list hs (hQ _ ?_ (Heap.size_push ..) fun b o e=>Heap.get?_push_of_some _ e)
  unfold Sub.At
  simp only [ht,Bool.false_eq_true,if_false]
  exact ⟨_,Heap.get?_push_size _ rfl,rfl,rfl⟩
theorem SrcAt.keep {h h':Heap} {u:Bool×Addr×Array Value} (x:SrcAt h u) (k:∀ b o,h.get? b=some o->h'.get? b=some o):SrcAt h' u:=by
 unfold SrcAt at x ⊢
 split at x <;> (rename_i ht; obtain ⟨o,e,r⟩:=x; simp only [ht,if_true,if_false,Bool.false_eq_true]; exact ⟨o,k _ o e,r⟩)
theorem iG:∀ (us:List (Bool×Addr×Array Value)) (acc:Array Value) (s:Shared) (Q:Array Value->Shared->Prop),(∀ u∈us,SrcAt s.heap u) ->
  (∀ h',(∀ v∈g5 s.heap.objs.size us,v.1.At h' 0)->h'.objs.size=s.heap.objs.size+us.length->(∀ b o,s.heap.get? b=some o->h'.get? b=some o) ->
   Q (acc++((g5 s.heap.objs.size us).map fun v=>Value.ref v.1.i).toArray) { s with heap:=h' }) ->
  wpAny (model prog w) A (forIn (us.map fun u=>Value.ref u.2.1) acc fun x r=>do let y <- holding r.toList (pyIter x); pure (ForInStep.yield (r.push y))) Q E s:=by
 intro us
 induction us with
 | nil=>
  intro acc s Q _ hQ
  simp only [List.map_nil,List.forIn_nil]
  have:=hQ s.heap (fun _ h=>absurd h List.not_mem_nil) rfl fun _ _ e=>e
  exact wpAny_pure (by simpa [g5] using this)
 | cons u r ih=>
  intro acc s Q hs hQ
  simp only [List.map_cons,List.forIn_cons]
  refine wpAny_bind (wpAny_bind (wpAny_holding (qy (hs u List.mem_cons_self) fun h1 a1 s1 k1=>wpAny_pure ?_)))
  refine ih (acc.push (.ref s.heap.objs.size)) { s with heap:=h1 } Q (fun v hv=>(hs v (List.mem_cons_of_mem _ hv)).keep k1) fun h2 a2 s2 k2=>?_
  have e0:g5 h1.objs.size r=g5 (s.heap.objs.size+1) r:=by rw [s1]
  have q:=hQ h2 (fun v hv=>?_) (by rw [s2]; show h1.objs.size+_=_; rw [s1,List.length_cons]; omega) fun b o e=>k2 b o (k1 b o e)
  ·have e:acc.push (Value.ref s.heap.objs.size)++(List.map (fun v=>Value.ref v.1.i) (g5 h1.objs.size r)).toArray=acc++(List.map (fun v=>Value.ref v.1.i) (g5 s.heap.objs.size (u::r))).toArray:=by
    rw [e0]; simp [g5]
   show Q (acc.push (Value.ref s.heap.objs.size)++(List.map (fun v=>Value.ref v.1.i) (g5 h1.objs.size r)).toArray) _
   rw [e]; exact q
  ·rcases List.mem_cons.mp hv with rfl | hv
   ·exact a1.keep fun o e=>k2 _ o e
   ·exact a2 v (by show v∈g5 h1.objs.size r; rw [e0]; exact hv)
theorem qz {us:List (Bool×Addr×Array Value)} {Q:List Value->Shared->Prop} (hs:∀ u∈us,SrcAt s.heap u)
  (hQ:∀ h',(∀ v∈g5 s.heap.objs.size us,v.1.At h' 0)->h'.objs.size=s.heap.objs.size+us.length->(∀ b o,s.heap.get? b=some o->h'.get? b=some o) ->
   Q ((g5 s.heap.objs.size us).map fun v=>Value.ref v.1.i) { s with heap:=h' }):wpAny (model prog w) A (Builtin.SmallTypes.iterAll (us.map fun u=>Value.ref u.2.1)) Q E s:=by
 unfold Builtin.SmallTypes.iterAll
 refine wpAny_bind (iG us #[] s _ hs fun h' a1 s1 k1=>wpAny_pure ?_)
 have:=hQ h' a1 s1 k1
 simpa using this
theorem M0:∀ (us:List (Bool×Addr×Array Value)) (n:Nat),(g5 n us).length=us.length:=by
 intro us
 induction us with
 | nil=>intro n; rfl
 | cons u r ih=>intro n; unfold g5; rw [List.length_cons,ih,List.length_cons]
theorem dP (us:List (Bool×Addr×Array Value)) (hl:us.length<=sizeLine) :
  Meets (Builtin.«zip.__new__» ⟨.type "zip" :: us.map fun u=>Value.ref u.2.1,[]⟩) (fun _ R s=>(∀ u∈us,SrcAt s.heap u) /\
   ∀ h',(∀ v∈g5 s.heap.objs.size us,v.1.At h' 0)->B7 h' (s.heap.objs.size+us.length) ((g5 s.heap.objs.size us).map fun v=>Value.ref v.1.i).toArray ->
    (∃ arr,B7 h' (s.heap.objs.size+us.length+1) arr/\arr.size=us.length)->IsZip h' (s.heap.objs.size+us.length+2) (s.heap.objs.size+us.length) (s.heap.objs.size+us.length+1) .none ->
    (∀ b o,s.heap.get? b=some o->h'.get? b=some o)->R (.ok (.ret (.ref (s.heap.objs.size+us.length+2)))) { s with heap:=h' }):=
 .of_wp fun prog w A R s h=>by
  obtain ⟨hs,h⟩:=h
  show wpAny _ _ (Builtin.SmallTypes.newClass "zip" _>>=_) _ _ _
  refine wpAny_bind ?_
  unfold Builtin.SmallTypes.newClass
  refine wpAny_bind (wpAny_of_eq (a:=true) rfl ?_)
  simp only [Bool.not_true,Bool.false_eq_true,if_false]
  refine wpAny_bind (wpAny_of_eq (a:=true) sub_zip ?_)
  simp only [Bool.not_true,Bool.false_eq_true,if_false]
  refine wpAny_pure ?_
  simp only [List.length_nil,show ¬ (0>1) by decide,if_false]
  refine wpAny_bind (qz hs fun h1 a1 s1 k1=>?_)
  refine wpAny_bind (wpAny_newTuple ?_ (by simp [M0,hl]))
  refine wpAny_bind (wpAny_newTuple ?_ (by simp [M0,hl]))
  generalize hI:((g5 s.heap.objs.size us).map fun v=>Value.ref v.1.i)=I at h ⊢
  have hIl:I.length=us.length:=by rw [<- hI,List.length_map,M0]
  refine wpAny_bind ?_
  show wpAny _ _ (newObj (.type "zip") (.fields #[.none,.bool false,.bool false,.ref h1.objs.size,.ref (h1.push { cls:=.type "tuple",data:=.seq I.toArray }).objs.size]) none) _ _ _
  refine wpAny_newObj_type (wpAny_pure ?_) (by size_fits)
  have z0:h1.objs.size=s.heap.objs.size+us.length:=s1
  have z1:(h1.push { cls:=.type "tuple",data:=.seq I.toArray }).objs.size=s.heap.objs.size+us.length+1:=by rw [Heap.size_push,s1]
  have z2:((h1.push { cls:=.type "tuple",data:=.seq I.toArray }).push { cls:=.type "tuple",data:=.seq (I.map fun _=>Value.none).toArray }).objs.size=s.heap.objs.size+us.length+2:=by rw [Heap.size_push,z1]
  refine ⟨_,rfl,?_⟩
  have g:=h (((h1.push { cls:=.type "tuple",data:=.seq I.toArray }).push { cls:=.type "tuple",data:=.seq (I.map fun _=>Value.none).toArray }).push { cls:=.type "zip",data:=.fields #[.none,.bool false,.bool false,.ref h1.objs.size,.ref (h1.push { cls:=.type "tuple",data:=.seq I.toArray }).objs.size] })
   (fun v hv=>(a1 v hv).keep fun o e=>Heap.get?_push_of_some _ (Heap.get?_push_of_some _ (Heap.get?_push_of_some _ e))) ?_ ⟨(I.map fun _=>Value.none).toArray,?_,by simp [hIl]⟩ ?_ fun b o e=>Heap.get?_push_of_some _ (Heap.get?_push_of_some _ (Heap.get?_push_of_some _ (k1 b o e)))
  ·rw [<- z2] at g
   exact g
  ·rw [<- z0]; exact Heap.get?_push_of_some _ (Heap.get?_push_of_some _ (Heap.get?_push_size _ rfl))
  ·rw [<- z1]; exact Heap.get?_push_of_some _ (Heap.get?_push_size _ rfl)
  ·rw [<- z2,<- z1,<- z0]; exact Heap.get?_push_size _ rfl
theorem jM (a b c:Value):checkTypeCall "zip" ⟨[a,b,c],[]⟩=pure ():=by kernel_rfl
theorem ko (a b c:Value):checkBuiltinCall "zip.__new__" ⟨[.type "zip",a,b,c],[]⟩=pure ():=by kernel_rfl
theorem kR (a b c d:Value):argsOk "object.__init__" ⟨[a,b,c,d],[]⟩:=by
 unfold argsOk; rw [signature?_of (id := "object.__init__") (n:=['_','_','t','i','n','i','_','_']) (o:=['t','c','e','j','b','o']) (by kernel_rfl) F.owner_object]; kernel_rfl
theorem rd (us:List (Bool×Addr×Array Value)) (hl:us.length=2\/us.length=3) {Q:Value->Shared->Prop} (hs:∀ u∈us,SrcAt s.heap u)
  (h:∀ h',(∀ v∈g5 s.heap.objs.size us,v.1.At h' 0)->B7 h' (s.heap.objs.size+us.length) ((g5 s.heap.objs.size us).map fun v=>Value.ref v.1.i).toArray ->
    (∃ arr,B7 h' (s.heap.objs.size+us.length+1) arr/\arr.size=us.length)->IsZip h' (s.heap.objs.size+us.length+2) (s.heap.objs.size+us.length) (s.heap.objs.size+us.length+1) .none ->
    (∀ b o,s.heap.get? b=some o->h'.get? b=some o)->Q (.ref (s.heap.objs.size+us.length+2)) { s with heap:=h' }) :
  wpAny (model prog w) A (call (.type "zip") (us.map fun u=>Value.ref u.2.1)) Q E s:=by
 have hle:us.length<=sizeLine:=Nat.le_trans (show us.length<=3 by omega) (by decide)
 have k:∀ h',_->_->_->_->_->({ s with heap:=h' }:Shared).TypeIs (.ref (s.heap.objs.size+us.length+2)) "zip" /\ Q (.ref (s.heap.objs.size+us.length+2)) { s with heap:=h' }:=fun h' c1 c2 c3 c4 c5=>⟨⟨_,c4,rfl⟩,h h' c1 c2 c3 c4 c5⟩
 cases us with
 | nil=>rcases hl with hl | hl <;> cases hl
 | cons a us=>
  cases us with
  | nil=>rcases hl with hl | hl <;> cases hl
  | cons b us=>
   cases us with
   | nil=>exact callType_new F.called_zip (by decide) (F.typeCall_zip_2 _ _) (F.newCall_zip_2 _ _) (fun obj=>F.args_object_init_3 obj _ _) F.entry_zip_new (dP [a,b] hle) ⟨hs,k⟩
   | cons c us=>
    cases us with
    | nil=>exact callType_new F.called_zip (by decide) (jM _ _ _) (ko _ _ _) (fun obj=>kR obj _ _ _) F.entry_zip_new (dP [a,b,c] hle) ⟨hs,k⟩
    | cons d us=>rcases hl with hl | hl <;> (simp only [List.length_cons] at hl; omega)
end
end L2
namespace L2
open PySem PySem.Spec PyProof.Rows
theorem U0 {α β:Type} {R:α->β->Prop}:∀ {l:List α},(∀ a∈l,∃ b,R a b)->∃ l':List (α×β),l'.map (·.1)=l/\∀ p∈l',R p.1 p.2:=by
 intro l
 induction l with
 | nil=>exact fun _=>⟨[],rfl,fun _ h=>absurd h List.not_mem_nil⟩
 | cons a l ih=>
  intro h
  obtain ⟨b,hb⟩:=h a List.mem_cons_self
  obtain ⟨l',e,q⟩:=ih fun x hx=>h x (List.mem_cons_of_mem _ hx)
  refine ⟨(a,b)::l',by rw [List.map_cons,e],fun p hp=>?_⟩
  rcases List.mem_cons.mp hp with rfl | hp
  ·exact hb
  ·exact q p hp
def Sq (K:Frag) (H:Hp) (t:Bool) (a:Addr) (xs:List V):Prop:=if t=true then SqT K H a xs else SqL K H a xs
section
variable {X:Cx} {pins:List (Addr×Obj)} {σ:St} {H:Hp} {s:Shared}
theorem kne {b a:Addr} {o:Obj} (I:Inv X pins σ H s) (h:X.K.lookup a=some o) (f:D2 X pins H b):a≠b:=by
 intro e
 subst e
 have hb:X.base.get? a=some o:=I.mod.kin a o h
 obtain ⟨f0,f1,f2,f3,f4,f5⟩:=f
 rcases f3 with z | z
 ·exact I.ok.noex a o hb z
 ·exact absurd (Nat.lt_of_lt_of_le (Heap.lt_size (I.ok.bs a o hb).1) z) (Nat.lt_irrefl _)
theorem Sq.ne {t:Bool} {a b:Addr} {xs:List V} (I:Inv X pins σ H s) (h:Sq X.K H t a xs) (f:D2 X pins H b):a≠b:=by
 have tr:∀ {u:HO},Rd H a u->a≠b:=fun {u} r e=>by
  subst e
  have f0:=f.1
  rcases r with r | ⟨o,r⟩ <;> (rw [f0] at r; cases r)
 unfold Sq at h
 split at h
 ·rcases h with h | ⟨o,its,n,hk,_⟩
  ·exact tr h
  ·exact kne I hk f
 ·rcases h with h | ⟨o,its,n,hk,_⟩
  ·exact tr h
  ·exact kne I hk f
theorem Sq.src {t:Bool} {a:Addr} {xs:List V} (I:Inv X pins σ H s) (h:Sq X.K H t a xs):∃ its:List Value,Vals xs its/\(Sub.mk t 0 a).Src s.heap its.toArray:=by
 unfold Sq at h
 unfold Sub.Src
 split at h
 ·rename_i ht
  obtain ⟨its,r,p,_⟩:=I.tuple h
  exact ⟨its,r,by simp only [ht,if_true]; exact p⟩
 ·rename_i ht
  obtain ⟨its,r,p,_⟩:=I.list h
  exact ⟨its,r,by simp only [ht,if_false]; exact p.isList⟩
theorem Sq.inj {t:Bool} {a:Addr} {xs ys:List V} (I:Inv X pins σ H s) (h:Sq X.K H t a xs) (h':Sq X.K H t a ys):xs=ys:=by
 unfold Sq at h h'
 split at h
 ·rename_i ht; simp only [ht,if_true] at h'; exact I.tuple_inj h h'
 ·rename_i ht; simp only [ht,if_false] at h'; exact I.list_inj h h'
end
def ItZ (K:Frag) (us:List (Bool×Addr)):It:=
  ⟨fun i H=>∀ u∈us,∃ xs x,Sq K H u.1 u.2 xs/\xs[i]?=some x,
   fun i H x H'=>∃ p ys,x=.ref p/\H p=none/\H'=upd H p (.tup ys)/\Paired (fun (u:Bool×Addr) (y:V)=>∀ xs,Sq K H u.1 u.2 xs->xs[i]?=some y) us ys,
   fun i H=>(∀ u∈us,∃ xs,Sq K H u.1 u.2 xs)/\∃ u∈us,∃ xs,Sq K H u.1 u.2 xs/\xs.length<=i⟩
structure ZSt (z TI TO:Addr) (subs:List Sub):Prop where
 zTO:z≠TO
 TIz:TI≠z
 TITO:TI≠TO
 zi:∀ u∈subs,u.i≠z
 ti:∀ u∈subs,u.i≠TO
 Ii:∀ u∈subs,u.i≠TI
 nd:subs.Pairwise fun u v=>u.i≠v.i
abbrev zTn (z TI TO:Addr) (subs:List Sub) (i:Nat) (h:Heap):Prop:=
 IsZip h z TI TO .none/\B7 h TI (subs.map fun u=>Value.ref u.i).toArray/\(∃ arr,B7 h TO arr/\arr.size=subs.length)/\∀ u∈subs,u.At h i
theorem O7 {α β γ:Type} {F:α->γ->Prop} {f:β->α} {g:β->γ}:∀ {l:List β},(∀ b∈l,F (f b) (g b))->Paired F (l.map f) (l.map g)
 | [],_=>.nil
 | _::_,h=>.cons (h _ List.mem_cons_self) (O7 fun b hb=>h b (List.mem_cons_of_mem _ hb))
theorem oH {P:Program} {w:World} {K:Frag} {elts:List Expr} {k:Nat} {tp:Pos} {z TI TO:Addr} {subs:List Sub} (D:ZSt z TI TO subs) (hne:subs ≠ []) (hln:subs.length<=sizeLine) :
  Turn P w K (.Tuple elts k tp) (ItZ K (subs.map fun u=>(u.t,u.l))) (z::TI::TO::subs.map (·.i)) z (zTn z TI TO subs) where
 mem:=by simp
 obj:=fun i h st b hb=>by
  obtain ⟨hz,hTI,⟨arr,hTO,_⟩,hs⟩:=st
  simp only [List.mem_cons,List.mem_map] at hb
  rcases hb with rfl | rfl | rfl | ⟨u,hu,rfl⟩
  ·exact ⟨_,hz,fun v q=>by cases q⟩
  ·exact ⟨_,hTI,fun v q=>by cases q⟩
  ·exact ⟨_,hTO,fun v q=>by cases q⟩
  ·obtain ⟨o,e,d⟩:=(hs u hu).obj
   exact ⟨o,e,fun v q=>by rw [d] at q; cases q⟩
 keep:=fun i h h' st kp=>by
  obtain ⟨hz,hTI,⟨arr,hTO,ha⟩,hs⟩:=st
  exact ⟨kp z (by simp) _ hz,kp TI (by simp) _ hTI,⟨arr,kp TO (by simp) _ hTO,ha⟩,fun u hu=>(hs u hu).keep fun o e=>kp u.i (by simp only [List.mem_cons,List.mem_map]; exact .inr (.inr (.inr ⟨u,hu,rfl⟩))) o e⟩
 item:=by
  intro X hP hw hK hc i pins s σ H E I hf st hg
  subst hP hw hK
  obtain ⟨hz,hTI,⟨arr,hTO,ha⟩,hs⟩:=st
  have fz:=hf z (by simp)
  have fT:=hf TO (by simp)
  have fi:∀ u∈subs,D2 X pins H u.i:=fun u hu=>hf u.i (by simp only [List.mem_cons,List.mem_map]; exact .inr (.inr (.inr ⟨u,hu,rfl⟩)))
  obtain ⟨ss,ess,hss⟩:=U0 (R:=fun (u:Sub) (q:List Value×List V×V)=>Sq X.K H u.t u.l q.2.1/\Vals q.2.1 q.1/\u.Src s.heap q.1.toArray/\q.2.1[i]?=some q.2.2) (l:=subs) (fun u hu=>by
   obtain ⟨xs,x,h1,h2⟩:=hg (u.t,u.l) (List.mem_map.mpr ⟨u,hu,rfl⟩)
   obtain ⟨its,r,hsrc⟩:=Sq.src I h1
   exact ⟨(its,xs,x),h1,r,hsrc,h2⟩)
  have mss:∀ v∈ss,v.1∈subs:=fun v hv=>by rw [<- ess]; exact List.mem_map.mpr ⟨v,hv,rfl⟩
  have nd2:ss.Pairwise fun u v=>u.1.i≠v.1.i:=by
   have:=D.nd
   rw [<- ess,List.pairwise_map] at this
   exact this
  have DA:Apart z TO (ss.map fun v=>(v.1,v.2.1.toArray)):=by
   refine ⟨D.zTO,?_,?_,?_,?_,?_,?_⟩
   ·rintro _ hu; obtain ⟨v,hv,rfl⟩:=List.mem_map.mp hu; exact D.zi _ (mss v hv)
   ·rintro _ hu; obtain ⟨v,hv,rfl⟩:=List.mem_map.mp hu; exact D.ti _ (mss v hv)
   ·rw [List.pairwise_map]; exact nd2
   ·rintro _ hu; obtain ⟨v,hv,rfl⟩:=List.mem_map.mp hu; exact Sq.ne I (hss v hv).1 fz
   ·rintro _ hu; obtain ⟨v,hv,rfl⟩:=List.mem_map.mp hu; exact Sq.ne I (hss v hv).1 fT
   ·rintro _ hu _ hu2; obtain ⟨v,hv,rfl⟩:=List.mem_map.mp hu; obtain ⟨v2,hv2,rfl⟩:=List.mem_map.mp hu2; exact Sq.ne I (hss v hv).1 (fi _ (mss v2 hv2))
  have el:(ss.map fun v=>(v.1,v.2.1.toArray)).length=subs.length:=by rw [List.length_map,<- ess,List.length_map]
  have eI:((ss.map fun v=>(v.1,v.2.1.toArray)).map fun u=>Value.ref u.1.i)=subs.map fun u=>Value.ref u.i:=by rw [<- ess,List.map_map,List.map_map]; rfl
  have ys:∀ v∈ss,∃ u,v.2.1.toArray[i]?=some u/\RelV v.2.2.2 u:=fun v hv=>by
   obtain ⟨u,e,r⟩:=(hss v hv).2.1.get (hss v hv).2.2.2
   exact ⟨u,by simpa using e,r⟩
  refine oB (n:=i) DA (by intro q; apply hne; have:=congrArg List.length q; rw [el] at this; exact List.length_eq_zero_iff.mp this) (by rw [ha,el]) (by rw [el]; exact hln) hz (by rw [eI]; exact hTI) hTO (fun u hu=>?_) fun h1 z1 T1 a1 p1 k1=>?_
  ·obtain ⟨v,hv,rfl⟩:=List.mem_map.mp hu
   obtain ⟨u,e,_⟩:=ys v hv
   exact ⟨hs _ (mss v hv),(hss v hv).2.2.1,u,e⟩
  refine ⟨_,rfl,wpAny_letOwnedTupleGo_zip z1 fun h2 z2 sb2=>?_⟩
  have hzl:z<s.heap.objs.size:=Heap.lt_size hz
  have kp:∀ b o,b≠z->b≠TO->(∀ u∈subs,b≠u.i)->s.heap.get? b=some o->h2.get? b=some o:=fun b o b1 b2 b3 e=>sb2.extBut _ _ b1 (k1 b o b1 b2 (fun u hu=>by obtain ⟨v,hv,rfl⟩:=List.mem_map.mp hu; exact b3 _ (mss v hv)) e)
  have hfr:H s.heap.objs.size=none:=I.hok.fresh (Nat.le_refl _)
  have trk:∀ b u,H b=some u->b≠z/\b≠TO/\∀ v∈subs,b≠v.i:=fun b u e=>⟨fun q=>(by subst q; rw [fz.1] at e; cases e),fun q=>(by subst q; rw [fT.1] at e; cases e),fun v hv q=>(by subst q; rw [(fi v hv).1] at e; cases e)⟩
  have hP2:B7 h2 s.heap.objs.size (ss.map fun v=>v.2.1.toArray.getD i .none).toArray:=by
   have:=sb2.extBut _ _ (Nat.ne_of_gt hzl) p1
   rw [List.map_map] at this
   exact this
  have rel:Vals (ss.map fun v=>v.2.2.2) (ss.map fun v=>v.2.1.toArray.getD i .none):=O7 fun v hv=>by
   obtain ⟨u,e,r⟩:=ys v hv
   rw [show v.2.1.toArray.getD i Value.none=u by simp only [Array.getD_eq_getD_getElem?,e,Option.getD_some]]
   exact r
  have len:(ss.map fun v=>v.2.2.2).length<=sizeLine:=by rw [List.length_map,show ss.length=subs.length by rw [<- ess,List.length_map]]; exact hln
  refine ⟨.ref s.heap.objs.size,upd H s.heap.objs.size (.tup (ss.map fun v=>v.2.2.2)),?_,rfl,⟨_,_,rfl,hfr,rfl,?_⟩,⟨z2,?_,?_,fun u hu=>?_⟩,fun b hb=>?_⟩
  ·show Inv X pins σ _ { s with heap:=h2 }
   refine I.step (g':=s.gens) (t':=s.toks) (d':=s.drawn) (ch:=z::TO::subs.map (·.i)) (fun b hb=>?_) (fun b o _ _ hc e _=>kp b o ?_ ?_ ?_ e) (fun b o _ _ hc e _=>⟨o.slots,kp b o ?_ ?_ ?_ e⟩) (fun b o hc e n=>?_) (fun b o hc e=>⟨o,kp b o ?_ ?_ ?_ e⟩) (fun b xs e=>?_) (fun b o u e=>?_) (fun b ps e=>?_) (fun m hm=>?_) ?_ I.bare
   ·simp only [List.mem_cons,List.mem_map] at hb
    rcases hb with rfl | rfl | ⟨u,hu,rfl⟩
    ·exact ⟨fz.2.2.2.1,fz.2.1,fz.2.2.2.2.1,fz.2.2.2.2.2⟩
    ·exact ⟨fT.2.2.2.1,fT.2.1,fT.2.2.2.2.1,fT.2.2.2.2.2⟩
    ·have f:=fi u hu; exact ⟨f.2.2.2.1,f.2.1,f.2.2.2.2.1,f.2.2.2.2.2⟩
   all_goals first
    | (intro q; exact hc (by simp [q]; done))
    | (intro u hu q; exact hc (by rw [q]; exact List.mem_cons_of_mem _ (List.mem_cons_of_mem _ (List.mem_map.mpr ⟨u,hu,rfl⟩))))
    | skip
   ·rw [b9 (Nat.ne_of_lt (Heap.lt_size e))]; exact n
   ·rw [b9 (c9 e hfr)]; exact e
   ·rw [b9 (c9 e hfr)]; exact e
   ·exact ⟨#[],by rw [b9 (c9 e hfr),e]; simp⟩
   ·obtain ⟨o,es,ep,ho,r⟩:=hm
    exact ⟨o,es,ep,kp _ o (Ne.symm fz.2.1) (Ne.symm fT.2.1) (fun u hu=>Ne.symm (fi u hu).2.1) ho,r⟩
   ·intro b u e
    by_cases hb:b=s.heap.objs.size
    ·subst hb
     rw [g7] at e; cases e
     exact ⟨len,_,rel,⟨_,hP2,rfl,_,rfl⟩⟩
    ·rw [b9 hb] at e
     refine (I.hok b u e).stay (fun c v hcc q=>?_) (fun c q=>by rw [b9 (c9 q hfr)]; exact q) fun c xs q=>by rw [b9 (c9 q hfr)]; exact q
     rcases hcc with rfl | hcc
     ·exact kp _ v (trk _ _ e).1 (trk _ _ e).2.1 (trk _ _ e).2.2 q
     ·exact kp _ v (trk _ _ hcc).1 (trk _ _ hcc).2.1 (trk _ _ hcc).2.2 q
  ·rw [<- ess,List.map_map]
   exact O7 fun v hv xs hx=>by rw [Sq.inj I hx (hss v hv).1]; exact (hss v hv).2.2.2
  ·exact kp TI _ D.TIz D.TITO (fun u hu=>Ne.symm (D.Ii u hu)) hTI
  ·obtain ⟨arr',hT',ha'⟩:=T1
   exact ⟨arr',sb2.extBut _ _ D.zTO.symm hT',by rw [ha',el]⟩
  ·have hv:∃ v∈ss,v.1=u:=by rw [<- ess] at hu; exact List.mem_map.mp hu
   obtain ⟨v,hv,rfl⟩:=hv
   exact (a1 (v.1,v.2.1.toArray) (List.mem_map.mpr ⟨v,hv,rfl⟩)).keep fun o e=>sb2.extBut _ _ (D.zi _ (mss v hv)) e
  ·have:b≠s.heap.objs.size:=by
    simp only [List.mem_cons,List.mem_map] at hb
    rcases hb with rfl | rfl | rfl | ⟨u,hu,rfl⟩
    ·exact Nat.ne_of_lt hzl
    ·exact Nat.ne_of_lt (Heap.lt_size hTI)
    ·exact Nat.ne_of_lt (Heap.lt_size hTO)
    ·obtain ⟨o,e,_⟩:=(hs u hu).obj; exact Nat.ne_of_lt (Heap.lt_size e)
   rw [b9 this]
   exact (hf b hb).1
 done:=by
  intro X hP hw hK hc i pins s σ H E I hf st hg
  subst hP hw hK
  obtain ⟨hz,hTI,⟨arr,hTO,ha⟩,hs⟩:=st
  obtain ⟨hall,u0,hu0,xs0,hq0,hl0⟩:=hg
  have fz:=hf z (by simp)
  have fT:=hf TO (by simp)
  have fi:∀ u∈subs,D2 X pins H u.i:=fun u hu=>hf u.i (by simp only [List.mem_cons,List.mem_map]; exact .inr (.inr (.inr ⟨u,hu,rfl⟩)))
  obtain ⟨ss,ess,hss⟩:=U0 (R:=fun (u:Sub) (q:List Value×List V)=>Sq X.K H u.t u.l q.2/\Vals q.2 q.1/\u.Src s.heap q.1.toArray) (l:=subs) (fun u hu=>by
   obtain ⟨xs,h1⟩:=hall (u.t,u.l) (List.mem_map.mpr ⟨u,hu,rfl⟩)
   obtain ⟨its,r,hsrc⟩:=Sq.src I h1
   exact ⟨(its,xs),h1,r,hsrc⟩)
  have mss:∀ v∈ss,v.1∈subs:=fun v hv=>by rw [<- ess]; exact List.mem_map.mpr ⟨v,hv,rfl⟩
  have nd2:ss.Pairwise fun u v=>u.1.i≠v.1.i:=by
   have:=D.nd
   rw [<- ess,List.pairwise_map] at this
   exact this
  have DA:Apart z TO (ss.map fun v=>(v.1,v.2.1.toArray)):=by
   refine ⟨D.zTO,?_,?_,?_,?_,?_,?_⟩
   ·rintro _ hu; obtain ⟨v,hv,rfl⟩:=List.mem_map.mp hu; exact D.zi _ (mss v hv)
   ·rintro _ hu; obtain ⟨v,hv,rfl⟩:=List.mem_map.mp hu; exact D.ti _ (mss v hv)
   ·rw [List.pairwise_map]; exact nd2
   ·rintro _ hu; obtain ⟨v,hv,rfl⟩:=List.mem_map.mp hu; exact Sq.ne I (hss v hv).1 fz
   ·rintro _ hu; obtain ⟨v,hv,rfl⟩:=List.mem_map.mp hu; exact Sq.ne I (hss v hv).1 fT
   ·rintro _ hu _ hu2; obtain ⟨v,hv,rfl⟩:=List.mem_map.mp hu; obtain ⟨v2,hv2,rfl⟩:=List.mem_map.mp hu2; exact Sq.ne I (hss v hv).1 (fi _ (mss v2 hv2))
  have el:(ss.map fun v=>(v.1,v.2.1.toArray)).length=subs.length:=by rw [List.length_map,<- ess,List.length_map]
  have eI:((ss.map fun v=>(v.1,v.2.1.toArray)).map fun u=>Value.ref u.1.i)=subs.map fun u=>Value.ref u.i:=by rw [<- ess,List.map_map,List.map_map]; rfl
  refine oA (n:=i) (I.ok.hd hc) DA (by rw [ha,el]) (by rw [el]; exact hln) hz (by rw [eI]; exact hTI) hTO (fun u hu=>?_) ?_ fun h1 k1=>⟨rfl,?_⟩
  ·obtain ⟨v,hv,rfl⟩:=List.mem_map.mp hu
   exact ⟨hs _ (mss v hv),(hss v hv).2.2⟩
  ·obtain ⟨u,hu,e0⟩:=List.mem_map.mp hu0
   have hv:∃ v∈ss,v.1=u:=by rw [<- ess] at hu; exact List.mem_map.mp hu
   obtain ⟨v,hv,rfl⟩:=hv
   subst e0
   refine ⟨(v.1,v.2.1.toArray),List.mem_map.mpr ⟨v,hv,rfl⟩,?_⟩
   have e1:=Sq.inj I (hss v hv).1 hq0
   have e2:=(hss v hv).2.1.length
   rw [e1] at e2
   simp only [List.getElem?_toArray]
   exact List.getElem?_eq_none (by omega)
  ·have kp:∀ b o,b≠z->b≠TO->(∀ u∈subs,b≠u.i)->s.heap.get? b=some o->h1.get? b=some o:=fun b o b1 b2 b3 e=>k1 b o b1 b2 (fun u hu=>by obtain ⟨v,hv,rfl⟩:=List.mem_map.mp hu; exact b3 _ (mss v hv)) e
   have trk:∀ b u,H b=some u->b≠z/\b≠TO/\∀ v∈subs,b≠v.i:=fun b u e=>⟨fun q=>(by subst q; rw [fz.1] at e; cases e),fun q=>(by subst q; rw [fT.1] at e; cases e),fun v hv q=>(by subst q; rw [(fi v hv).1] at e; cases e)⟩
   refine I.step (g':=s.gens) (t':=s.toks) (d':=s.drawn) (ch:=z::TO::subs.map (·.i)) (fun b hb=>?_) (fun b o _ _ hc e _=>kp b o ?_ ?_ ?_ e) (fun b o _ _ hc e _=>⟨o.slots,kp b o ?_ ?_ ?_ e⟩) (fun b o hc e n=>n) (fun b o hc e=>⟨o,kp b o ?_ ?_ ?_ e⟩) (fun b xs e=>e) (fun b o u e=>e) (fun b ps e=>⟨#[],by rw [e]; simp⟩) (fun m hm=>?_) (fun b u e=>?_) I.bare
   ·simp only [List.mem_cons,List.mem_map] at hb
    rcases hb with rfl | rfl | ⟨u,hu,rfl⟩
    ·exact ⟨fz.2.2.2.1,fz.2.1,fz.2.2.2.2.1,fz.2.2.2.2.2⟩
    ·exact ⟨fT.2.2.2.1,fT.2.1,fT.2.2.2.2.1,fT.2.2.2.2.2⟩
    ·have f:=fi u hu; exact ⟨f.2.2.2.1,f.2.1,f.2.2.2.2.1,f.2.2.2.2.2⟩
   all_goals first
    | (intro q; exact hc (by simp [q]; done))
    | (intro u hu q; exact hc (by rw [q]; exact List.mem_cons_of_mem _ (List.mem_cons_of_mem _ (List.mem_map.mpr ⟨u,hu,rfl⟩))))
    | skip
   ·obtain ⟨o,es,ep,ho,r⟩:=hm
    exact ⟨o,es,ep,kp _ o (Ne.symm fz.2.1) (Ne.symm fT.2.1) (fun u hu=>Ne.symm (fi u hu).2.1) ho,r⟩
   ·refine (I.hok b u e).stay (fun c v hcc q=>?_) (fun c q=>q) fun c xs q=>q
    rcases hcc with rfl | hcc
    ·exact kp _ v (trk _ _ e).1 (trk _ _ e).2.1 (trk _ _ e).2.2 q
    ·exact kp _ v (trk _ _ hcc).1 (trk _ _ hcc).2.1 (trk _ _ hcc).2.2 q
 self:=fun _ _ _ _ _ st h=>wpAny_pyIter_zip st.1 h
def zN (K:Frag) (ta:TA):TI:=fun σ H R=>ta σ H fun vs H1=>∃ us:List (Bool×Addr),vs=us.map (fun u=>V.ref u.2)/\(us.length=2\/us.length=3)/\(∀ u∈us,∃ xs,Sq K H1 u.1 u.2 xs)/\R (ItZ K us) H1
theorem neN {a b:Nat} (h:a≠b):(a:Addr)≠b:=h
theorem ll:∀ {us:List (Bool×Addr)} {vs:List Value},Vals (us.map fun u=>V.ref u.2) vs->vs=us.map fun u=>Value.ref u.2:=by
 intro us
 induction us with
 | nil=>intro vs h; cases h; rfl
 | cons u us ih=>
  intro vs h
  cases h with
  | cons r t=>
   have r':_=Value.ref _:=r
   rw [r',ih t]; rfl
theorem Z5:∀ (us:List (Bool×Addr×Array Value)) (n:Nat),∀ v∈g5 n us,n<=v.1.i/\n+us.length>v.1.i:=by
 intro us
 induction us with
 | nil=>exact fun _ _ h=>absurd h List.not_mem_nil
 | cons u r ih=>
  intro n v h
  rcases List.mem_cons.mp h with rfl | h
  ·exact ⟨Nat.le_refl _,by show n+(r.length+1)>n; omega⟩
  ·have:=ih (n+1) v h
   rw [List.length_cons]; omega
theorem iO:∀ (us:List (Bool×Addr×Array Value)) (n:Nat),(g5 n us).Pairwise fun u v=>u.1.i≠v.1.i
 | [],_=>.nil
 | u::r,n=>by
  refine List.pairwise_cons.mpr ⟨fun v hv=>?_,iO r (n+1)⟩
  have:=Z5 r (n+1) v hv
  show (n:Nat)≠v.1.i
  omega
theorem fx:∀ (us:List (Bool×Addr×Array Value)) (n:Nat),(g5 n us).map (fun u=>(u.1.t,u.1.l))=us.map fun u=>(u.1,u.2.1)
 | [],_=>rfl
 | u::r,n=>by unfold g5; rw [List.map_cons,fx r,List.map_cons]
section
variable {X:Cx}
theorem yt {a:Expr} {es elts:List Expr} {ta:TA} {p pos tp:Pos} {k:Nat} (hg:Gl X "zip") (hm:X.mg "zip" = none) (ha:PA X (a::es) ta) (hs:starEach (a::es) X.env=(false,eval a X.env)::starEach es X.env:=by rfl)
  (hpl:(backTo pos (starEach es X.env)).any (·.1)=false:=by rfl):PI X (.Tuple elts k tp) (.Call (.Name "zip" p) (a::es) [] pos) (zN X.K ta):=by
 intro pins s σ H R I h
 refine Call_ (N0 I hg hm boot_zip (PyProof.Rows.callWith_type1 (thn (ha pos pins s σ H _ I h) fun vs s1 zz52=>?_) hs hpl))
 obtain ⟨xs,H1,I1,r1,us,e1,hl,hsq,q⟩:=zz52
 subst e1
 have e2:=ll r1
 subst e2
 obtain ⟨ws,ew,hws⟩:=U0 (R:=fun (u:Bool×Addr) (its:Array Value)=>SrcAt s1.heap (u.1,u.2,its)) (l:=us) (fun u hu=>by
  obtain ⟨ys,hy⟩:=hsq u hu
  obtain ⟨its,_,hsrc⟩:=Sq.src I1 hy
  exact ⟨its.toArray,by unfold SrcAt; unfold Sub.Src at hsrc; exact hsrc⟩)
 have ev:us.map (fun u=>Value.ref u.2)=(ws.map fun w=>(w.1.1,w.1.2,w.2)).map fun u=>Value.ref u.2.1:=by rw [<- ew,List.map_map,List.map_map]; rfl
 have el:(ws.map fun w=>(w.1.1,w.1.2,w.2)).length=us.length:=by rw [<- ew,List.length_map,List.length_map]
 rw [ev]
 generalize hW:(ws.map fun w=>(w.1.1,w.1.2,w.2))=W at el ev
 have hsw:∀ u∈W,SrcAt s1.heap u:=fun u hu=>by
  rw [<- hW] at hu
  obtain ⟨w,hw,rfl⟩:=List.mem_map.mp hu
  exact hws w hw
 refine rd W (by rw [el]; exact hl) hsw fun h' hA hTI hTO hz hk=>wpAny_pyIter_zip hz ?_
 have I2:Inv X pins σ H1 { s1 with heap:=h' }:=I1.kept (t':=s1.toks) hk
 have eS:((g5 s1.heap.objs.size W).map (·.1)).map (fun u=>(u.t,u.l))=us:=by
  rw [List.map_map]
  show (g5 s1.heap.objs.size W).map (fun u=>(u.1.t,u.1.l))=us
  rw [fx,<- hW,List.map_map,<- ew]
  rfl
 have D:ZSt (s1.heap.objs.size+W.length+2) (s1.heap.objs.size+W.length) (s1.heap.objs.size+W.length+1) ((g5 s1.heap.objs.size W).map (·.1)):=by
  refine ⟨neN (by omega),neN (by omega),neN (by omega),?_,?_,?_,?_⟩
  ·rintro _ hu; obtain ⟨v,hv,rfl⟩:=List.mem_map.mp hu; have:=Z5 W _ v hv; exact neN (by omega)
  ·rintro _ hu; obtain ⟨v,hv,rfl⟩:=List.mem_map.mp hu; have:=Z5 W _ v hv; exact neN (by omega)
  ·rintro _ hu; obtain ⟨v,hv,rfl⟩:=List.mem_map.mp hu; have:=Z5 W _ v hv; exact neN (by omega)
  ·rw [List.pairwise_map]; exact iO W _
 have ls:((g5 s1.heap.objs.size W).map (·.1)).length=W.length:=by rw [List.length_map,M0]
 have TZ:=oH (P:=X.prog) (w:=X.w) (K:=X.K) (elts:=elts) (k:=k) (tp:=tp) D (by intro q; have:=congrArg List.length q; rw [ls,el] at this; have h0:us.length=0:=this; omega) (by rw [ls,el]; exact Nat.le_trans (show us.length<=3 by omega) (by decide))
 rw [eS] at TZ
 refine ⟨_,_,_,_,H1,rfl,I2,TZ,⟨hz,?_,?_,fun u hu=>?_⟩,fun b hb=>?_,q⟩
 ·rw [List.map_map]; exact hTI
 ·obtain ⟨arr,h1,h2⟩:=hTO
  exact ⟨arr,h1,by rw [ls]; exact h2⟩
 ·obtain ⟨v,hv,rfl⟩:=List.mem_map.mp hu
  exact hA v hv
 ·have hb':s1.heap.objs.size<=b:=by
   simp only [List.mem_cons,List.mem_map] at hb
   rcases hb with rfl | rfl | rfl | ⟨_,⟨v,hv,rfl⟩,rfl⟩
   ·omega
   ·omega
   ·omega
   ·exact (Z5 W _ v hv).1
  have f:=I1.fpOk (H':=H1) hb' (I1.hok.fresh hb')
  exact f
end
end L2
namespace L2
open PySem PySem.Spec PyProof.Rows
theorem E7 (cs:Scope) (env:Env) (x:Str):(relabel cs env).names.lookup x=(cs.names.lookup x).map fun k=>if (k == .free&&env.scope.kind == .function&&env.kindOf x == some .cell)=true then .cell else k:=by
 unfold relabel
 show List.lookup x (cs.names.map _)=_
 induction cs.names with
 | nil=>rfl
 | cons p r ih=>
  obtain ⟨n,k⟩:=p
  by_cases hx:x=n
  ·subst hx
   rw [List.map_cons]
   simp only [List.lookup_cons]
   split <;> simp_all
  ·have hb:(x == n)=false:=by simpa using hx
   have er:List.lookup x ((n,k)::r)=List.lookup x r:=by rw [List.lookup_cons,hb]
   rw [List.map_cons,er]
   refine Eq.trans ?_ ih
   dsimp only
   by_cases hc:(k == NameKind.free&&env.scope.kind == ScopeKind.function&&env.kindOf n == some NameKind.cell)=true
   ·rw [if_pos hc,List.lookup_cons,hb]
   ·rw [if_neg hc,List.lookup_cons,hb]
theorem cI {env : Env} : ∀ (names : List (Str × NameKind)) (cs0 : List (Str × Addr)), (∀ x ∈ names, x.2 = .free -> ∃ c, env.cells.lookup x.1 = some c) -> (∀ x c, cs0.lookup x = some c -> env.cells.lookup x = some c) ->
    ∃ cl, (forIn (m := Sem) names cs0 fun x __s => if (x.snd == NameKind.free) = true then do
              let __do_lift <- cellOf env x.fst
              pure (ForInStep.yield ((x.fst, __do_lift) :: __s))
            else pure (ForInStep.yield __s)) = pure cl /\ (∀ x c, cl.lookup x = some c -> env.cells.lookup x = some c) /\ (∀ x, (x, NameKind.free) ∈ names -> ∃ c, cl.lookup x = some c) /\ ∀ x c, cs0.lookup x = some c -> ∃ c', cl.lookup x = some c' := by
  intro names
  induction names with
  | nil =>
    intro cs0 _ h0
    exact ⟨cs0, by simp only [List.forIn_nil], h0, fun _ h => absurd h List.not_mem_nil, fun _ c h => ⟨c, h⟩⟩
  | cons p r ih =>
    intro cs0 hf h0
    obtain ⟨n, k⟩ := p
    by_cases hk : k = .free
    · subst hk
      obtain ⟨c, hc⟩ := hf (n, .free) List.mem_cons_self rfl
      obtain ⟨cl, e, h1, h2, h3⟩ := ih ((n, c) :: cs0) (fun x hx => hf x (List.mem_cons_of_mem _ hx)) (fun x c' hx => by
        rw [List.lookup_cons] at hx
        split at hx
        · rename_i hb
          have hxn : x = n := by simpa using hb
          cases hx; rw [hxn]; exact hc
        · exact h0 x c' hx)
      have hn : ∃ c', cl.lookup n = some c' := h3 n c (by simp)
      refine ⟨cl, ?_, h1, fun x hx => ?_, fun x c' hx => ?_⟩
      · rw [List.forIn_cons]
        simp only [beq_self_eq_true, if_true, cellOf, hc]
        exact e
      · rcases List.mem_cons.mp hx with q | hx
        · cases q; exact hn
        · exact h2 x hx
      · by_cases hxn : x = n
        · subst hxn; exact hn
        · exact h3 x c' (by
            have hb : (x == n) = false := by simpa using hxn
            rw [List.lookup_cons, hb]; exact hx)
    · have hb : (k == NameKind.free) = false := by simpa using hk
      obtain ⟨cl, e, h1, h2, h3⟩ := ih cs0 (fun x hx => hf x (List.mem_cons_of_mem _ hx)) h0
      refine ⟨cl, ?_, h1, fun x hx => ?_, h3⟩
      · rw [List.forIn_cons]
        simp only [hb, Bool.false_eq_true, if_false]
        exact e
      · rcases List.mem_cons.mp hx with q | hx
        · cases q; exact absurd rfl hk
        · exact h2 x hx
structure g6 (sc cs:Scope) (N N':List Str):Prop where
 kind:cs.kind=.function
 ncell:∀ x∈cs.names,x.2≠.cell
 loc:∀ x∈cs.names,x.2=.local->cs.names.lookup x.1=some .local
 free:∀ x∈cs.names,x.2=.free->sc.names.lookup x.1=some .cell\/sc.names.lookup x.1=some .free
 nd:N'.Nodup
 len:N.length<=N'.length
 same:∀ i∈List.range N.length,N'[i]?=N[i]?\/∀ x∈N'[i]?,cs.names.lookup x=none
 out:∀ x∈N'.take N.length,cs.names.lookup x≠some .local
abbrev i8 (X:Cx) (cs:Scope) (cl:List (Str×Addr)) (N':List Str) (ex:List Addr) (s:Shared) (H:Hp):Cx:=
 { X with N:=N',s₀:=s,H₀:=H,env:=compEnvC cs cl s.heap.objs.size X.env,outer:=X.stack,stack:=X.stack,ex:=ex,fn:=fun _=>false,pn:=[],xe:=fun _ _=>False }
def inner (N':List Str) (σ:St):St:=σ++List.replicate (N'.length-σ.length) none
theorem dX {N':List Str} {σ:St} {i:Nat} {v:V} (h:(inner N' σ)[i]?=some (some v)):σ[i]?=some (some v):=by
 unfold inner at h
 by_cases hi:i<σ.length
 ·rwa [List.getElem?_append_left hi] at h
 ·rw [List.getElem?_append_right (by omega),List.getElem?_replicate] at h
  split at h <;> cases h
theorem qY {X:Cx} {pins:List (Addr×Obj)} {σ:St} {H:Hp} {s3 s4:Shared} {cs:Scope} {cl:List (Str×Addr)} {N':List Str} {fp:List Addr} {m:Str->Option Value} (S:g6 X.env.scope cs X.N N') (I:Inv X pins σ H s3)
  (hcl1:∀ x c,cl.lookup x=some c->X.env.cells.lookup x=some c) (hcl2:∀ x,(x,NameKind.free)∈cs.names->∃ c,cl.lookup x=some c) (hf:∀ b∈fp,D2 X pins H b) (hlt:∀ b∈fp,b<s3.heap.objs.size)
  (kp:∀ b o,s3.heap.get? b=some o->s4.heap.get? b=some o) (hn:s4.heap.Ns s3.heap.objs.size m) (hos:s4.os=s3.os) (hg:s4.gens=s3.gens):Inv (i8 X cs cl N' fp s3 H) [] (inner N' σ) H s4:=by
 have kcell:∀ {c:Addr} {v:Option Value},s3.heap.IsCell c v->s4.heap.IsCell c v:=fun {c v} z=>by obtain ⟨o,e,d⟩:=z; exact ⟨o,kp c o e,d⟩
 refine ⟨⟨I.ok.mod,S.kind,I.ok.glob,I.ok.blt,Nat.le_refl _,fun x y c h1 h2=>I.ok.inj x y c (hcl1 x c h1) (hcl1 y c h2),fun x hx=>?_,fun x c h _=>absurd (show false=true from h) (by decide),I.ok.hd,I.ok.frames,.inl rfl,fun b hb=>⟨?_,fun x c e=>(hf b hb).2.2.2.2.1 x c (hcl1 x c e)⟩,I.bs,Nat.le_trans I.ok.bsz I.sz,fun b o e hb=>?_,fun b hb hfs=>?_,I.stack,I.stkFree⟩,
  hos,by rw [hg]; exact I.bare,Un.kept kp,⟨m,hn,fun i x v e1 e2 e3=>?_⟩,fun x c e=>?_,I.hok.fresh (Nat.le_refl _),fun x c e=>I.freeC x c (hcl1 x c e),fun p hp=>absurd (show p∈([]:List (Addr×Obj)) from hp) (by simp),I.hok.kept kp,?_⟩
 ·have hx':(relabel cs X.env).names.lookup x=some .cell\/(relabel cs X.env).names.lookup x=some .free:=hx
  rw [E7] at hx'
  cases hl:cs.names.lookup x with
  | none=>rw [hl] at hx'; rcases hx' with h | h <;> cases h
  | some k=>
   have hm:=PySem.mem_of_lookup hl
   by_cases hk:k=.free
   ·subst hk; exact hcl2 x hm
   ·exfalso
    have hb:(k == NameKind.free)=false:=by simpa using hk
    rw [hl] at hx'
    simp only [Option.map_some,hb,Bool.false_and,Bool.false_eq_true,if_false] at hx'
    rcases hx' with h | h
    ·cases h; exact S.ncell _ hm rfl
    ·cases h; exact hk rfl
 ·intro q
  have hb':b=s3.heap.objs.size:=q
  exact absurd (hlt b hb) (by rw [hb']; exact Nat.lt_irrefl _)
 ·obtain ⟨f0,f1,f2,f3,f4,f5⟩:=hf b hb
  rcases f3 with z | z
  ·exact I.ok.noex b o e z
  ·exact absurd (Nat.lt_of_lt_of_le (Heap.lt_size (I.ok.bs b o e).1) z) (Nat.lt_irrefl _)
 ·have hfs':b∈frs X.stack:=hfs
  rcases List.mem_cons.mp (I.stkSub b hfs') with z | z
  ·exact (hf b hb).2.1 z
  ·exact (hf b hb).2.2.1 z
 ·have e2':=dX e2
  have hi:i<X.N.length:=by rw [<- I.len]; exact (List.getElem?_eq_some_iff.mp e2').1
  have e1':N'[i]?=some x:=e1
  have e3':Vis (relabel cs X.env) x:=e3
  have hv:∃ k,cs.names.lookup x=some k:=by
   unfold Vis at e3'
   rw [E7] at e3'
   cases hl:cs.names.lookup x with
   | none=>rw [hl] at e3'; rcases e3' with h | h | h <;> cases h
   | some k=>exact ⟨k,rfl⟩
  obtain ⟨k,hk⟩:=hv
  have hN:X.N[i]?=some x:=by
   rcases S.same i (List.mem_range.mpr hi) with q | q
   ·rw [<- q]; exact e1'
   ·have:=q x (by rw [e1']; rfl)
    rw [hk] at this; cases this
  have hnl:k≠.local:=fun q=>by
   subst q
   exact S.out x (List.mem_of_getElem? (i:=i) (by rw [List.getElem?_take_of_lt hi]; exact e1')) hk
  have hm:=PySem.mem_of_lookup hk
  have hfree:k=.free:=by
   unfold Vis at e3'
   rw [E7,hk] at e3'
   by_cases hkf:k=.free
   ·exact hkf
   ·exfalso
    have hb:(k == NameKind.free)=false:=by simpa using hkf
    simp only [Option.map_some,hb,Bool.false_and,Bool.false_eq_true,if_false] at e3'
    rcases e3' with h | h | h
    ·exact hnl (Option.some.inj h)
    ·exact S.ncell _ hm (Option.some.inj h)
    ·exact hkf (Option.some.inj h)
  subst hfree
  obtain ⟨m0,hn0,hl0⟩:=I.loc
  have hvis:Vis X.env.scope x:=by
   rcases S.free _ hm rfl with h | h
   ·exact .inr (.inl h)
   ·exact .inr (.inr h)
  obtain ⟨u,r,l⟩:=hl0 i x v hN e2' hvis
  refine ⟨u,r,.inr ⟨?_,?_⟩⟩
  ·show (relabel cs X.env).names.lookup x=some .cell\/(relabel cs X.env).names.lookup x=some .free
   rw [E7,hk]
   show some (if _ then _ else _)=_\/some (if _ then _ else _)=_
   split
   ·exact .inl rfl
   ·exact .inr rfl
  ·obtain ⟨c,hc⟩:=hcl2 x hm
   have hc':=hcl1 x c hc
   rcases l with ⟨q,_⟩ | ⟨_,c',e,z⟩
   ·exfalso
    have q':X.env.scope.names.lookup x=some .local:=q
    rcases S.free _ hm rfl with h | h <;> (rw [q'] at h; cases h)
   ·rw [hc'] at e; cases e
    exact ⟨c,hc,kcell z⟩
 ·obtain ⟨v,z⟩:=I.cell x c (hcl1 x c e)
  exact ⟨v,kcell z⟩
 ·unfold inner
  rw [List.length_append,List.length_replicate,I.len]
  have:=S.len
  show _=N'.length
  omega
def S8 (n:Nat) (g:TG):Prop:=∀ (v:V) (σ:St) (H:Hp) (Q:St->Hp->Prop),g v σ H Q->g v σ H fun σ2 H2=>Q σ2 H2/\σ2.length=σ.length/\∀ j,j<n->σ2[j]?=σ[j]?
def cP (n:Nat) (g:TGs):Prop:=∀ (vs:List V) (σ:St) (H:Hp) (Q:St->Hp->Prop),g vs σ H Q->g vs σ H fun σ2 H2=>Q σ2 H2/\σ2.length=σ.length/\∀ j,j<n->σ2[j]?=σ[j]?
theorem y4 {n i:Nat} (h:n<=i):S8 n (C4 i):=fun v σ H Q q=>⟨q,by simp,fun j hj=>List.getElem?_set_ne (by omega)⟩
theorem ah {n:Nat}:cP n gNil:=fun vs σ H Q zz53=>by obtain ⟨e,q⟩:=zz53; exact ⟨e,q,rfl,fun _ _=>rfl⟩
theorem B3 {n i:Nat} {u:TGs} (h:n<=i) (hu:cP n u):cP n (kJ (C4 i) u):=fun vs σ H Q zz54=>by
 obtain ⟨v,r,e,q⟩:=zz54
 refine ⟨v,r,e,?_⟩
 have q':=hu r (σ.set i (some v)) H Q q
 show u r (σ.set i (some v)) H _
 have e1:∀ σ2:St,(σ2.length=(σ.set i (some v)).length/\∀ j,j<n->σ2[j]?=(σ.set i (some v))[j]?)=(σ2.length=σ.length/\∀ j,j<n->σ2[j]?=σ[j]?):=fun σ2=>by
  have:∀ j,j<n->(σ.set i (some v))[j]?=σ[j]?:=fun j hj=>List.getElem?_set_ne (by omega)
  rw [List.length_set]
  exact propext ⟨fun zz55=>by obtain ⟨a,b⟩:=zz55; exact ⟨a,fun j hj=>(b j hj).trans (this j hj)⟩,fun zz56=>by obtain ⟨a,b⟩:=zz56; exact ⟨a,fun j hj=>(b j hj).trans (this j hj).symm⟩⟩
 have e2:(fun (σ2:St) (H2:Hp)=>Q σ2 H2/\σ2.length=σ.length/\∀ j,j<n->σ2[j]?=σ[j]?)=fun σ2 H2=>Q σ2 H2/\σ2.length=(σ.set i (some v)).length/\∀ j,j<n->σ2[j]?=(σ.set i (some v))[j]?:=by
  funext σ2 H2; rw [e1]
 rw [e2]; exact q'
theorem ag {K:Frag} {n k:Nat} {u:TGs} (hu:cP n u):S8 n (kI K k u):=fun v σ H Q zz57=>by obtain ⟨a,xs,e,h1,h2,q⟩:=zz57; exact ⟨a,xs,e,h1,h2,hu xs σ H Q q⟩
def PIf (X:Cx) (ifs:List Expr) (t:TT):Prop:=
 ∀ (pins:List (Addr×Obj)) (s:Shared) (σ:St) (H:Hp) (Q:Bool->Hp->Prop),Inv X pins σ H s->t σ H Q ->
  wpAny (model X.prog X.w) X.A (forIn ifs true fun c r=>if r=true then do let ok <- isTrue c X.env (eval c X.env); pure (ForInStep.yield ok) else pure (ForInStep.yield r)) (TP X pins σ Q) X.xe s
def tYes:TT:=fun _ H Q=>Q true H
theorem uo {X:Cx}:PIf X [] tYes:=fun _ _ _ H _ I h=>wpAny_tests_nil ⟨H,I,h⟩
theorem um {X:Cx} {c:Expr} {t:TT} (h:PT X c t):PIf X [c] t:=fun pins s σ H Q I q=>wpAny_tests_one (h pins s σ H Q I q)
def sL (J:It) (D:Addr) (g:TG) (tc:TT) (te:TE) (σ':St) (H1:Hp) (Q:Hp->Prop):Prop:=
 ∃ W:Nat->Nat->Hp->Prop,(∃ m,W 0 m (upd H1 D (.lst [])))/\∀ i m H2,W i m H2 ->
  (J.stop i H2/\Q H2)\/(J.go i H2/\∀ x H3,J.yld i H2 x H3->g x σ' H3 fun σ4 H4=>tc σ4 H4 fun b H5=>
   if b=true then te σ4 H5 fun y H6=>∃ ys,H6 D=some (.lst ys)/\ys.length<sizeLine/\∃ m',m'<m/\W (i+1) m' (upd H6 D (.lst (ys ++ [y])))
   else ∃ m',m'<m/\W (i+1) m' H5)
def jQ (N':List Str) (wi:TI) (g:TG) (tc:TT) (te:TE):TE:=fun σ H Q=>wi σ H fun J H1=>∀ D,H1 D=none->sL J D g tc te (inner N' σ) H1 (Q (.ref D))
section
variable {X:Cx} {cs:Scope} {N':List Str} {tg iter elt:Expr} {ifs:List Expr} {wi:TI} {g:TG} {tc:TT} {te:TE} {pos:Pos}
theorem Co {cl:List (Str×Addr)} {pins:List (Addr×Obj)} {fp:List Addr} {H3 H':Hp} {s3:Shared} (hcl1:∀ x c,cl.lookup x=some c->X.env.cells.lookup x=some c) (stk:∀ b∈frs X.stack,b∈X.env.locals::X.fs)
  (hf3:∀ b∈fp,D2 X pins H3 b) (hlt:∀ b∈fp,b<s3.heap.objs.size) (hn:∀ b∈fp,H' b=none):∀ b∈fp,D2 (i8 X cs cl N' fp s3 H3) [] H' b:=fun b hb=>by
 obtain ⟨f0,f1,f2,f3,f4,f5⟩:=hf3 b hb
 refine ⟨hn b hb,Nat.ne_of_lt (hlt b hb),fun hfs=>?_,.inl hb,fun x c e=>f4 x c (hcl1 x c e),fun p hp=>absurd (show p∈([]:List (Addr×Obj)) from hp) (by simp)⟩
 have hfs':b∈frs X.stack:=hfs
 rcases List.mem_cons.mp (stk b hfs') with z | z
 ·exact f1 z
 ·exact f2 z
theorem nT {cl:List (Str×Addr)} {pins:List (Addr×Obj)} {σ:St} {R:Result->Shared->Prop} {Q:Hp->Prop} {s3 s4:Shared} {H3:Hp} {it D:Addr} {fp:List Addr} {tn:Nat->Heap->Prop} {J:It} {W:Nat->Nat->Hp->Prop} {m0:Nat}
  (hc:X.calm=true) (hg:PG (i8 X cs cl N' fp s3 H3) tg g) (hk:S8 X.N.length g) (ht:PIf (i8 X cs cl N' fp s3 H3) ifs tc) (he:PE (i8 X cs cl N' fp s3 H3) elt te)
  (hcl1:∀ x c,cl.lookup x=some c->X.env.cells.lookup x=some c)
  (I3:Inv X pins σ H3 s3) (I4:Inv (i8 X cs cl N' fp s3 H3) [] (inner N' σ) H3 s4) (T:Turn X.prog X.w X.K tg J fp it tn) (st:tn 0 s4.heap) (hf3:∀ b∈fp,D2 X pins H3 b) (hlt:∀ b∈fp,b<s3.heap.objs.size)
  (w0:W 0 m0 H3)
  (turn:∀ i m H2,W i m H2->(J.stop i H2/\Q H2)\/(J.go i H2/\∀ x H3,J.yld i H2 x H3->g x (inner N' σ) H3 fun σ4 H4=>tc σ4 H4 fun b H5=>
   if b=true then te σ4 H5 fun y H6=>∃ ys,H6 D=some (.lst ys)/\ys.length<sizeLine/\∃ m',m'<m/\W (i+1) m' (upd H6 D (.lst (ys ++ [y])))
   else ∃ m',m'<m/\W (i+1) m' H5))
  (hR:∀ (H':Hp) (s':Shared),Inv X pins σ H' s'->Q H'->(∃ m,s'.heap.Ns s3.heap.objs.size m)->D2 X pins H' s3.heap.objs.size->R (.ok .next) s') :
  codeAny (model X.prog X.w) X.A (.compLoop (.ListComp elt [⟨tg,iter,ifs,0⟩] cs pos) 0 (.ref it) (.ref D) (i8 X cs cl N' fp s3 H3).env) R s4:=by
 have fpx:∀ {H':Hp},(∀ b∈fp,H' b=none)->∀ b∈fp,D2 (i8 X cs cl N' fp s3 H3) [] H' b:=fun hn=>Co hcl1 I3.stkSub hf3 hlt hn
 have lσ:(inner N' σ).length=N'.length:=I4.len
 refine codeAny_loop rfl (fun n s'=>∃ i H',Inv (i8 X cs cl N' fp s3 H3) [] (inner N' σ) H' s'/\tn i s'.heap/\(∀ b∈fp,H' b=none)/\W i n H') (fun n s5 hI=>?_) m0 ⟨0,H3,I4,st,fun b hb=>(hf3 b hb).1,w0⟩
 obtain ⟨i,H5,I5,st5,fr5,w5⟩:=hI
 show wpAny _ _ ((compTurn (.ListComp elt [⟨tg,iter,ifs,0⟩] cs pos) 0 (.ref it) (.ref D) (i8 X cs cl N' fp s3 H3).env).onRaise _) _ _ s5
 refine wpAny_noted ?_
 rw [compTurn_list]
 refine wpAny_bind (wpAny_standAt (wpAny_bind ?_))
 have cvt:∀ {α:Type} {t:Sem α} {P:α->Shared->Prop} {E':Value->Shared->Prop} {s:Shared},wpAny (model X.prog X.w) X.A t P (fun _ _=>False) s->wpAny (model X.prog X.w) X.A t P E' s:=fun h=>wpAny_mono h (fun _ _ q=>q) fun _ _ q=>q.elim
 rcases turn i n H5 w5 with ⟨stop,q⟩ | ⟨go,step⟩
 ·refine thn (T.done (i8 X cs cl N' fp s3 H3) rfl rfl rfl hc i [] s5 _ H5 _ I5 (fpx fr5) st5 stop) fun r s6 ⟨hr,I6⟩=>?_
  subst hr
  refine wpAny_pure ?_
  have J6:Inv X pins σ H5 s6:=I3.call' (H':=H5) (ch:=fp) I6.os I6.base I6.hok I6.bare fun b hb=>by
   obtain ⟨f0,f1,f2,f3,f4,f5⟩:=hf3 b hb
   exact ⟨f3,f1,f4,f5⟩
  obtain ⟨m,hn,_⟩:=I6.loc
  exact hR H5 s6 J6 q ⟨m,hn⟩ (I3.fpOk (Nat.le_refl _) I6.free)
 ·refine thn (T.item (i8 X cs cl N' fp s3 H3) rfl rfl rfl hc i [] s5 _ H5 _ I5 (fpx fr5) st5 go) fun r s6 ⟨u,hr,h6⟩=>?_
  subst hr
  refine wpAny_bind (thn h6 fun _ s7 zz60=>?_)
  obtain ⟨x,H7,I7,r7,y7,st7,fr7⟩:=zz60
  have I7':=I7.pinned (fpx fr7) (T.obj _ _ st7)
  refine wpAny_bind (cvt (thn (hg _ s7 _ H7 x u _ I7' r7 (hk x _ H7 _ (step x H7 y7))) fun _ s8 zz61=>?_))
  obtain ⟨σ8,H8,I8,q8,l8,k8⟩:=zz61
  refine wpAny_bind (cvt (thn (ht _ s8 σ8 H8 _ I8 q8) fun b s9 zz62=>?_))
  obtain ⟨H9,I9,q9⟩:=zz62
  have again:∀ {s':Shared} {H':Hp},Inv (i8 X cs cl N' fp s3 H3) ([]++Z9 fp s7.heap) σ8 H' s'->(∃ m',m'<n/\W (i+1) m' H') ->
    ∃ m',m'<n/\∃ i H',Inv (i8 X cs cl N' fp s3 H3) [] (inner N' σ) H' s'/\tn i s'.heap/\(∀ b∈fp,H' b=none)/\W i m' H':=fun {s' H'} I' zz63=>by
   obtain ⟨m',hm,w'⟩:=zz63
   refine ⟨m',hm,i+1,H',(I'.unpinned).weak (by rw [l8]) (fun j v e=>?_),T.keep _ _ _ st7 fun b hb o e=>(I'.pin (b,o) (List.mem_append_right _ (List.mem_append_right _ (O9 hb e)))).1,fun b hb=>?_,w'⟩
   ·have hj:j<X.N.length:=by rw [<- I3.len]; exact (List.getElem?_eq_some_iff.mp (dX e)).1
    rw [k8 j hj]; exact e
   ·obtain ⟨o,e,d⟩:=T.obj _ _ st7 b hb
    exact (I'.pin (b,o) (List.mem_append_right _ (List.mem_append_right _ (O9 hb e)))).2.1
  cases b with
  | false=>
   have q9':∃ m',m'<n/\W (i+1) m' H9:=q9
   exact wpAny_pure ⟨rfl,again I9 q9'⟩
  | true=>
   have q9':te σ8 H9 _:=q9
   refine wpAny_bind (wpAny_bind (cvt (thn (he _ s9 σ8 H9 _ I9 q9') fun v s10 zz64=>?_)))
   obtain ⟨y,H10,I10,r10,ys,hD,hy,q10⟩:=zz64
   refine wpAny_bind (cvt (thn (dO _ s10 σ8 H10 (.ref D) [y] (.ref D) [v] (fun _ H'=>∃ m',m'<n/\W (i+1) m' H') I10 rfl (.cons r10 .nil) ⟨D,ys,y,rfl,rfl,hD,hy,q10⟩) fun _ s11 zz65=>?_))
   obtain ⟨_,H11,I11,_,q11⟩:=zz65
   exact wpAny_pure (wpAny_pure ⟨rfl,again I11 q11⟩)
theorem eB {cl:List (Str×Addr)} {pins:List (Addr×Obj)} {σ:St} {R:Value->Addr->Result->Shared->Prop} {Q:V->Hp->Prop} {s2:Shared} {itv:Value} (S:g6 X.env.scope cs X.N N') (hc:X.calm=true)
  (hg:∀ cl ex s H,PG (i8 X cs cl N' ex s H) tg g) (hk:S8 X.N.length g) (ht:∀ cl ex s H,PIf (i8 X cs cl N' ex s H) ifs tc) (he:∀ cl ex s H,PE (i8 X cs cl N' ex s H) elt te)
  (hcl1:∀ x c,cl.lookup x=some c->X.env.cells.lookup x=some c) (hcl2:∀ x,(x,NameKind.free)∈cs.names->∃ c,cl.lookup x=some c)
  (h:PIE X pins σ tg (fun J H1=>∀ D,H1 D=none->sL J D g tc te (inner N' σ) H1 (Q (.ref D))) itv s2)
  (hR:∀ (D C:Addr) (H':Hp) (s':Shared),Inv X pins σ H' s'->Q (.ref D) H'->(∃ m,s'.heap.Ns C m)->D2 X pins H' C->R (.ref D) C (.ok .next) s') :
  wpAny (model X.prog X.w) X.A (newList []) (fun acc s₃=>wpAny (model X.prog X.w) X.A (newFunctionEnv cs X.env.globals cl [] X.env.qual none .none (some X.env)) (fun cenv s₄=>
   codeAny (model X.prog X.w) X.A (.compStart (.ListComp elt [⟨tg,iter,ifs,0⟩] cs pos) 0 itv acc { cenv with scope:=relabel cs X.env }) (R acc cenv.locals) s₄) X.xe s₃) X.xe s2:=by
 obtain ⟨it,fp,tn,J,H2,e,I2,T,st2,f2,hw⟩:=h
 subst e
 refine wpAny_newObj_type (wpAny_newFunctionEnv S.ncell (by intro y hy; simp at hy) (fun h1 hns1 hsb1=>?_) S.kind)
 dsimp only at hns1 hsb1 ⊢
 have hD:=I2.hok.fresh (Nat.le_refl _)
 obtain ⟨W,⟨m0,w0⟩,turn⟩:=hw s2.heap.objs.size hD
 have I3:Inv X pins σ (upd H2 s2.heap.objs.size (.lst [])) { s2 with heap:=s2.heap.push { cls:=.type "list",dict:=none,data:=.seq ([]:List Value).toArray } }:=I2.lnew (t':=s2.toks) .nil (Nat.zero_le _)
 have hfp3:∀ b∈fp,b<s2.heap.objs.size:=fun b hb=>by
  obtain ⟨o,e,_⟩:=T.obj 0 _ st2 b hb
  exact Heap.lt_size e
 have hf3:∀ b∈fp,D2 X pins (upd H2 s2.heap.objs.size (.lst [])) b:=fun b hb=>by
  obtain ⟨f0,r⟩:=f2 b hb
  exact ⟨by rw [b9 (Nat.ne_of_lt (hfp3 b hb))]; exact f0,r⟩
 have hlt:∀ b∈fp,b<(s2.heap.push { cls:=.type "list",dict:=none,data:=.seq ([]:List Value).toArray }).objs.size:=fun b hb=>by rw [Heap.size_push]; exact Nat.lt_succ_of_lt (hfp3 b hb)
 have kp:∀ b o,(s2.heap.push { cls:=.type "list",dict:=none,data:=.seq ([]:List Value).toArray }).get? b=some o->h1.get? b=some o:=fun b o e=>hsb1.extBut b o (Nat.ne_of_lt (Heap.lt_size e)) (Heap.get?_push_of_some _ e)
 have I4:=qY (cs:=cs) (cl:=cl) (N':=N') (fp:=fp) (s4:={ s2 with heap:=h1,toks:=s2.toks+([]:List (Str×Value)).length }) S I3 hcl1 hcl2 hf3 hlt kp hns1 rfl rfl
 have st4:tn 0 h1:=T.keep 0 _ _ st2 fun b hb o e=>kp b o (Heap.get?_push_of_some _ e)
 have loop:=nT (R:=R (.ref s2.heap.objs.size) (s2.heap.push { cls:=.type "list",dict:=none,data:=.seq ([]:List Value).toArray }).objs.size) (D:=s2.heap.objs.size) (iter:=iter) (pos:=pos) (it:=it) (Q:=Q (.ref s2.heap.objs.size)) hc (hg cl fp _ _) hk (ht cl fp _ _) (he cl fp _ _) hcl1 I3 I4 T st4 hf3 hlt w0 turn fun H' s' I' q n f=>hR _ _ H' s' I' q n f
 exact codeAny_compStart_list loop (T.self _ 0 _ _ _ st4 loop)
theorem ur (S:g6 X.env.scope cs X.N N') (hc:X.calm=true) (hi:PI X tg iter wi)
  (hg:∀ cl ex s H,PG (i8 X cs cl N' ex s H) tg g) (hk:S8 X.N.length g) (ht:∀ cl ex s H,PIf (i8 X cs cl N' ex s H) ifs tc) (he:∀ cl ex s H,PE (i8 X cs cl N' ex s H) elt te)
  (hs:∀ x,foldedSetIterable iter X.env x=pure x:=by intro _; rfl):PE X (.ListComp elt [⟨tg,iter,ifs,0⟩] cs pos) (jQ N' wi g tc te):=by
 intro pins s σ H Q I h
 obtain ⟨cl,e,h1,h2,_⟩:=cI (env:=X.env) cs.names [] (fun x hx hk=>I.ok.has x.1 (S.free x hx hk)) (fun _ _ z=>nomatch z)
 have hclos:closureFor cs X.env=pure cl:=by
  simp only [closureFor]
  rw [e]; rfl
 rw [eval_ListComp]
 refine wpAny_comprehension_free (use:=none) rfl hs hclos S.kind S.loc (thn (hi pins s σ H _ I h) fun v s1 q1=>thn q1 fun itv s2 q2=>?_)
 refine eB (R:=fun acc C=>compPost (model X.prog X.w) X.A X.xe none (EP X pins σ Q) acc C) (Q:=Q) S hc hg hk ht he h1 h2 q2 fun D C H' s' I' q n f=>?_
 obtain ⟨m,hn⟩:=n
 obtain ⟨f0,f1,f2,f3,f4,f5⟩:=f
 exact ⟨m,hn,fun h' sb=>⟨.ref D,H',I'.turned (t':=s'.toks) (fun b o hb e=>sb.extBut b o hb e) f0 f1 f3 f4 f5,rfl,q⟩⟩
theorem uj {i:Nat} {y:Str} {py spos:Pos} (S:g6 X.env.scope cs X.N N') (hc:X.calm=true) (hi:PI X tg iter wi)
  (hg:∀ cl ex s H,PG (i8 X cs cl N' ex s H) tg g) (hk:S8 X.N.length g) (ht:∀ cl ex s H,PIf (i8 X cs cl N' ex s H) ifs tc) (he:∀ cl ex s H,PE (i8 X cs cl N' ex s H) elt te)
  (hN:X.N.Nodup) (hy:X.N[i]?=some y) (hl:Loc X.env.scope y)
  (hsw:swapsWith (.ListComp elt [⟨tg,iter,ifs,0⟩] cs pos) (some (.Name y py)) spos.line X.env=pure true:=by rfl) (hf:X.fn y=true\/X.env.scope.names.lookup y=some .local:=by first | exact .inl rfl | exact .inr rfl | assumption)
  (hs:∀ x,foldedSetIterable iter X.env x=pure x:=by intro _; rfl):PS X (.Assign [.Name y py] (.ListComp elt [⟨tg,iter,ifs,0⟩] cs pos) spos) (S9 (jQ N' wi g tc te) (C4 i)):=by
 intro pins s σ H Q I h
 obtain ⟨cl,e,h1,h2,_⟩:=cI (env:=X.env) cs.names [] (fun x hx hk=>I.ok.has x.1 (S.free x hx hk)) (fun _ _ z=>nomatch z)
 have hclos:closureFor cs X.env=pure cl:=by
  simp only [closureFor]
  rw [e]; rfl
 rw [exec_Assign_Name_used _ _ _ _ hsw]
 refine wpAny_bind (wpAny_standAt (wpAny_bind ?_))
 show wpAny _ _ (comprehension (.ListComp elt [⟨tg,iter,ifs,0⟩] cs pos) cs X.env _ (newList []) false (eval iter X.env) (some (assign (.Name y py) X.env))>>=_) _ _ s
 refine wpAny_bind (thn (wpAny_comprehension_free (use:=some (assign (.Name y py) X.env)) (Q:=fun _ s'=>SP X pins Q .next s') rfl hs hclos S.kind S.loc (thn (hi pins s σ H _ I h) fun v s1 q1=>thn q1 fun itv s2 q2=>?_)) fun _ s' q=>wpAny_pure (wpAny_pure q))
 refine eB (R:=fun acc C=>compPost (model X.prog X.w) X.A X.xe (some (assign (.Name y py) X.env)) (fun _ s'=>SP X pins Q .next s') acc C) (Q:=fun x H1=>C4 i x σ H1 Q.nx) S hc hg hk ht he h1 h2 q2 fun D C H' s' I' q n f=>?_
 obtain ⟨m,hn⟩:=n
 obtain ⟨f0,f1,f2,f3,f4,f5⟩:=f
 show wpAny _ _ (assign (.Name y py) X.env (.ref D)) _ _ _
 refine wpAny_assign_Name (dG (v:=.ref D) (u:=.ref D) I' hN hy hl rfl (fun s'' I'' zz66=>?_) hf)
 obtain ⟨a,sb,ha⟩:=zz66
 have hCa:C≠a:=by
  rcases ha with rfl | ha
  ·exact f1
  ·exact fun q=>f4 _ _ ha q.symm
 refine ⟨m,hn.sameBut sb hCa,fun h' sb'=>?_⟩
 exact ⟨_,H',I''.turned (t':=s''.toks) (fun b o hb e=>sb'.extBut b o hb e) f0 f1 f3 f4 f5,q⟩
end
end L2
namespace L2
open PySem PySem.Spec PyProof.Rows
theorem Sq.same {K:Frag} {H H':Hp} {t:Bool} {a:Addr} {xs:List V} (e:Same H H') (h:Sq K H t a xs):Sq K H' t a xs:=by
 unfold Sq at h ⊢
 split
 ·rename_i ht; rw [if_pos ht] at h
  rcases h with (h | ⟨o,h⟩) | h
  ·exact .inl (.inl (e _ _ h))
  ·exact .inl (.inr ⟨o,e _ _ h⟩)
  ·exact .inr h
 ·rename_i ht; rw [if_neg ht] at h
  exact e.seq h
def seqAt (K:Frag) (H:Hp) (p:Addr) (R:List V->Prop):Prop:=match H p with
 | some (.tup xs)=>R xs
 | some (.lst xs)=>R xs
 | _=>∃ t xs,Sq K H t p xs/\R xs
section
variable {X:Cx}
def ItQ (K:Frag) (t:Bool) (a:Addr):It:=if t=true then Itt K a else Itl K a
def iSq (K:Frag) (tl:TE):TI:=fun σ H R=>tl σ H fun x H1=>∃ a,x=.ref a/\∃ t xs,Sq K H1 t a xs/\R (ItQ K t a) H1
theorem BX {tg l:Expr} {tl:TE} (hl:PE X l tl):PI X tg l (iSq X.K tl):=by
 intro pins s σ H R I h
 refine thn (hl pins s σ H _ I h) fun v s1 zz67=>?_
 obtain ⟨x,H1,I1,r1,q1⟩:=zz67
 obtain ⟨a,e,t,xs,hq,q⟩:=q1
 subst e
 cases r1
 cases t with
 | true=>
  have hq':SqT X.K H1 a xs:=by unfold Sq at hq; rw [if_pos rfl] at hq; exact hq
  obtain ⟨its,rv,p,hz⟩:=I1.tuple hq'
  refine wpAny_pyIter_tuple (show s1.heap.IsTuple a its.toArray from p) ?_
  refine ⟨s1.heap.objs.size,[s1.heap.objs.size],_,Itt X.K a,H1,rfl,I1.kept (t':=s1.toks) fun b o e=>Heap.get?_push_of_some _ e,bF a _,⟨_,Heap.get?_push_size _ rfl,rfl,rfl⟩,fun b hb=>?_,q⟩
  have e:b=s1.heap.objs.size:=by simpa using hb
  subst e
  exact I1.fpOk (Nat.le_refl _) (I1.hok.fresh (Nat.le_refl _))
 | false=>
  have hq':SqL X.K H1 a xs:=by unfold Sq at hq; rw [if_neg Bool.false_ne_true] at hq; exact hq
  obtain ⟨its,rv,p,hz⟩:=I1.list hq'
  refine wpAny_pyIter_list p.isList ?_
  refine ⟨s1.heap.objs.size,[s1.heap.objs.size],_,Itl X.K a,H1,rfl,I1.kept (t':=s1.toks) fun b o e=>Heap.get?_push_of_some _ e,lB a _,⟨_,Heap.get?_push_size _ rfl,rfl,rfl⟩,fun b hb=>?_,q⟩
  have e:b=s1.heap.objs.size:=by simpa using hb
  subst e
  exact I1.fpOk (Nat.le_refl _) (I1.hok.fresh (Nat.le_refl _))
theorem wg:bootBuiltins "bool" = some (.type "bool"):=by decide +kernel
theorem og:bootBuiltins "int" = some (.type "int"):=by decide +kernel
theorem P7:bootBuiltins "list" = some (.type "list"):=by decide +kernel
theorem o7:bootBuiltins "tuple" = some (.type "tuple"):=by decide +kernel
theorem Bq:bootBuiltins "str" = some (.type "str"):=by decide +kernel
theorem cL:bootBuiltins "max" = some (.builtin "max"):=by decide +kernel
def tyO:Option HO->Option String
 | some (.lst _)=>some "list"
 | some (.tup _)=>some "tuple"
 | some (.dK _)=>some "dict"
 | _=>none
def tyB (H:Hp):V->Option String
 | .non=>some "NoneType"
 | .bl _=>some "bool"
 | .int _=>some "int"
 | .str _=>some "str"
 | .ref a=>tyO (H a)
 | _=>none
def t8 (A T:String):Option Bool:=
 if A=T then some true else if A = "bool" /\ T = "int" then some true
 else if (A = "NoneType" \/ A = "bool" \/ A = "int" \/ A = "str" \/ A = "list" \/ A = "tuple" \/ A = "dict")/\(T = "bool" \/ T = "int" \/ T = "list" \/ T = "tuple") then some false else none
theorem wH {K:Frag} {H:Hp} {x:V} {A:String} (h:tyB H x=some A):L9 K H x (.type A):=by
 cases x with
 | non=>cases h; exact .non
 | bl _=>cases h; exact .bl _
 | int _=>cases h; exact .int _
 | str _=>cases h; exact .str _
 | ref a=>
  have h:tyO (H a)=some A:=h
  cases e:H a with
  | none=>rw [e] at h; cases h
  | some o=>
   rw [e] at h
   cases o <;> first | (cases h; exact .lst e) | (cases h; exact .tup e) | (cases h; exact .dK e) | cases h
 | _=>cases h
theorem vp {K:Frag} {A T:String} {b:Bool} (h:t8 A T=some b):PySem.W.kitOne K (.type A) (.type T)=some b:=by
 unfold t8 at h
 split at h
 ·rename_i e; subst e; cases h
  unfold PySem.W.kitOne
  rw [if_pos (by simp)]
 ·split at h
  ·rename_i e; obtain ⟨rfl,rfl⟩:=e; cases h; with_unfolding_all rfl
  ·split at h
   ·rename_i h1 h2 e
    obtain ⟨e1,e2⟩:=e
    cases h
    rcases e1 with rfl | rfl | rfl | rfl | rfl | rfl | rfl <;> rcases e2 with rfl | rfl | rfl | rfl <;>
     first | exact absurd rfl h1 | exact absurd ⟨rfl,rfl⟩ h2 | with_unfolding_all rfl
   ·cases h
def rIsi:List V->Hp->VK->Prop:=fun xs H Q=>∃ x T,xs = [x,.ty T]/\∃ A,tyB H x=some A/\∃ b,t8 A T=some b/\Q (.bl b) H
theorem A8:D7 X (.builtin "isinstance") rIsi:=by
 intro pins s σ H xs us Q I r h
 obtain ⟨x,T,rfl,A,ty,b,e,q⟩:=h
 obtain ⟨u,w',rfl,r1,r2⟩:=vals2 r
 have e2:w'=Value.type T:=r2
 subst e2
 exact nz I r1 (wH ty) (vp e) fun tk=>⟨.bl b,H,I.tok tk,rfl,q⟩
end
theorem zA:t8 "bool" "bool" = some true:=by decide
theorem zw:t8 "bool" "int" = some true:=by decide
theorem zu:t8 "int" "bool" = some false:=by decide
theorem zr:t8 "int" "int" = some true:=by decide
theorem zc:t8 "tuple" "tuple" = some true:=by decide
theorem zo:t8 "list" "list" = some true:=by decide
theorem zl:t8 "NoneType" "int" = some false:=by decide
theorem zm:t8 "NoneType" "bool" = some false:=by decide
theorem zg:t8 "str" "int" = some false:=by decide
theorem zh:t8 "str" "bool" = some false:=by decide
theorem zp:t8 "list" "int" = some false:=by decide
theorem zq:t8 "list" "bool" = some false:=by decide
theorem ze:t8 "tuple" "int" = some false:=by decide
theorem zf:t8 "tuple" "bool" = some false:=by decide
theorem U7 {n:Nat} {i:Int} (h0:0<=i) (h1:i<n):ixN n i=some i.toNat:=by unfold ixN; rw [if_pos h0,if_pos h1]
theorem mem_getD {ms:List Int} {P:Int->Prop} (h:∀ x∈ms,P x) {i:Nat} (hi:i<ms.length):P (ms.getD i 0):=by
 have:ms.getD i 0=ms[i]:=by simp [hi]
 rw [this]; exact h _ (List.getElem_mem hi)
structure Runs (J:It) (n:Nat) (H1:Hp) (Y:Nat->V->Hp->Hp->Prop):Prop where
 go:∀ i H,i<n->Same H1 H->J.go i H
 stop:∀ H,Same H1 H->J.stop n H
 yld:∀ i H x H',i<n->Same H1 H->J.yld i H x H'->Y i x H H'
theorem mf {K:Frag} {t u:Bool} {a b:Addr} {xs ys:List V} {H1:Hp} (h:Sq K H1 t a xs) (h':Sq K H1 u b ys) :
  Runs (ItZ K [(t,a),(u,b)]) (min xs.length ys.length) H1 fun i x H H'=>∃ p y z,x=.ref p/\H p=none/\H'=upd H p (.tup [y,z])/\xs[i]?=some y/\ys[i]?=some z:=by
 refine ⟨fun i H hi s v hv=>?_,fun H s=>⟨fun v hv=>?_,?_⟩,fun i H x H' hi s hy=>?_⟩
 ·simp only [List.mem_cons,List.not_mem_nil,or_false] at hv
  rcases hv with rfl | rfl
  ·exact ⟨xs,xs[i]'(Nat.lt_of_lt_of_le hi (Nat.min_le_left _ _)),Sq.same s h,by simp⟩
  ·exact ⟨ys,ys[i]'(Nat.lt_of_lt_of_le hi (Nat.min_le_right _ _)),Sq.same s h',by simp⟩
 ·simp only [List.mem_cons,List.not_mem_nil,or_false] at hv
  rcases hv with rfl | rfl
  ·exact ⟨xs,Sq.same s h⟩
  ·exact ⟨ys,Sq.same s h'⟩
 ·rcases Nat.le_total xs.length ys.length with q | q
  ·exact ⟨(t,a),by simp,xs,Sq.same s h,by omega⟩
  ·exact ⟨(u,b),by simp,ys,Sq.same s h',by omega⟩
 ·obtain ⟨p,zs,e1,e2,e3,pr⟩:=hy
  cases pr with
  | cons r1 pr=>
   cases pr with
   | cons r2 pr=>
    cases pr
    exact ⟨p,_,_,e1,e2,e3,r1 xs (Sq.same s h),r2 ys (Sq.same s h')⟩
theorem lZ {K:Frag} {t u w:Bool} {a b c:Addr} {xs ys zs:List V} {H1:Hp} (h:Sq K H1 t a xs) (h':Sq K H1 u b ys) (h'':Sq K H1 w c zs) :
  Runs (ItZ K [(t,a),(u,b),(w,c)]) (min xs.length (min ys.length zs.length)) H1 fun i x H H'=>∃ p y z v,x=.ref p/\H p=none/\H'=upd H p (.tup [y,z,v])/\xs[i]?=some y/\ys[i]?=some z/\zs[i]?=some v:=by
 refine ⟨fun i H hi s v hv=>?_,fun H s=>⟨fun v hv=>?_,?_⟩,fun i H x H' hi s hy=>?_⟩
 ·simp only [List.mem_cons,List.not_mem_nil,or_false] at hv
  rcases hv with rfl | rfl | rfl
  ·exact ⟨xs,xs[i]'(Nat.lt_of_lt_of_le hi (Nat.min_le_left _ _)),Sq.same s h,by simp⟩
  ·exact ⟨ys,ys[i]'(Nat.lt_of_lt_of_le hi (Nat.le_trans (Nat.min_le_right _ _) (Nat.min_le_left _ _))),Sq.same s h',by simp⟩
  ·exact ⟨zs,zs[i]'(Nat.lt_of_lt_of_le hi (Nat.le_trans (Nat.min_le_right _ _) (Nat.min_le_right _ _))),Sq.same s h'',by simp⟩
 ·simp only [List.mem_cons,List.not_mem_nil,or_false] at hv
  rcases hv with rfl | rfl | rfl
  ·exact ⟨xs,Sq.same s h⟩
  ·exact ⟨ys,Sq.same s h'⟩
  ·exact ⟨zs,Sq.same s h''⟩
 ·have:min xs.length (min ys.length zs.length)=xs.length\/min xs.length (min ys.length zs.length)=ys.length\/min xs.length (min ys.length zs.length)=zs.length:=by omega
  rcases this with q | q | q
  ·exact ⟨(t,a),by simp,xs,Sq.same s h,by omega⟩
  ·exact ⟨(u,b),by simp,ys,Sq.same s h',by omega⟩
  ·exact ⟨(w,c),by simp,zs,Sq.same s h'',by omega⟩
 ·obtain ⟨p,vs,e1,e2,e3,pr⟩:=hy
  cases pr with
  | cons r1 pr=>
   cases pr with
   | cons r2 pr=>
    cases pr with
    | cons r3 pr=>
     cases pr
     exact ⟨p,_,_,_,e1,e2,e3,r1 xs (Sq.same s h),r2 ys (Sq.same s h'),r3 zs (Sq.same s h'')⟩
structure Def (K:Frag) (mg:Str->Option Value) (x:Str) (st:Stmt) (ps:List Str) (f:Addr) (fd:FuncData):Prop where
 F:Fun K x x st f fd
 m:mg x=some (.ref f)
 b:Binds K fd ps []
section
variable {X:Cx}
theorem E9 (K:Frag) {es:List Expr} {pos:Pos} {k:Nat} {t:TGs} (n:Nat) (hc:X.calm=true) (h:PGs X es t) (hK:X.K=K:=by rfl)
  (hn:(assignEach es X.env).length=n:=by rfl) (hst:(assignEach es X.env).findIdx? (·.1)=none:=by rfl):PG X (.Tuple es k pos) (kI K n t):=by subst hK; exact yw hc h hn hst
def oQ (to:TE) (te:TE):TE:=fun σ H Q=>to σ H fun x H1=>∃ p,x=.ref p/\(∃ xs,H1 p=some (.lst xs))/\te σ H1 fun y H2=>match H2 p with
 | some (.lst xs)=>xs.length<sizeLine/\Q .non (upd H2 p (.lst (xs ++ [y])))
 | _=>False
theorem dL {o e:Expr} {to te:TE} {apos cpos:Pos} (ho:PE X o to) (ha:PE X e te)
  (hbase:attributeBase o "append" X.env (eval o X.env)=eval o X.env:=by rfl)
  (hfew:((backTo cpos (starEach [e] X.env)).all (fun x=>!x.1)&&(backToKw cpos (keywordEach [] X.env)).all (fun x=>x.1.isSome)
   && decide (([e]:List Expr).length+([]:List Keyword).length+(if ([]:List Keyword).isEmpty then 0 else 1)<30))=true:=by rfl)
  (hline:(apos.endLine == cpos.line)=true:=by rfl) (hs:starEach [e] X.env=(false,eval e X.env)::starEach [] X.env:=by rfl):PE X (.Call (.Attribute o "append" apos) [e] [] cpos) (oQ to te):=by
 intro pins s σ H Q I h
 refine wpAny_Call_method_late hbase hfew hline rfl (thn (ho pins s σ H _ I h) fun v s1 zz68=>?_)
 obtain ⟨x,H1,I1,r1,p,ex,⟨xs,e1⟩,q1⟩:=zz68
 subst ex
 obtain ⟨h1,h2⟩:=lA (T := "list") I1 r1 (.inl ⟨rfl,xs,SqL.of e1⟩)
 refine ⟨"list", "list.append",PySem.F.plainAttrs_list,PySem.F.slot_list_append,PySem.F.type_list_append,h1,h2,?_⟩
 have hA:=cZ ha pa_nil hs cpos pins s1 σ H1 (fun vs H2=>∃ y,vs = [y]/\match H2 p with
  | some (.lst xs)=>xs.length<sizeLine/\Q .non (upd H2 p (.lst (xs ++ [y])))
  | _=>False) I1 (by
   have e:(fun (y:V) (H2:Hp)=>match H2 p with
     | some (.lst xs)=>xs.length<sizeLine/\Q .non (upd H2 p (.lst (xs ++ [y])))
     | _=>False)=fun (y:V) (H2:Hp)=>∃ y',[y] = [y']/\match H2 p with
     | some (.lst xs)=>xs.length<sizeLine/\Q .non (upd H2 p (.lst (xs ++ [y'])))
     | _=>False:=by
    funext y H2
    exact propext ⟨fun q=>⟨y,rfl,q⟩,fun zz69=>by obtain ⟨y',e,q⟩:=zz69; cases e; exact q⟩
   rw [e] at q1
   exact q1)
 rw [hs] at hA ⊢
 refine Calls.callWith_builtin rfl (Calls.evalArgs_plain ?_)
 refine thn hA fun us s2 zz70=>?_
 obtain ⟨vs,H2,I2,r2,y,ev,q2⟩:=zz70
 subst ev
 refine dO pins s2 σ H2 (.ref p) [y] v us Q I2 r1 r2 ?_
 split at q2
 ·rename_i ys e2; exact ⟨p,ys,y,rfl,rfl,e2,q2.1,q2.2⟩
 ·exact q2.elim
end
def pD (K:Frag):V->Option Int->Option Int->Hp->VK->Prop:=fun x lo hi H Q=>∃ p,x=.ref p/\∃ xs,SqL K H p xs/\∀ l,H l=none->Q (.ref l) (upd H l (.lst (cutV xs lo hi)))
section
variable {X:Cx}
end
def sM (i j:Int):Prop:=0<=j/\(Builtin.Int.intBits i:Int)*j<=2^27
theorem J2 {ns:List Int} {i:Nat} (h:i<ns.length):ns[i]?=some (ns.getD i 0):=by rw [List.getD_eq_getElem?_getD]; simp [h]
end L2
namespace TP
open PySem L2
inductive W where
 | non | bl (b:Bool) | int (i:Int) | str (x:Str) | ty (n:String) | tup (ws:List W) | lst (ws:List W) | scr (ws:List W)
 | exc (c:Str) (i:Option Int) | cls (c:Str)
def XD (F:Hp) (od:Option Addr):Option Int->Prop
 | none=>od=none
 | some i=>∃ d,od=some d/\F d=some (.xd [("at",.int i)])
mutual
inductive Rep (K:Frag) (F:Hp):V->W->Prop where
 | non:Rep K F .non .non
 | bl {b:Bool}:Rep K F (.bl b) (.bl b)
 | int {i:Int}:Rep K F (.int i) (.int i)
 | str {x:Str}:Rep K F (.str x) (.str x)
 | ty {n:String}:Rep K F (.ty n) (.ty n)
 | tup {a:Addr} {vs:List V} {ws:List W}:F a=some (.tup vs)->Reps K F vs ws->Rep K F (.ref a) (.tup ws)
 | lst {a:Addr} {vs:List V} {ws:List W}:F a=some (.lst vs)->Reps K F vs ws->Rep K F (.ref a) (.lst ws)
 | scr {a:Addr} {vs:List V} {ws:List W}:SqL K F a vs->Reps K F vs ws->Rep K F (.ref a) (.scr ws)
 | exc {a C:Addr} {o:Obj} {vs:Array Value} {c:Str} {i:Option Int}:F a=some (.ext fun h=>h.get? a=some o)->o.cls=.ref C->o.data=.fields vs->PySem.W.nsIn K mainGlobals c=some (some (.ref C))->XD F o.dict i->Rep K F (.ref a) (.exc c i)
 | cls {C:Addr} {c:Str}:PySem.W.nsIn K mainGlobals c=some (some (.ref C))->Rep K F (.ref C) (.cls c)
inductive Reps (K:Frag) (F:Hp):List V->List W->Prop where
 | nil:Reps K F [] []
 | cons {v:V} {w:W} {vs:List V} {ws:List W}:Rep K F v w->Reps K F vs ws->Reps K F (v::vs) (w::ws)
end
section
variable {K:Frag} {F F':Hp}
theorem oR {a:Addr} {xs:List V} (e:Same F F') (h:SqT K F a xs):SqT K F' a xs:=by
 rcases h with (h | ⟨o,h⟩) | h
 ·exact .inl (.inl (e _ _ h))
 ·exact .inl (.inr ⟨o,e _ _ h⟩)
 ·exact .inr h
theorem XD.same (e:Same F F') {od:Option Addr}:∀ {i:Option Int},XD F od i->XD F' od i:=by
 intro i h
 cases i with
 | none=>exact h
 | some _=>obtain ⟨d,h1,h2⟩:=h; exact ⟨d,h1,e _ _ h2⟩
theorem Rep.same (e:Same F F') {v:V} {w:W} (r:Rep K F v w):Rep K F' v w:=
 @Rep.rec K F (fun v w _=>Rep K F' v w) (fun vs ws _=>Reps K F' vs ws) .non .bl .int .str .ty (fun h _ r=>.tup (e _ _ h) r) (fun h _ r=>.lst (e _ _ h) r) (fun h _ r=>.scr (Same.seq e h) r) (fun h1 h2 h3 h4 h5=>.exc (e _ _ h1) h2 h3 h4 (XD.same e h5)) (fun h=>.cls h) .nil (fun _ _ a b=>.cons a b) v w r
theorem Reps.same (e:Same F F') {vs:List V} {ws:List W} (r:Reps K F vs ws):Reps K F' vs ws:=
 @Reps.rec K F (fun _ _ _=>True) (fun vs ws _=>Reps K F' vs ws) trivial trivial trivial trivial trivial (fun _ _ _=>trivial) (fun _ _ _=>trivial) (fun _ _ _=>trivial) (fun _ _ _ _ _=>trivial) (fun _=>trivial) .nil (fun h _ _ b=>.cons (Rep.same e h) b) vs ws r
theorem Reps.ind {P:List V->List W->Prop} (h0:P [] []) (h1:∀ {v:V} {w:W} {vs:List V} {ws:List W},Rep K F v w->Reps K F vs ws->P vs ws->P (v::vs) (w::ws)) {vs:List V} {ws:List W} (r:Reps K F vs ws):P vs ws:=
 @Reps.rec K F (fun _ _ _=>True) (fun vs ws _=>P vs ws) trivial trivial trivial trivial trivial (fun _ _ _=>trivial) (fun _ _ _=>trivial) (fun _ _ _=>trivial) (fun _ _ _ _ _=>trivial) (fun _=>trivial) h0 (fun h r _ b=>h1 h r b) vs ws r
def By (K:Frag) (F:Hp) (v:V):W->Prop
 | .non=>v=.non
 | .bl b=>v=.bl b
 | .int i=>v=.int i
 | .str x=>v=.str x
 | .ty n=>v=.ty n
 | .tup ws=>∃ a vs,v=.ref a/\F a=some (.tup vs)/\Reps K F vs ws
 | .lst ws=>∃ a vs,v=.ref a/\F a=some (.lst vs)/\Reps K F vs ws
 | .scr ws=>∃ a vs,v=.ref a/\SqL K F a vs/\Reps K F vs ws
 | .exc _ _=>True
 | .cls _=>True
theorem Rep.inv {v:V} {w:W} (r:Rep K F v w):By K F v w:=
 @Rep.rec K F (fun v w _=>By K F v w) (fun _ _ _=>True) rfl rfl rfl rfl rfl (fun h r _=>⟨_,_,rfl,h,r⟩) (fun h r _=>⟨_,_,rfl,h,r⟩) (fun h r _=>⟨_,_,rfl,h,r⟩) (fun _ _ _ _ _=>trivial) (fun _=>trivial) trivial (fun _ _ _ _=>trivial) v w r
def RepsI (K:Frag) (F:Hp) (vs:List V):List W->Prop
 | []=>vs = []
 | w::ws=>∃ v us,vs=v::us/\Rep K F v w/\Reps K F us ws
theorem Reps.length {vs:List V} {ws:List W} (r:Reps K F vs ws):vs.length=ws.length:=
 Reps.ind (P:=fun vs ws=>vs.length=ws.length) rfl (fun _ _ h=>congrArg (·+1) h) r
theorem Reps.get {vs:List V} {ws:List W} {i:Nat} {w:W} (r:Reps K F vs ws):ws[i]?=some w->∃ v,vs[i]?=some v/\Rep K F v w:=
 Reps.ind (P:=fun vs ws=>∀ (i:Nat) (w:W),ws[i]?=some w->∃ v,vs[i]?=some v/\Rep K F v w) (fun i w e=>by cases e) (fun h _ b i w e=>by
  cases i with
  | zero=>cases e; exact ⟨_,rfl,h⟩
  | succ i=>exact b i w e) r i w
theorem Reps.get' {vs:List V} {ws:List W} {i:Nat} {v:V} (r:Reps K F vs ws):vs[i]?=some v->∃ w,ws[i]?=some w/\Rep K F v w:=
 Reps.ind (P:=fun vs ws=>∀ (i:Nat) (v:V),vs[i]?=some v->∃ w,ws[i]?=some w/\Rep K F v w) (fun i w e=>by cases e) (fun h _ b i w e=>by
  cases i with
  | zero=>cases e; exact ⟨_,rfl,h⟩
  | succ i=>exact b i w e) r i v
theorem Reps.append {vs us:List V} {ws xs:List W} (r:Reps K F vs ws) (s:Reps K F us xs):Reps K F (vs++us) (ws++xs):=
 Reps.ind (P:=fun vs ws=>Reps K F (vs++us) (ws++xs)) s (fun h _ b=>.cons h b) r
theorem Reps.take {vs:List V} {ws:List W} (n:Nat) (r:Reps K F vs ws):Reps K F (vs.take n) (ws.take n):=
 Reps.ind (P:=fun vs ws=>∀ n,Reps K F (vs.take n) (ws.take n)) (fun n=>by simpa using .nil) (fun h _ b n=>by
  cases n with
  | zero=>exact .nil
  | succ n=>exact .cons h (b n)) r n
theorem Reps.drop {vs:List V} {ws:List W} (n:Nat) (r:Reps K F vs ws):Reps K F (vs.drop n) (ws.drop n):=
 Reps.ind (P:=fun vs ws=>∀ n,Reps K F (vs.drop n) (ws.drop n)) (fun n=>by simpa using .nil) (fun h r b n=>by
  cases n with
  | zero=>exact .cons h r
  | succ n=>exact b n) r n
theorem Reps.reverse {vs:List V} {ws:List W} (r:Reps K F vs ws):Reps K F vs.reverse ws.reverse:=by
 induction r using Reps.rec (motive_1:=fun _ _ _=>True) with
 | nil=>exact .nil
 | cons h _ _ ih=>rw [List.reverse_cons,List.reverse_cons]; exact Reps.append ih (.cons h .nil)
 | _=>trivial
theorem Reps.snoc {vs:List V} {ws:List W} {v:V} {w:W} (r:Reps K F vs ws) (h:Rep K F v w):Reps K F (vs ++ [v]) (ws ++ [w]):=r.append (.cons h .nil)
end
mutual
def noL:W->Bool
 | .lst _=>false
 | .scr _=>false
 | .tup ws=>k9 ws
 | _=>true
def k9:List W->Bool
 | []=>true
 | w::ws=>noL w&&k9 ws
end
def isL:HO->Bool
 | .lst _=>true
 | .dT _=>true
 | .dK _=>true
 | .frz _ (.lst _)=>true
 | _=>false
def join (H0 G:Hp):Hp:=fun a=>match H0 a with
 | some o=>if isL o then some o else G a
 | none=>G a
inductive Sl where
 | un | val (w:W) | par (w:W) | own (ws:List W) | dic (ks:List (List Int)) | dik (ks:List Int) | iop (p:Addr) (ws:List W) | hz (w:W)
abbrev Rho:=List Sl
def B1 (G:Hp):Hp:=fun a=>match G a with
 | some o=>if isL o then none else some o
 | none=>none
theorem S1 {G G':Hp} (h:Same G G'):Same (B1 G) (B1 G'):=fun a o e=>by
 unfold B1 at e ⊢
 cases q:G a with
 | none=>rw [q] at e; cases e
 | some u=>rw [q] at e; rw [h a u q]; exact e
theorem X0 {G:Hp}:Same (B1 G) G:=fun a o e=>by
 unfold B1 at e
 cases q:G a with
 | none=>rw [q] at e; cases e
 | some u=>
  rw [q] at e
  dsimp only at e
  cases hl:isL u
  ·rw [hl] at e; exact e
  ·rw [hl] at e; cases e
def SlR (K:Frag) (H0 G H:Hp):Sl->Option V->Prop
 | .un,_=>True
 | .val w,o=>∃ v,o=some v/\Rep K G v w
 | .par w,o=>∃ v,o=some v/\Rep K (join H0 G) v w
 | .own ws,o=>∃ a vs,o=some (.ref a)/\H a=some (.lst vs)/\G a=none/\H0 a=none/\Reps K G vs ws
 | .dic ks,o=>∃ (a:Addr) (kvs:List (List Key×V)),o=some (.ref a)/\H a=some (.dT kvs)/\G a=none/\H0 a=none/\kvs.map (·.1)=ks.map fun k=>k.map Sum.inl
 | .dik ks,o=>∃ (a:Addr) (kvs:List (Key×V)),o=some (.ref a)/\H a=some (.dK kvs)/\G a=none/\H0 a=none/\kvs.map (·.1)=ks.map Sum.inl
 | .iop p ws,o=>o=some (.ref p)/\∃ vs,H0 p=some (.lst vs)/\Reps K G vs ws
 | .hz w,o=>∃ v,o=some v/\Rep K (join H0 (B1 G)) v w
structure PIv (K:Frag) (H0 G:Hp) (ρ:Rho) (σ:St) (H:Hp):Prop where
 g0:∀ a o,H0 a=some o->isL o=false->G a=some o
 gl:∀ a o,H0 a=some o->isL o=true->G a=none
 gh:Same G H
 hh:Same H0 H
 len:ρ.length=σ.length
 sl:∀ (i:Nat) (x:Sl) (o:Option V),ρ[i]?=some x->σ[i]?=some o->SlR K H0 G H x o
 ne:∀ (i j:Nat) (ws us:List W) (a:Addr),i≠j->ρ[i]?=some (.own ws)->ρ[j]?=some (.own us)->σ[i]?=some (some (.ref a))->σ[j]?≠some (some (.ref a))
structure Ext (G H G' H':Hp):Prop where
 gg:Same G G'
 hh:Same H H'
 gh:Same G' H'
 keep:∀ a o,H a=some o->isL o=true->G a=none->G' a=none
theorem Ext.refl {G H:Hp} (h:Same G H):Ext G H G H:=⟨Same.refl G,Same.refl H,h,fun _ _ _ _ e=>e⟩
theorem Ext.trans {G H G1 H1 G2 H2:Hp} (a:Ext G H G1 H1) (b:Ext G1 H1 G2 H2):Ext G H G2 H2:=
 ⟨a.gg.trans b.gg,a.hh.trans b.hh,b.gh,fun x o h l e=>b.keep x o (a.hh x o h) l (a.keep x o h l e)⟩
section
variable {K:Frag} {H0 G H G' H':Hp} {ρ:Rho} {σ:St}
theorem o8 (h:Same G G'):Same (join H0 G) (join H0 G'):=fun a o e=>by
 unfold join at e ⊢
 cases q:H0 a with
 | none=>rw [q] at e; exact h a o e
 | some u=>
  rw [q] at e
  dsimp only at e ⊢
  by_cases hl:isL u=true
  ·rw [if_pos hl] at e ⊢; exact e
  ·rw [if_neg hl] at e ⊢; exact h a o e
theorem PIv.G_join (I:PIv K H0 G ρ σ H):Same G (join H0 G):=fun a o e=>by
 unfold join
 cases q:H0 a with
 | none=>exact e
 | some u=>
  dsimp only
  by_cases hl:isL u=true
  ·rw [I.gl a u q hl] at e; cases e
  ·rw [if_neg hl]; exact e
theorem PIv.join_H (I:PIv K H0 G ρ σ H):Same (join H0 G) H:=fun a o e=>by
 unfold join at e
 cases q:H0 a with
 | none=>rw [q] at e; exact I.gh a o e
 | some u=>
  rw [q] at e
  dsimp only at e
  by_cases hl:isL u=true
  ·rw [if_pos hl] at e; cases e; exact I.hh a _ q
  ·rw [if_neg hl] at e; exact I.gh a o e
theorem PIv.ext (I:PIv K H0 G ρ σ H) (x:Ext G H G' H'):PIv K H0 G' ρ σ H' where
 g0 a o e l:=x.gg a o (I.g0 a o e l)
 gl a o e l:=x.keep a o (I.hh a o e) l (I.gl a o e l)
 gh:=x.gh
 hh:=I.hh.trans x.hh
 len:=I.len
 sl i s o h1 h2:=by
  have:=I.sl i s o h1 h2
  cases s with
  | un=>trivial
  | val w=>obtain ⟨v,e,r⟩:=this; exact ⟨v,e,r.same x.gg⟩
  | par w=>obtain ⟨v,e,r⟩:=this; exact ⟨v,e,r.same (o8 x.gg)⟩
  | own ws=>
   obtain ⟨a,vs,e,h,g,h0,r⟩:=this
   exact ⟨a,vs,e,x.hh a _ h,x.keep a _ h rfl g,h0,r.same x.gg⟩
  | dic ks=>
   obtain ⟨a,kvs,e,h,g,h0,r⟩:=this
   exact ⟨a,kvs,e,x.hh a _ h,x.keep a _ h rfl g,h0,r⟩
  | dik ks=>
   obtain ⟨a,kvs,e,h,g,h0,r⟩:=this
   exact ⟨a,kvs,e,x.hh a _ h,x.keep a _ h rfl g,h0,r⟩
  | iop p ws=>
   obtain ⟨e,vs,h,r⟩:=this
   exact ⟨e,vs,h,r.same x.gg⟩
  | hz w=>obtain ⟨v,e,r⟩:=this; exact ⟨v,e,r.same (o8 (S1 x.gg))⟩
 ne:=I.ne
theorem bq {a:Addr} {o:HO} (h:join H0 G a=some o) (l:isL o=false):G a=some o:=by
 unfold join at h
 cases q:H0 a with
 | none=>rw [q] at h; exact h
 | some u=>
  rw [q] at h
  dsimp only at h
  by_cases hl:isL u=true
  ·rw [if_pos hl] at h; cases h; rw [hl] at l; cases l
  ·rw [if_neg hl] at h; exact h
theorem XD.clean {od:Option Addr}:∀ {i:Option Int},XD (join H0 G) od i->XD G od i
 | none,h=>h
 | some _,⟨d,h1,h2⟩=>⟨d,h1,bq h2 rfl⟩
theorem Rep.clean (I:PIv K H0 G ρ σ H) {v:V} {w:W} (r:Rep K (join H0 G) v w):noL w=true->Rep K G v w:=
 @Rep.rec K (join H0 G) (fun v w _=>noL w=true->Rep K G v w) (fun vs ws _=>k9 ws=true->Reps K G vs ws) (fun _=>.non) (fun _=>.bl) (fun _=>.int) (fun _=>.str) (fun _=>.ty)
  (fun h _ r n=>.tup (bq h rfl) (r n)) (fun _ _ _ n=>by cases n) (fun _ _ _ n=>by cases n) (fun h1 h2 h3 h4 h5 _=>.exc (bq h1 rfl) h2 h3 h4 (XD.clean h5)) (fun h _=>.cls h) (fun _=>.nil)
  (fun _ _ a b n=>by rw [k9,Bool.and_eq_true] at n; exact .cons (a n.1) (b n.2)) v w r
theorem Reps.clean (I:PIv K H0 G ρ σ H) {vs:List V} {ws:List W} (r:Reps K (join H0 G) vs ws):k9 ws=true->Reps K G vs ws:=
 @Reps.rec K (join H0 G) (fun _ _ _=>True) (fun vs ws _=>k9 ws=true->Reps K G vs ws) trivial trivial trivial trivial trivial (fun _ _ _=>trivial) (fun _ _ _=>trivial) (fun _ _ _=>trivial) (fun _ _ _ _ _=>trivial) (fun _=>trivial) (fun _=>.nil)
  (fun h _ _ b n=>by rw [k9,Bool.and_eq_true] at n; exact .cons (Rep.clean I h n.1) (b n.2)) vs ws r
end
structure XW where
 cls:Str
 at_:Option Int
inductive R (α:Type) where
 | ok (a:α) | ex (e:XW) | stuck
def R.bind {α β:Type} (x:R α) (f:α->R β):R β:=match x with
 | .ok a=>f a
 | .ex e=>.ex e
 | .stuck=>.stuck
instance:Monad R where
 pure:=R.ok
 bind:=R.bind
@[simp] theorem R.ok_bind {α β:Type} (a:α) (f:α->R β):((R.ok a:R α)>>=f)=f a:=rfl
@[simp] theorem R.stuck_bind {α β:Type} (f:α->R β):((R.stuck:R α)>>=f)=.stuck:=rfl
@[simp] theorem R.ex_bind {α β:Type} (e:XW) (f:α->R β):((R.ex e:R α)>>=f)=.ex e:=rfl
@[simp] theorem R.pure_eq {α:Type} (a:α):(pure a:R α)=.ok a:=rfl
inductive Mode where
 | F | V | U | C | B
def Md (K:Frag) (H0 H G' H':Hp) (v:V) (w:W):Mode->Prop
 | .V=>Rep K G' v w
 | .U=>Rep K (join H0 G') v w
 | .F=>match w with
  | .lst ws=>∃ a vs,v=.ref a/\H' a=some (.lst vs)/\G' a=none/\H a=none/\Reps K G' vs ws
  | w=>Rep K G' v w
 | .C=>Rep K G' v w\/∃ a vs ws,v=.ref a/\w=.lst ws/\H' a=some (.lst vs)/\Reps K G' vs ws
 | .B=>Rep K (join H0 G') v w\/∃ a vs ws,v=.ref a/\w=.lst ws/\H' a=some (.lst vs)/\Reps K G' vs ws
abbrev EXT:=XW->Hp->Prop
def Out {α β:Type} (EX:EXT) (G H:Hp) (md:α->β->Hp->Hp->Prop) (r:R α) (Q:β->Hp->Prop):Prop:=match r with
 | .ok w=>∀ v G' H',Ext G H G' H'->md w v G' H'->Q v H'
 | .ex e=>∀ H',Same H H'->EX e H'
 | .stuck=>False
abbrev mdW (K:Frag) (d:Mode) (H0 H:Hp):W->V->Hp->Hp->Prop:=fun w v G' H'=>Md K H0 H G' H' v w d
abbrev mdB:Bool->Bool->Hp->Hp->Prop:=fun b c _ _=>c=b
inductive MdA (K:Frag) (d:Mode) (H0 H G' H':Hp):List W->List V->Prop where
 | nil:MdA K d H0 H G' H' [] []
 | cons {w:W} {v:V} {ws:List W} {vs:List V}:Md K H0 H G' H' v w d->MdA K d H0 H G' H' ws vs->MdA K d H0 H G' H' (w::ws) (v::vs)
def MdAI (K:Frag) (d:Mode) (H0 H G' H':Hp) (vs:List V):List W->Prop
 | []=>vs = []
 | w::ws=>∃ v us,vs=v::us/\Md K H0 H G' H' v w d/\MdA K d H0 H G' H' ws us
abbrev mdA (K:Frag) (d:Mode) (H0 H:Hp):List W->List V->Hp->Hp->Prop:=fun ws vs G' H'=>MdA K d H0 H G' H' ws vs
def tM (K:Frag) (EX:EXT) (d:Mode) (m:Rho->R W):TE:=fun σ H Q=>∃ H0 G ρ,PIv K H0 G ρ σ H/\Out EX G H (mdW K d H0 H) (m ρ) Q
def tT (K:Frag) (EX:EXT) (m:Rho->R Bool):TT:=fun σ H Q=>∃ H0 G ρ,PIv K H0 G ρ σ H/\Out EX G H mdB (m ρ) Q
def tA (K:Frag) (EX:EXT) (d:Mode) (m:Rho->R (List W)):TA:=fun σ H Q=>∃ H0 G ρ,PIv K H0 G ρ σ H/\Out EX G H (mdA K d H0 H) (m ρ) Q
section
variable {K:Frag} {EX:EXT} {H0 G H G1 H1 G2 H2:Hp} {ρ:Rho} {σ:St}
theorem Out.bind {α β γ δ:Type} {md:α->β->Hp->Hp->Prop} {md':γ->δ->Hp->Hp->Prop} {m:R α} {k:α->R γ} {Q:δ->Hp->Prop} {Q1:β->Hp->Prop} (o:Out EX G H md' (m>>=k) Q)
  (h:∀ x G1 H1 w,Ext G H G1 H1->md w x G1 H1->Out EX G1 H1 md' (k w) Q->Q1 x H1):Out EX G H md m Q1:=by
 cases m with
 | ok w=>
  intro v G' H' e d
  refine h v G' H' w e d ?_
  rw [R.ok_bind] at o
  revert o
  cases k w with
  | ok u=>exact fun o v2 G2 H2 e2 d2=>o v2 G2 H2 (e.trans e2) d2
  | ex x=>exact fun o H2 s2=>o H2 (e.hh.trans s2)
  | stuck=>exact fun o=>o
 | ex x=>exact o
 | stuck=>exact o
theorem Md.start {v:V} {w:W} {d:Mode} (s:Same H H1) (h:Md K H0 H1 G2 H2 v w d):Md K H0 H G2 H2 v w d:=by
 cases d with
 | F=>
  cases w with
  | lst ws=>obtain ⟨a,vs,e,h1,h2,h3,r⟩:=h; exact ⟨a,vs,e,h1,h2,s.free h3,r⟩
  | _=>exact h
 | _=>exact h
theorem Md.move {v:V} {w:W} {d:Mode} (x:Ext G1 H1 G2 H2) (h:Md K H0 H G1 H1 v w d):Md K H0 H G2 H2 v w d:=by
 cases d with
 | V=>exact Rep.same x.gg h
 | U=>exact Rep.same (o8 x.gg) h
 | F=>
  cases w with
  | lst ws=>obtain ⟨a,vs,e,h1,h2,h3,r⟩:=h; exact ⟨a,vs,e,x.hh _ _ h1,x.keep _ _ h1 rfl h2,h3,r.same x.gg⟩
  | non=>exact Rep.same x.gg h
  | bl _=>exact Rep.same x.gg h
  | int _=>exact Rep.same x.gg h
  | str _=>exact Rep.same x.gg h
  | ty _=>exact Rep.same x.gg h
  | tup _=>exact Rep.same x.gg h
  | scr _=>exact Rep.same x.gg h
  | exc _ _=>exact Rep.same x.gg h
  | cls _=>exact Rep.same x.gg h
 | C=>
  rcases h with h | ⟨a,vs,ws,e,e2,h1,r⟩
  ·exact .inl (h.same x.gg)
  ·exact .inr ⟨a,vs,ws,e,e2,x.hh _ _ h1,r.same x.gg⟩
 | B=>
  rcases h with h | ⟨a,vs,ws,e,e2,h1,r⟩
  ·exact .inl (h.same (o8 x.gg))
  ·exact .inr ⟨a,vs,ws,e,e2,x.hh _ _ h1,r.same x.gg⟩
theorem Md.CB {v:V} {w:W} (I:PIv K H0 G1 ρ σ H1) (h:Md K H0 H G1 H1 v w .C):Md K H0 H G1 H1 v w .B:=by
 rcases h with h | h
 ·exact .inl (h.same I.G_join)
 ·exact .inr h
def sca:W->Bool
 | .tup _=>false
 | .scr _=>false
 | .lst _=>false
 | _=>true
theorem Md.sca {v:V} {w:W} (hs:sca w=true) (r:∀ F,Rep K F v w) (d:Mode):Md K H0 H G1 H1 v w d:=by
 cases d with
 | V=>exact r _
 | U=>exact r _
 | C=>exact .inl (r _)
 | B=>exact .inl (r _)
 | F=>cases w <;> first | exact r _ | cases hs
theorem Md.repB {v:V} {w:W} (h:Md K H0 H G1 H1 v w .B) (n:∀ us,w≠.lst us):Rep K (join H0 G1) v w:=Or.elim h id fun zz71=>by obtain ⟨_,_,us,_,e,_⟩:=zz71; exact absurd e (n us)
theorem Md.repC {v:V} {w:W} (h:Md K H0 H G1 H1 v w .C) (n:∀ us,w≠.lst us):Rep K G1 v w:=Or.elim h id fun zz72=>by obtain ⟨_,_,us,_,e,_⟩:=zz72; exact absurd e (n us)
theorem Md.lstB {v:V} {ws:List W} (I:PIv K H0 G1 ρ σ H1) (h:Md K H0 H G1 H1 v (.lst ws) .B):∃ a vs,v=.ref a/\H1 a=some (.lst vs)/\Reps K (join H0 G1) vs ws:=by
 rcases h with h | ⟨a,vs,us,e,e2,h1,r⟩
 ·obtain ⟨a,vs,e,s,r⟩:=h.inv; exact ⟨a,vs,e,I.join_H _ _ s,r⟩
 ·rw [W.lst.inj e2]; exact ⟨a,vs,e,h1,r.same I.G_join⟩
theorem Md.scrB {v:V} {ws:List W} (I:PIv K H0 G1 ρ σ H1) (h:Md K H0 H G1 H1 v (.scr ws) .B):∃ a vs,v=.ref a/\SqL K H1 a vs/\Reps K (join H0 G1) vs ws:=by
 obtain ⟨a,vs,e,s,r⟩:=(h.repB fun _=>W.noConfusion).inv; exact ⟨a,vs,e,Same.seq I.join_H s,r⟩
theorem Md.lstC {v:V} {ws:List W} (I:PIv K H0 G1 ρ σ H1) (h:Md K H0 H G1 H1 v (.lst ws) .C):∃ a vs,v=.ref a/\H1 a=some (.lst vs)/\Reps K G1 vs ws:=by
 rcases h with h | ⟨a,vs,us,e,e2,h1,r⟩
 ·obtain ⟨a,vs,e,s,r⟩:=h.inv; exact ⟨a,vs,e,I.gh _ _ s,r⟩
 ·rw [W.lst.inj e2]; exact ⟨a,vs,e,h1,r⟩
theorem Md.tupB {v:V} {ws:List W} (I:PIv K H0 G1 ρ σ H1) (h:Md K H0 H G1 H1 v (.tup ws) .B):∃ a vs,v=.ref a/\H1 a=some (.tup vs)/\Reps K (join H0 G1) vs ws:=by
 obtain ⟨a,vs,e,s,r⟩:=(h.repB fun _=>W.noConfusion).inv; exact ⟨a,vs,e,I.join_H _ _ s,r⟩
theorem Md.tupC {v:V} {ws:List W} (I:PIv K H0 G1 ρ σ H1) (h:Md K H0 H G1 H1 v (.tup ws) .C):∃ a vs,v=.ref a/\H1 a=some (.tup vs)/\Reps K G1 vs ws:=by
 obtain ⟨a,vs,e,s,r⟩:=(h.repC fun _=>W.noConfusion).inv; exact ⟨a,vs,e,I.gh _ _ s,r⟩
theorem Md.intB {v:V} {i:Int} (h:Md K H0 H G1 H1 v (.int i) .B):v=.int i:=(h.repB fun _=>W.noConfusion).inv
theorem Md.blB {v:V} {i:Bool} (h:Md K H0 H G1 H1 v (.bl i) .B):v=.bl i:=(h.repB fun _=>W.noConfusion).inv
theorem Md.strB {v:V} {i:Str} (h:Md K H0 H G1 H1 v (.str i) .B):v=.str i:=(h.repB fun _=>W.noConfusion).inv
theorem Md.nonB {v:V} (h:Md K H0 H G1 H1 v .non .B):v=.non:=(h.repB fun _=>W.noConfusion).inv
theorem Md.tyB {v:V} {n:String} (h:Md K H0 H G1 H1 v (.ty n) .B):v=.ty n:=(h.repB fun _=>W.noConfusion).inv
theorem uS {m:Rho->R W} {Q:VK} (h:tM K EX .V m σ H Q):tM K EX .F m σ H Q:=by
 obtain ⟨H0,G,ρ,I,o⟩:=h
 refine ⟨H0,G,ρ,I,?_⟩
 revert o
 cases m ρ with
 | ex e=>exact id
 | stuck=>exact id
 | ok w=>
  intro o v G' H' e d
  cases w with
  | lst ws=>
   obtain ⟨a,vs,rfl,h1,h2,h3,r⟩:=d
   have s1:Same G' (upd G' a (.lst vs)):=fun b o q=>by rw [b9 (c9 q h2)]; exact q
   refine o _ (upd G' a (.lst vs)) H' ⟨e.gg.trans s1,e.hh,fun b o q=>?_,fun b o q l g=>?_⟩ (.lst g7 (r.same s1))
   ·by_cases hb:b=a
    ·subst hb; rw [g7] at q; cases q; exact h1
    ·rw [b9 hb] at q; exact e.gh b o q
   ·rw [b9 (c9 q h3)]; exact e.keep b o q l g
  | _=>exact o v G' H' e d
theorem uP {m:Rho->R W} {Q:VK} (h:tM K EX .U m σ H Q):tM K EX .V m σ H Q:=by
 obtain ⟨H0,G,ρ,I,o⟩:=h
 refine ⟨H0,G,ρ,I,?_⟩
 revert o
 cases m ρ with
 | ex e=>exact id
 | stuck=>exact id
 | ok w=>exact fun o v G' H' e d=>o v G' H' e (Rep.same (I.ext e).G_join d)
theorem uQ {m:Rho->R W} {Q:VK} (h:tM K EX .C m σ H Q):tM K EX .V m σ H Q:=by
 obtain ⟨H0,G,ρ,I,o⟩:=h
 refine ⟨H0,G,ρ,I,?_⟩
 revert o
 cases m ρ with
 | ex e=>exact id
 | stuck=>exact id
 | ok w=>exact fun o v G' H' e d=>o v G' H' e (.inl d)
theorem uR {m:Rho->R W} {Q:VK} (h:tM K EX .B m σ H Q):tM K EX .U m σ H Q:=by
 obtain ⟨H0,G,ρ,I,o⟩:=h
 refine ⟨H0,G,ρ,I,?_⟩
 revert o
 cases m ρ with
 | ex e=>exact id
 | stuck=>exact id
 | ok w=>exact fun o v G' H' e d=>o v G' H' e (.inl d)
theorem uU {m:Rho->R W} {Q:VK} (h:tM K EX .B m σ H Q):tM K EX .C m σ H Q:=by
 obtain ⟨H0,G,ρ,I,o⟩:=h
 refine ⟨H0,G,ρ,I,?_⟩
 revert o
 cases m ρ with
 | ex e=>exact id
 | stuck=>exact id
 | ok w=>exact fun o v G' H' e d=>o v G' H' e (Md.CB (H:=H) (I.ext e) d)
theorem uT {m:Rho->R W} {Q:VK} (h:tM K EX .C m σ H Q):tM K EX .F m σ H Q:=by
 obtain ⟨H0,G,ρ,I,o⟩:=h
 refine ⟨H0,G,ρ,I,?_⟩
 revert o
 cases m ρ with
 | ex e=>exact id
 | stuck=>exact id
 | ok w=>
  intro o v G' H' e d
  cases w with
  | lst ws=>obtain ⟨a,vs,rfl,h1,h2,h3,r⟩:=d; exact o _ G' H' e (.inr ⟨a,vs,ws,rfl,rfl,h1,r⟩)
  | _=>exact o v G' H' e (.inl d)
def chk (w:W):R W:=if noL w then .ok w else .stuck
theorem km {v:V} {w:W} (n:noL w=true) (r:Rep K G1 v w):Md K H0 H G1 H1 v w .F:=by
 cases w with
 | lst ws=>cases n
 | _=>exact r
theorem gw {m:Rho->R W} {Q:VK} {d:Mode} (hd:d=.F\/d=.V) (h:tM K EX d (fun ρ=>m ρ>>=chk) σ H Q):tM K EX .U m σ H Q:=by
 obtain ⟨H0,G,ρ,I,o⟩:=h
 refine ⟨H0,G,ρ,I,Out.bind o fun x G1 H1 w e m1 o1=>?_⟩
 unfold chk at o1
 by_cases n:noL w=true
 ·rw [if_pos n] at o1
  have r:=Rep.clean (I.ext e) m1 n
  refine o1 x G1 H1 (Ext.refl e.gh) ?_
  rcases hd with rfl | rfl
  ·exact km n r
  ·exact r
 ·rw [if_neg n] at o1; exact o1.elim
end
end TP
namespace TP
open PySem L2
section
variable {K:Frag} {EX:EXT} {H0 G H G1 H1 G2 H2:Hp} {ρ:Rho} {σ:St} {d:Mode} {Q:VK}
theorem V6 {v:V} {w:W} (hs:sca w=true) (r:∀ F,Rep K F v w) (h:tM K EX d (fun _=>.ok w) σ H Q):tC v σ H Q:=by
 obtain ⟨H0,G,ρ,I,o⟩:=h
 exact o v G H (Ext.refl I.gh) (Md.sca hs r d)
def a9 (d:Mode) (i:Nat):Rho->R W:=fun ρ=>match ρ[i]? with
 | some (.val w)=>(match d with | .F=>chk w | _=>.ok w)
 | some (.par w)=>(match d with | .F=>chk w | .V=>chk w | .C=>chk w | _=>.ok w)
 | some (.own ws)=>(match d with | .C=>.ok (.lst ws) | .B=>.ok (.lst ws) | _=>.stuck)
 | some (.iop _ ws)=>(match d with | .B=>.ok (.lst ws) | .U=>.ok (.lst ws) | _=>.stuck)
 | some (.hz w)=>(match d with | .B=>.ok w | .U=>.ok w | _=>.stuck)
 | _=>.stuck
theorem Out.chk {α:Type} {v:V} {w:W} {md:W->α->Hp->Hp->Prop} {Q:α->Hp->Prop} (o:Out EX G H md (chk w) Q):noL w=true/\Out EX G H md (.ok w) Q:=by
 unfold TP.chk at o
 by_cases n:noL w=true
 ·rw [if_pos n] at o; exact ⟨n,o⟩
 ·rw [if_neg n] at o; exact o.elim
theorem kQ {i:Nat} (h:tM K EX d (a9 d i) σ H Q):W0 i σ H Q:=by
 obtain ⟨H0,G,ρ,I,o⟩:=h
 unfold a9 at o
 cases e:ρ[i]? with
 | none=>rw [e] at o; exact o.elim
 | some s=>
  rw [e] at o
  have hi:i<σ.length:=by rw [<- I.len]; exact (List.getElem?_eq_some_iff.mp e).1
  have es:σ[i]?=some σ[i]:=by simp
  have r:=I.sl i s _ e es
  cases s with
  | un=>exact o.elim
  | val w=>
   obtain ⟨v,ev,r⟩:=r
   refine ⟨v,by rw [es,ev],?_⟩
   cases d with
   | F=>obtain ⟨n,o⟩:=Out.chk (v:=v) o; exact o v G H (Ext.refl I.gh) (km n r)
   | V=>exact o v G H (Ext.refl I.gh) r
   | U=>exact o v G H (Ext.refl I.gh) (r.same I.G_join)
   | C=>exact o v G H (Ext.refl I.gh) (.inl r)
   | B=>exact o v G H (Ext.refl I.gh) (.inl (r.same I.G_join))
  | par w=>
   obtain ⟨v,ev,r⟩:=r
   refine ⟨v,by rw [es,ev],?_⟩
   cases d with
   | F=>obtain ⟨n,o⟩:=Out.chk (v:=v) o; exact o v G H (Ext.refl I.gh) (km n (Rep.clean I r n))
   | V=>obtain ⟨n,o⟩:=Out.chk (v:=v) o; exact o v G H (Ext.refl I.gh) (Rep.clean I r n)
   | U=>exact o v G H (Ext.refl I.gh) r
   | C=>obtain ⟨n,o⟩:=Out.chk (v:=v) o; exact o v G H (Ext.refl I.gh) (.inl (Rep.clean I r n))
   | B=>exact o v G H (Ext.refl I.gh) (.inl r)
  | own ws=>
   obtain ⟨a,vs,ev,ha,hg,h0,r⟩:=r
   refine ⟨.ref a,by rw [es,ev],?_⟩
   cases d with
   | F=>exact o.elim
   | V=>exact o.elim
   | U=>exact o.elim
   | C=>exact o _ G H (Ext.refl I.gh) (.inr ⟨a,vs,ws,rfl,rfl,ha,r⟩)
   | B=>exact o _ G H (Ext.refl I.gh) (.inr ⟨a,vs,ws,rfl,rfl,ha,r⟩)
  | dic ks=>exact o.elim
  | dik ks=>exact o.elim
  | hz w=>
   obtain ⟨v,ev,r⟩:=r
   refine ⟨v,by rw [es,ev],?_⟩
   have rj:=r.same (o8 (H0:=H0) (X0 (G:=G)))
   cases d with
   | F=>exact o.elim
   | V=>exact o.elim
   | C=>exact o.elim
   | U=>exact o v G H (Ext.refl I.gh) rj
   | B=>exact o v G H (Ext.refl I.gh) (.inl rj)
  | iop p ws=>
   obtain ⟨ev,vs,h0,r⟩:=r
   refine ⟨.ref p,by rw [es,ev],?_⟩
   have rj:Rep K (join H0 G) (.ref p) (.lst ws):=by
    refine .lst (vs:=vs) ?_ (r.same I.G_join)
    unfold join
    rw [h0]; rfl
   cases d with
   | F=>exact o.elim
   | V=>exact o.elim
   | U=>exact o _ G H (Ext.refl I.gh) rj
   | C=>exact o.elim
   | B=>exact o _ G H (Ext.refl I.gh) (.inl rj)
def Op2 (K:Frag) (b d:Mode) (r:R2) (f:W->W->R W):Prop:=∀ (EX:EXT) (H0 Hs G H:Hp) (ρ:Rho) (σ:St) (Ha Hb:Hp) (x y:V) (u v:W) (Q:VK),PIv K H0 G ρ σ H->Same Hs H->Md K H0 Ha G H x u b->Md K H0 Hb G H y v b ->
 Out EX G H (mdW K d H0 Hs) (f u v) Q->r x y H Q
theorem ii {b:Mode} {r:R2} {f:W->W->R W} {ma mb:Rho->R W} (hr:Op2 K b d r f) (h:tM K EX d (fun ρ=>ma ρ>>=fun x=>mb ρ>>=fun y=>f x y) σ H Q):tOp r (tM K EX b ma) (tM K EX b mb) σ H Q:=by
 obtain ⟨H0,G,ρ,I,o⟩:=h
 refine ⟨H0,G,ρ,I,Out.bind o fun x G1 H1 u e1 m1 o1=>⟨H0,G1,ρ,I.ext e1,Out.bind o1 fun y G2 H2 v e2 m2 o2=>?_⟩⟩
 exact hr EX H0 H G2 H2 ρ σ H H1 x y u v Q ((I.ext e1).ext e2) (e1.hh.trans e2.hh) (m1.move e2) m2 o2
def Op1 (K:Frag) (b d:Mode) (r:V->Hp->VK->Prop) (f:W->R W):Prop:=∀ (EX:EXT) (H0 Hs G H:Hp) (ρ:Rho) (σ:St) (Ha:Hp) (x:V) (u:W) (Q:VK),PIv K H0 G ρ σ H->Same Hs H->Md K H0 Ha G H x u b ->
 Out EX G H (mdW K d H0 Hs) (f u) Q->r x H Q
theorem c_un {b:Mode} {r:V->Hp->VK->Prop} {f:W->R W} {ma:Rho->R W} (hr:Op1 K b d r f) (h:tM K EX d (fun ρ=>ma ρ>>=fun x=>f x) σ H Q):tUn r (tM K EX b ma) σ H Q:=by
 obtain ⟨H0,G,ρ,I,o⟩:=h
 exact ⟨H0,G,ρ,I,Out.bind o fun x G1 H1 u e1 m1 o1=>hr EX H0 H G1 H1 ρ σ H x u Q (I.ext e1) e1.hh m1 o1⟩
def fI (C:Int->Int->Prop) [∀ i j,Decidable (C i j)] (g:Int->Int->W):W->W->R W
 | .int i,.int j=>if C i j then .ok (g i j) else .stuck
 | _,_=>.stuck
def fI0 (g:Int->Int->W):W->W->R W
 | .int i,.int j=>.ok (g i j)
 | _,_=>.stuck
theorem l7 {C:Int->Int->Prop} [∀ i j,Decidable (C i j)] {g:Int->Int->W} {gv:Int->Int->V} (hs:∀ i j,sca (g i j)=true) (hg:∀ i j F,Rep K F (gv i j) (g i j)):Op2 K .B d (rI C gv) (fI C g):=by
 intro EX H0 Hs G H ρ σ Ha Hb x y u v Q I s mx my o
 cases u <;> first | exact o.elim | skip
 all_goals (cases v <;> first | exact o.elim | skip)
 rename_i i j
 have o':Out EX G H (mdW K d H0 Hs) (if C i j then R.ok (g i j) else .stuck) Q:=o
 by_cases c:C i j
 ·rw [if_pos c] at o'
  exact ⟨i,j,mx.intB,my.intB,c,o' _ G H (Ext.refl I.gh) (Md.sca (hs i j) (hg i j) d)⟩
 ·rw [if_neg c] at o'; exact o'.elim
theorem eX {g:Int->Int->W} {gv:Int->Int->V} (hs:∀ i j,sca (g i j)=true) (hg:∀ i j F,Rep K F (gv i j) (g i j)):Op2 K .B d (rI0 gv) (fI0 g):=by
 intro EX H0 Hs G H ρ σ Ha Hb x y u v Q I s mx my o
 cases u <;> first | exact o.elim | skip
 all_goals (cases v <;> first | exact o.elim | skip)
 rename_i i j
 exact ⟨i,j,mx.intB,my.intB,o _ G H (Ext.refl I.gh) (Md.sca (hs i j) (hg i j) d)⟩
def fU (g:Int->W):W->R W
 | .int i=>.ok (g i)
 | _=>.stuck
theorem yK {g:Int->W} {gv:Int->V} (hs:∀ i,sca (g i)=true) (hg:∀ i F,Rep K F (gv i) (g i)):Op1 K .B d (rU gv) (fU g):=by
 intro EX H0 Hs G H ρ σ Ha x u Q I s mx o
 cases u <;> first | exact o.elim | skip
 rename_i i
 exact ⟨i,mx.intB,o _ G H (Ext.refl I.gh) (Md.sca (hs i) (hg i) d)⟩
def isN:W->Bool
 | .non=>true
 | _=>false
def aj (neg:Bool):W->W->R W
 | u,.non=>.ok (.bl (if neg then !isN u else isN u))
 | _,_=>.stuck
theorem nA {b:Mode} (hb:b=.B\/b=.U\/b=.V\/b=.C) {v:V} {w:W} {Hs:Hp} (h:Md K H0 Hs G1 H1 v w b):decide (v=.non)=isN w:=by
 have key:∀ F,Rep K F v w->decide (v=.non)=isN w:=fun F r=>by
  cases r <;> first | rfl | (apply decide_eq_false; intro z; cases z)
 rcases hb with rfl | rfl | rfl | rfl
 ·rcases h with h | ⟨a,vs,ws,rfl,rfl,_⟩
  ·exact key _ h
  ·apply decide_eq_false; intro z; cases z
 ·exact key _ h
 ·exact key _ h
 ·rcases h with h | ⟨a,vs,ws,rfl,rfl,_⟩
  ·exact key _ h
  ·apply decide_eq_false; intro z; cases z
theorem mR:Op2 K .B d (fun x y H Q=>y=.non/\Q (.bl (decide (x=.non))) H) (aj false):=by
 intro EX H0 Hs G H ρ σ Ha Hb x y u v Q I s mx my o
 cases v <;> first | exact o.elim | skip
 refine ⟨my.nonB,?_⟩
 rw [nA (.inl rfl) mx]
 exact o _ G H (Ext.refl I.gh) (Md.sca rfl (fun _=>.bl) d)
theorem uJ:Op2 K .B d (fun x y H Q=>y=.non/\Q (.bl (!decide (x=.non))) H) (aj true):=by
 intro EX H0 Hs G H ρ σ Ha Hb x y u v Q I s mx my o
 cases v <;> first | exact o.elim | skip
 refine ⟨my.nonB,?_⟩
 rw [nA (.inl rfl) mx]
 exact o _ G H (Ext.refl I.gh) (Md.sca rfl (fun _=>.bl) d)
def toB:W->R Bool
 | .bl b=>.ok b
 | _=>.stuck
theorem nX {ma:Rho->R W} {Q:Bool->Hp->Prop} (h:tT K EX (fun ρ=>ma ρ>>=toB) σ H Q):rD (tM K EX .B ma) σ H Q:=by
 obtain ⟨H0,G,ρ,I,o⟩:=h
 refine ⟨H0,G,ρ,I,Out.bind o fun x G1 H1 u e1 m1 o1=>?_⟩
 cases u <;> first | exact o1.elim | skip
 rename_i b
 exact ⟨b,m1.blB,o1 b G1 H1 (Ext.refl e1.gh) rfl⟩
theorem c_tB {ma:Rho->R W} {Q:Bool->Hp->Prop} (h:tT K EX (fun ρ=>ma ρ>>=toB) σ H Q):tB (tM K EX .B ma) σ H Q:=nX h
def cV (a b:R Bool):R Bool:=a>>=fun c=>if c then b else .ok false
def rOr (a b:R Bool):R Bool:=a>>=fun c=>if c then .ok true else b
def jU (a:R Bool):R Bool:=a>>=fun c=>.ok (!c)
theorem CT {ma mb:Rho->R Bool} {Q:Bool->Hp->Prop} (h:tT K EX (fun ρ=>cV (ma ρ) (mb ρ)) σ H Q):wR (tT K EX ma) (tT K EX mb) σ H Q:=by
 obtain ⟨H0,G,ρ,I,o⟩:=h
 refine ⟨H0,G,ρ,I,Out.bind o fun x G1 H1 u e1 m1 o1=>?_⟩
 cases m1
 cases x with
 | true=>exact ⟨H0,G1,ρ,I.ext e1,o1⟩
 | false=>exact o1 false G1 H1 (Ext.refl e1.gh) rfl
theorem c_or {ma mb:Rho->R Bool} {Q:Bool->Hp->Prop} (h:tT K EX (fun ρ=>rOr (ma ρ) (mb ρ)) σ H Q):tOr (tT K EX ma) (tT K EX mb) σ H Q:=by
 obtain ⟨H0,G,ρ,I,o⟩:=h
 refine ⟨H0,G,ρ,I,Out.bind o fun x G1 H1 u e1 m1 o1=>?_⟩
 cases m1
 cases x with
 | true=>exact o1 true G1 H1 (Ext.refl e1.gh) rfl
 | false=>exact ⟨H0,G1,ρ,I.ext e1,o1⟩
theorem CG {ma:Rho->R Bool} {Q:Bool->Hp->Prop} (h:tT K EX (fun ρ=>jU (ma ρ)) σ H Q):wM (tT K EX ma) σ H Q:=by
 obtain ⟨H0,G,ρ,I,o⟩:=h
 refine ⟨H0,G,ρ,I,Out.bind o fun x G1 H1 u e1 m1 o1=>?_⟩
 cases m1
 exact o1 _ G1 H1 (Ext.refl e1.gh) rfl
def aE (a b:R W):R W:=a>>=fun x=>toB x>>=fun c=>if c then b else .ok (.bl false)
def fN (a b:R W):R W:=a>>=fun x=>toB x>>=fun c=>if c then .ok (.bl true) else b
def eT (a:R W):R W:=a>>=fun x=>toB x>>=fun c=>.ok (.bl (!c))
theorem Bo {ma mb:Rho->R W} (h:tM K EX d (fun ρ=>aE (ma ρ) (mb ρ)) σ H Q):rF (tM K EX .B ma) (tM K EX d mb) σ H Q:=by
 obtain ⟨H0,G,ρ,I,o⟩:=h
 refine ⟨H0,G,ρ,I,Out.bind o fun x G1 H1 u e1 m1 o1=>?_⟩
 cases u <;> first | exact o1.elim | skip
 rename_i b
 refine ⟨b,m1.blB,?_⟩
 cases b with
 | true=>
  rw [if_pos rfl]
  refine ⟨H0,G1,ρ,I.ext e1,?_⟩
  have o2:Out EX G1 H1 (mdW K d H0 H) (mb ρ) Q:=o1
  revert o2
  cases mb ρ with
  | ok w=>exact fun o2 v G2 H2 e2 m2=>o2 v G2 H2 e2 (m2.start e1.hh)
  | ex _=>exact id
  | stuck=>exact id
 | false=>
  rw [if_neg Bool.false_ne_true]
  exact o1 _ G1 H1 (Ext.refl e1.gh) (Md.sca rfl (fun _=>.bl) d)
theorem Bc {ma:Rho->R W} (h:tM K EX d (fun ρ=>eT (ma ρ)) σ H Q):rE (tM K EX .B ma) σ H Q:=by
 obtain ⟨H0,G,ρ,I,o⟩:=h
 refine ⟨H0,G,ρ,I,Out.bind o fun x G1 H1 u e1 m1 o1=>?_⟩
 cases u <;> first | exact o1.elim | skip
 rename_i b
 exact ⟨b,m1.blB,o1 _ G1 H1 (Ext.refl e1.gh) (Md.sca rfl (fun _=>.bl) d)⟩
theorem Out.restart {r:R W} (s:Same H H1) (o:Out EX G1 H1 (mdW K d H0 H) r Q):Out EX G1 H1 (mdW K d H0 H1) r Q:=by
 revert o
 cases r with
 | ok w=>exact fun o v G2 H2 e2 m2=>o v G2 H2 e2 (m2.start s)
 | ex _=>exact id
 | stuck=>exact id
theorem c_if {mc:Rho->R Bool} {ma mb:Rho->R W} (h:tM K EX d (fun ρ=>mc ρ>>=fun c=>if c then ma ρ else mb ρ) σ H Q):tIf (tT K EX mc) (tM K EX d ma) (tM K EX d mb) σ H Q:=by
 obtain ⟨H0,G,ρ,I,o⟩:=h
 refine ⟨H0,G,ρ,I,Out.bind o fun x G1 H1 u e1 m1 o1=>?_⟩
 cases m1
 cases x with
 | true=>exact ⟨H0,G1,ρ,I.ext e1,Out.restart e1.hh o1⟩
 | false=>exact ⟨H0,G1,ρ,I.ext e1,Out.restart e1.hh o1⟩
theorem CH {QA:List V->Hp->Prop} (h:tA K EX d (fun _=>.ok []) σ H QA):tNil σ H QA:=by
 obtain ⟨H0,G,ρ,I,o⟩:=h
 exact o [] G H (Ext.refl I.gh) .nil
theorem Bi {ma:Rho->R W} {mr:Rho->R (List W)} {QA:List V->Hp->Prop} (h:tA K EX d (fun ρ=>ma ρ>>=fun x=>mr ρ>>=fun xs=>.ok (x::xs)) σ H QA):jP (tM K EX d ma) (tA K EX d mr) σ H QA:=by
 obtain ⟨H0,G,ρ,I,o⟩:=h
 refine ⟨H0,G,ρ,I,Out.bind o fun x G1 H1 u e1 m1 o1=>⟨H0,G1,ρ,I.ext e1,Out.bind o1 fun xs G2 H2 us e2 m2 o2=>?_⟩⟩
 refine o2 (x::xs) G2 H2 (Ext.refl e2.gh) (.cons (m1.move e2) ?_)
 have go:∀ {ws:List W} {vs:List V},MdA K d H0 H1 G2 H2 ws vs->MdA K d H0 H G2 H2 ws vs:=fun {ws vs} q=>by
  induction q with
  | nil=>exact .nil
  | cons a _ ih=>exact .cons (a.start e1.hh) ih
 exact go m2
theorem MdA.reps {ws:List W} {vs:List V} (h:MdA K .V H0 H G1 H1 ws vs):Reps K G1 vs ws:=
 @MdA.rec K .V H0 H G1 H1 (fun ws vs _=>Reps K G1 vs ws) .nil (fun h _ b=>.cons h b) ws vs h
theorem uN {p:Addr} {o:HO} (hG:Same G H) (hp:H p=none):Ext G H G (upd H p o):=
 ⟨Same.refl G,fun b u q=>by rw [b9 (c9 q hp)]; exact q,fun b u q=>by rw [b9 (c9 (hG b u q) hp)]; exact hG b u q,fun _ _ _ _ e=>e⟩
theorem gs {p:Addr} {o:HO} (hG:Same G H) (hp:H p=none):Ext G H (upd G p o) (upd H p o):=by
 have gp:G p=none:=hG.free hp
 refine ⟨fun b u q=>by rw [b9 (c9 q gp)]; exact q,fun b u q=>by rw [b9 (c9 q hp)]; exact q,fun b u q=>?_,fun b u q l g=>?_⟩
 ·by_cases hb:b=p
  ·subst hb; rw [g7] at q ⊢; exact q
  ·rw [b9 hb] at q ⊢; exact hG b u q
 ·rw [b9 (c9 q hp)]; exact g
theorem Out.newL {p:Addr} {vs:List V} {ws:List W} {Hs:Hp} (I:PIv K H0 G ρ σ H) (s:Same Hs H) (r:Reps K G vs ws) (hp:H p=none) (o:Out EX G H (mdW K .F H0 Hs) (.ok (.lst ws)) Q):Q (.ref p) (upd H p (.lst vs)):=
 o _ G _ (uN I.gh hp) ⟨p,vs,rfl,g7,I.gh.free hp,s.free hp,r⟩
theorem Out.newTF {p:Addr} {vs:List V} {ws:List W} {Hs:Hp} (I:PIv K H0 G ρ σ H) (r:Reps K G vs ws) (hp:H p=none) (o:Out EX G H (mdW K .F H0 Hs) (.ok (.tup ws)) Q):Q (.ref p) (upd H p (.tup vs)):=
 o _ (upd G p (.tup vs)) _ (gs I.gh hp) (.tup g7 (r.same fun b u q=>by rw [b9 (c9 q (I.gh.free hp))]; exact q))
def lim (n:Nat) (w:W):R W:=if n<=1000 then .ok w else .stuck
theorem Out.lim {α:Type} {n:Nat} {w:W} {md:W->α->Hp->Hp->Prop} {Q:α->Hp->Prop} (o:Out EX G H md (lim n w) Q):n<=1000/\Out EX G H md (.ok w) Q:=by
 unfold TP.lim at o
 by_cases n:n<=1000
 ·rw [if_pos n] at o; exact ⟨n,o⟩
 ·rw [if_neg n] at o; exact o.elim
theorem U6 {n:Nat} (h:n<=1000):n<=sizeLine:=Nat.le_trans h (by decide)
theorem CD {ma:Rho->R (List W)} (h:tM K EX .F (fun ρ=>ma ρ>>=fun ws=>lim ws.length (.tup ws)) σ H Q):wK (tA K EX .V ma) σ H Q:=by
 obtain ⟨H0,G,ρ,I,o⟩:=h
 refine ⟨H0,G,ρ,I,Out.bind o fun xs G1 H1 ws e1 m1 o1=>?_⟩
 obtain ⟨hl,o2⟩:=Out.lim o1
 have r:=MdA.reps m1
 exact ⟨by rw [r.length]; exact U6 hl,fun p hp=>Out.newTF (I.ext e1) r hp o2⟩
theorem CI {ma:Rho->R (List W)} (h:tM K EX .F (fun ρ=>ma ρ>>=fun ws=>lim ws.length (.lst ws)) σ H Q):wN (tA K EX .V ma) σ H Q:=by
 obtain ⟨H0,G,ρ,I,o⟩:=h
 refine ⟨H0,G,ρ,I,Out.bind o fun xs G1 H1 ws e1 m1 o1=>?_⟩
 obtain ⟨hl,o2⟩:=Out.lim o1
 have r:=MdA.reps m1
 exact ⟨by rw [r.length]; exact U6 hl,fun p hp=>Out.newL (I.ext e1) e1.hh r hp o2⟩
theorem qw {p:Addr} {o:HO} (h:H0 p=none):join H0 (upd G p o)=upd (join H0 G) p o:=by
 funext b
 by_cases hb:b=p
 ·subst hb; unfold join; rw [h]; dsimp only; rw [g7,g7]
 ·rw [b9 hb]; unfold join; cases H0 b with
  | none=>dsimp only; rw [b9 hb]
  | some u=>dsimp only; rw [b9 hb]
end
end TP
namespace TP
open PySem L2
inductive Fl where
 | nx (ρ:Rho) | rt (w:W) | bk (ρ:Rho) | ct (ρ:Rho)
def OutS (K:Frag) (EX:EXT) (d:Mode) (H0 G:Hp) (r:R Fl) (D:Ends):Prop:=match r with
 | .ok (.nx ρ)=>∀ G' σ' H',Same G G'->PIv K H0 G' ρ σ' H'->D.nx σ' H'
 | .ok (.bk ρ)=>∀ G' σ' H',Same G G'->PIv K H0 G' ρ σ' H'->D.bk σ' H'
 | .ok (.ct ρ)=>∀ G' σ' H',Same G G'->PIv K H0 G' ρ σ' H'->D.ct σ' H'
 | .ok (.rt w)=>∀ v G' H',Same G G'->Same G' H'->Same H0 H'->(∀ a o,H0 a=some o->isL o=true->G' a=none)->Md K H0 H0 G' H' v w d->D.rt v H'
 | .ex e=>∀ H',Same H0 H'->EX e H'
 | .stuck=>False
def tSt (K:Frag) (EX:EXT) (d:Mode) (m:Rho->R Fl):TS:=fun D σ H=>∃ H0 G ρ,PIv K H0 G ρ σ H/\OutS K EX d H0 G (m ρ) D
section
variable {K:Frag} {EX:EXT} {H0 G H G1 H1 G2 H2:Hp} {ρ:Rho} {σ:St} {d:Mode} {D:Ends}
theorem OutS.move {r:R Fl} (s:Same G G1) (o:OutS K EX d H0 G r D):OutS K EX d H0 G1 r D:=by
 cases r with
 | stuck=>exact o
 | ex e=>exact o
 | ok f=>
  cases f with
  | nx ρ'=>exact fun G' σ' H' s' I'=>o G' σ' H' (s.trans s') I'
  | bk ρ'=>exact fun G' σ' H' s' I'=>o G' σ' H' (s.trans s') I'
  | ct ρ'=>exact fun G' σ' H' s' I'=>o G' σ' H' (s.trans s') I'
  | rt w=>exact fun v G' H' s0 s1 s2 c md=>o v G' H' (s.trans s0) s1 s2 c md
theorem OutS.bind {α β:Type} {md:α->β->Hp->Hp->Prop} {m:R α} {k:α->R Fl} {Q1:β->Hp->Prop} (I:PIv K H0 G ρ σ H) (o:OutS K EX d H0 G (m>>=k) D)
  (h:∀ x G1 H1 w,Ext G H G1 H1->md w x G1 H1->OutS K EX d H0 G1 (k w) D->Q1 x H1):Out EX G H md m Q1:=by
 cases m with
 | ok w=>exact fun v G' H' e q=>h v G' H' w e q (OutS.move e.gg o)
 | ex e=>exact fun H' s=>o H' (I.hh.trans s)
 | stuck=>exact o
def c8 (m n:Rho->R Fl):Rho->R Fl:=fun ρ=>m ρ>>=fun f=>match f with
 | .nx ρ'=>n ρ'
 | .rt w=>.ok (.rt w)
 | .bk ρ'=>.ok (.bk ρ')
 | .ct ρ'=>.ok (.ct ρ')
theorem Bd (h:tSt K EX d (fun ρ=>.ok (.nx ρ)) D σ H):tNext D σ H:=by
 obtain ⟨H0,G,ρ,I,o⟩:=h
 exact o G σ H (Same.refl G) I
theorem CF {m n:Rho->R Fl} (h:tSt K EX d (c8 m n) D σ H):oO (tSt K EX d m) (tSt K EX d n) D σ H:=by
 obtain ⟨H0,G,ρ,I,o⟩:=h
 refine ⟨H0,G,ρ,I,?_⟩
 unfold c8 at o
 revert o
 cases m ρ with
 | stuck=>exact id
 | ex e=>exact id
 | ok f=>
  cases f with
  | nx ρ'=>exact fun o G' σ' H' s' I'=>⟨H0,G',ρ',I',OutS.move s' o⟩
  | _=>exact id
theorem Bh (h:tSt K EX d (fun ρ=>.ok (.ct ρ)) D σ H):tCont D σ H:=by
 obtain ⟨H0,G,ρ,I,o⟩:=h
 exact o G σ H (Same.refl G) I
theorem wa (h:tSt K EX d (fun _=>.stuck) D σ H):tNever D σ H:=by
 obtain ⟨H0,G,ρ,I,o⟩:=h
 exact o
theorem sw {m:Rho->R W} (h:tSt K EX d (fun ρ=>m ρ>>=fun w=>.ok (.rt w)) D σ H):jN (tM K EX d m) D σ H:=by
 obtain ⟨H0,G,ρ,I,o⟩:=h
 refine ⟨H0,G,ρ,I,OutS.bind I o fun x G1 H1 w e1 m1 o1=>?_⟩
 have I1:=I.ext e1
 exact o1 x G1 H1 (Same.refl _) e1.gh I1.hh I1.gl (m1.start I.hh)
def D0 (d:Mode) (i:Nat):Rho->R Fl:=fun ρ=>match ρ[i]? with
 | some (.own ws)=>.ok (.rt (.lst ws))
 | _=>a9 d i ρ>>=fun w=>.ok (.rt w)
theorem rf {i:Nat} (hd:d=.F\/d=.V) (h:tSt K EX d (D0 d i) D σ H):jN (W0 i) D σ H:=by
 obtain ⟨H0,G,ρ,I,o⟩:=h
 unfold D0 at o
 by_cases ho:∃ ws,ρ[i]?=some (.own ws)
 ·obtain ⟨ws,e⟩:=ho
  rw [e] at o
  have hi:i<σ.length:=by rw [<- I.len]; exact (List.getElem?_eq_some_iff.mp e).1
  have es:σ[i]?=some σ[i]:=by simp
  obtain ⟨a,vs,ev,ha,hg,h0,r⟩:=I.sl i _ _ e es
  refine ⟨.ref a,by rw [es,ev],?_⟩
  rcases hd with rfl | rfl
  ·exact o _ G H (Same.refl _) I.gh I.hh I.gl ⟨a,vs,rfl,ha,hg,h0,r⟩
  ·have s1:Same G (upd G a (.lst vs)):=fun b o q=>by rw [b9 (c9 q hg)]; exact q
   refine o _ (upd G a (.lst vs)) H s1 (fun b o q=>?_) I.hh (fun b u q l=>?_) (.lst g7 (r.same s1))
   ·by_cases hb:b=a
    ·subst hb; rw [g7] at q; cases q; exact ha
    ·rw [b9 hb] at q; exact I.gh b o q
   ·rw [b9 (c9 q h0)]; exact I.gl b u q l
 ·have o':OutS K EX d H0 G (a9 d i ρ>>=fun w=>.ok (.rt w)) D:=by
   revert o
   split
   ·rename_i ws e; exact absurd ⟨ws,e⟩ ho
   ·exact id
  have c:jN (tM K EX d (a9 d i)) D σ H:=sw (m:=a9 d i) ⟨H0,G,ρ,I,o'⟩
  exact kQ c
theorem PIv.setV {i:Nat} {v:V} {w:W} (I:PIv K H0 G ρ σ H) (r:Rep K G v w):PIv K H0 G (ρ.set i (.val w)) (σ.set i (some v)) H where
 g0:=I.g0
 gl:=I.gl
 gh:=I.gh
 hh:=I.hh
 len:=by rw [List.length_set,List.length_set]; exact I.len
 sl j x o h1 h2:=by
  by_cases hj:i=j
  ·subst hj
   rw [List.getElem?_set] at h1 h2
   simp only [if_true] at h1 h2
   split at h1 <;> split at h2 <;> simp only [Option.some.injEq,reduceCtorEq] at h1 h2
   subst h1; subst h2
   exact ⟨v,rfl,r⟩
  ·rw [List.getElem?_set_ne hj] at h1 h2; exact I.sl j x o h1 h2
 ne a b ws us c hab h1 h2 h3 h4:=by
  have na:i≠a:=by
   rintro rfl
   rw [List.getElem?_set] at h1
   simp only [if_true] at h1
   split at h1 <;> simp at h1
  have nb:i≠b:=by
   rintro rfl
   rw [List.getElem?_set] at h2
   simp only [if_true] at h2
   split at h2 <;> simp at h2
  rw [List.getElem?_set_ne na] at h1 h3
  rw [List.getElem?_set_ne nb] at h2 h4
  exact I.ne a b ws us c hab h1 h2 h3 h4
theorem PIv.setU {i:Nat} {v:V} {w:W} (I:PIv K H0 G ρ σ H) (r:Rep K (join H0 G) v w):PIv K H0 G (ρ.set i (.par w)) (σ.set i (some v)) H where
 g0:=I.g0
 gl:=I.gl
 gh:=I.gh
 hh:=I.hh
 len:=by rw [List.length_set,List.length_set]; exact I.len
 sl j x o h1 h2:=by
  by_cases hj:i=j
  ·subst hj
   rw [List.getElem?_set] at h1 h2
   simp only [if_true] at h1 h2
   split at h1 <;> split at h2 <;> simp only [Option.some.injEq,reduceCtorEq] at h1 h2
   subst h1; subst h2
   exact ⟨v,rfl,r⟩
  ·rw [List.getElem?_set_ne hj] at h1 h2; exact I.sl j x o h1 h2
 ne a b ws us c hab h1 h2 h3 h4:=by
  have na:i≠a:=by
   rintro rfl
   rw [List.getElem?_set] at h1
   simp only [if_true] at h1
   split at h1 <;> simp at h1
  have nb:i≠b:=by
   rintro rfl
   rw [List.getElem?_set] at h2
   simp only [if_true] at h2
   split at h2 <;> simp at h2
  rw [List.getElem?_set_ne na] at h1 h3
  rw [List.getElem?_set_ne nb] at h2 h4
  exact I.ne a b ws us c hab h1 h2 h3 h4
theorem PIv.setO {i:Nat} {a:Addr} {vs:List V} {ws:List W} (I:PIv K H0 G ρ σ H) (ha:H a=some (.lst vs)) (hg:G a=none) (h0:H0 a=none) (r:Reps K G vs ws)
  (nw:∀ (j:Nat) (us:List W),ρ[j]?=some (Sl.own us)->σ[j]?≠some (some (V.ref a))):PIv K H0 G (ρ.set i (.own ws)) (σ.set i (some (.ref a))) H where
 g0:=I.g0
 gl:=I.gl
 gh:=I.gh
 hh:=I.hh
 len:=by rw [List.length_set,List.length_set]; exact I.len
 sl j x o h1 h2:=by
  by_cases hj:i=j
  ·subst hj
   rw [List.getElem?_set] at h1 h2
   simp only [if_true] at h1 h2
   split at h1 <;> split at h2 <;> simp only [Option.some.injEq,reduceCtorEq] at h1 h2
   subst h1; subst h2
   exact ⟨a,vs,rfl,ha,hg,h0,r⟩
  ·rw [List.getElem?_set_ne hj] at h1 h2; exact I.sl j x o h1 h2
 ne p q ws' us c hab h1 h2 h3 h4:=by
  by_cases hp:i=p
  ·subst hp
   rw [List.getElem?_set_ne hab] at h2 h4
   rw [List.getElem?_set] at h3
   simp only [if_true] at h3
   split at h3 <;> simp only [Option.some.injEq,reduceCtorEq,V.ref.injEq] at h3
   subst h3
   exact nw q us h2 h4
  ·rw [List.getElem?_set_ne hp] at h1 h3
   by_cases hq:i=q
   ·subst hq
    rw [List.getElem?_set] at h4
    simp only [if_true] at h4
    split at h4 <;> simp only [Option.some.injEq,reduceCtorEq,V.ref.injEq] at h4
    subst h4
    exact nw p ws' h1 h3
   ·rw [List.getElem?_set_ne hq] at h2 h4
    exact I.ne p q ws' us c hab h1 h2 h3 h4
def M1:W->Sl
 | .lst ws=>.own ws
 | w=>.val w
theorem AX {i:Nat} {m:Rho->R W} (h:tSt K EX d (fun ρ=>m ρ>>=fun w=>.ok (.nx (ρ.set i (.val w)))) D σ H):S9 (tM K EX .V m) (C4 i) D σ H:=by
 obtain ⟨H0,G,ρ,I,o⟩:=h
 exact ⟨H0,G,ρ,I,OutS.bind I o fun x G1 H1 w e1 m1 o1=>o1 G1 _ H1 (Same.refl _) ((I.ext e1).setV m1)⟩
theorem AY {i:Nat} {m:Rho->R W} (h:tSt K EX d (fun ρ=>m ρ>>=fun w=>.ok (.nx (ρ.set i (.par w)))) D σ H):S9 (tM K EX .U m) (C4 i) D σ H:=by
 obtain ⟨H0,G,ρ,I,o⟩:=h
 exact ⟨H0,G,ρ,I,OutS.bind I o fun x G1 H1 w e1 m1 o1=>o1 G1 _ H1 (Same.refl _) ((I.ext e1).setU m1)⟩
theorem nY {i:Nat} {m:Rho->R W} (h:tSt K EX d (fun ρ=>m ρ>>=fun w=>.ok (.nx (ρ.set i (M1 w)))) D σ H):S9 (tM K EX .F m) (C4 i) D σ H:=by
 obtain ⟨H0,G,ρ,I,o⟩:=h
 refine ⟨H0,G,ρ,I,OutS.bind I o fun x G1 H1 w e1 m1 o1=>?_⟩
 have I1:=I.ext e1
 cases w with
 | lst ws=>
  obtain ⟨a,vs,rfl,h1,h2,h3,r⟩:=m1
  refine o1 G1 _ H1 (Same.refl _) (I1.setO h1 h2 (I.hh.free h3) r fun j us q z=>?_)
  obtain ⟨b,us',eb,hb,_⟩:=I.sl j _ _ q z
  cases eb
  rw [h3] at hb; cases hb
 | non=>exact o1 G1 _ H1 (Same.refl _) (I1.setV m1)
 | bl _=>exact o1 G1 _ H1 (Same.refl _) (I1.setV m1)
 | int _=>exact o1 G1 _ H1 (Same.refl _) (I1.setV m1)
 | str _=>exact o1 G1 _ H1 (Same.refl _) (I1.setV m1)
 | ty _=>exact o1 G1 _ H1 (Same.refl _) (I1.setV m1)
 | tup _=>exact o1 G1 _ H1 (Same.refl _) (I1.setV m1)
 | scr _=>exact o1 G1 _ H1 (Same.refl _) (I1.setV m1)
 | exc _ _=>exact o1 G1 _ H1 (Same.refl _) (I1.setV m1)
 | cls _=>exact o1 G1 _ H1 (Same.refl _) (I1.setV m1)
instance:DecidableEq Mode:=fun a b=>by cases a <;> cases b <;> first | exact isTrue rfl | exact isFalse (by intro h; cases h)
def Gt (K:Frag) (e:Mode) (g:TG) (mg:W->Rho->Option Rho):Prop:=∀ (H0 Hs G:Hp) (ρ:Rho) (σ:St) (H:Hp) (v:V) (w:W) (ρ':Rho) (Q:St->Hp->Prop),PIv K H0 G ρ σ H->Md K H0 Hs G H v w e->mg w ρ=some ρ' ->
 (∀ σ',PIv K H0 G ρ' σ' H->Q σ' H)->g v σ H Q
def Gts (K:Frag) (e:Mode) (g:TGs) (mg:List W->Rho->Option Rho):Prop:=∀ (H0 G:Hp) (ρ:Rho) (σ:St) (H:Hp) (vs:List V) (ws:List W) (ρ':Rho) (Q:St->Hp->Prop),PIv K H0 G ρ σ H->Reps K (if e=.V then G else join H0 G) vs ws->mg ws ρ=some ρ' ->
 (∀ σ',PIv K H0 G ρ' σ' H->Q σ' H)->g vs σ H Q
def gN (e:Mode) (i:Nat):W->Rho->Option Rho:=fun w ρ=>some (ρ.set i (if e=.V then .val w else .par w))
theorem qG {i:Nat}:Gt K .V (C4 i) (gN .V i):=fun H0 Hs G ρ σ H v w ρ' Q I m e h=>by
 cases e; exact h _ (I.setV m)
theorem i7 {i:Nat}:Gt K .U (C4 i) (gN .U i):=fun H0 Hs G ρ σ H v w ρ' Q I m e h=>by
 cases e; exact h _ (I.setU m)
def gsNil:List W->Rho->Option Rho
 | [],ρ=>some ρ
 | _,_=>none
def l9 (f:W->Rho->Option Rho) (g:List W->Rho->Option Rho):List W->Rho->Option Rho
 | w::ws,ρ=>(f w ρ).bind (g ws)
 | [],_=>none
theorem F3 {e:Mode}:Gts K e gNil gsNil:=fun H0 G ρ σ H vs ws ρ' Q I r e h=>by
 cases r with
 | nil=>cases e; exact ⟨rfl,h _ I⟩
 | cons _ _=>cases e
theorem j6 {e:Mode} {t:TG} {u:TGs} {f:W->Rho->Option Rho} {g:List W->Rho->Option Rho} (he:e=.V\/e=.U) (h1:Gt K e t f) (h2:Gts K e u g):Gts K e (kJ t u) (l9 f g):=fun H0 G ρ σ H vs ws ρ' Q I r q h=>by
 cases r with
 | nil=>cases q
 | cons a b=>
  unfold l9 at q
  obtain ⟨ρ1,q1,q2⟩:=Option.bind_eq_some_iff.mp q
  refine ⟨_,_,rfl,h1 H0 H G ρ σ H _ _ ρ1 _ I ?_ q1 fun σ1 I1=>h2 H0 G ρ1 σ1 H _ _ ρ' Q I1 b q2 h⟩
  rcases he with rfl | rfl
  ·exact a
  ·exact a
def gT (n:Nat) (g:List W->Rho->Option Rho):W->Rho->Option Rho
 | .tup ws,ρ=>if ws.length=n then g ws ρ else none
 | _,_=>none
theorem K0 {e:Mode} {n:Nat} {u:TGs} {g:List W->Rho->Option Rho} (he:e=.V\/e=.U) (h:Gts K e u g):Gt K e (kI K n u) (gT n g):=fun H0 Hs G ρ σ H v w ρ' Q I m q k=>by
 cases w <;> first | cases q | skip
 rename_i ws
 have q':(if ws.length=n then g ws ρ else none)=some ρ':=q
 by_cases hn:ws.length=n
 ·rw [if_pos hn] at q'
  rcases he with rfl | rfl
  ·obtain ⟨a,vs,e,s,r⟩:=Rep.inv m
   exact ⟨a,vs,e,SqT.of (I.gh _ _ s),by rw [r.length]; exact hn,h H0 G ρ σ H _ ws ρ' Q I (by rw [if_pos rfl]; exact r) q' k⟩
  ·obtain ⟨a,vs,e,s,r⟩:=Rep.inv m
   exact ⟨a,vs,e,SqT.of (I.join_H _ _ s),by rw [r.length]; exact hn,h H0 G ρ σ H _ ws ρ' Q I (by rw [if_neg (by intro z; cases z)]; exact r) q' k⟩
 ·rw [if_neg hn] at q'; cases q'
def toR {α:Type}:Option α->R α
 | some a=>.ok a
 | none=>.stuck
theorem CQ {e:Mode} {g:TG} {mg:W->Rho->Option Rho} {m:Rho->R W} (hg:Gt K e g mg) (h:tSt K EX d (fun ρ=>m ρ>>=fun w=>toR (mg w ρ)>>=fun ρ'=>.ok (.nx ρ')) D σ H):S9 (tM K EX e m) g D σ H:=by
 obtain ⟨H0,G,ρ,I,o⟩:=h
 refine ⟨H0,G,ρ,I,OutS.bind I o fun x G1 H1 w e1 m1 o1=>?_⟩
 cases q:mg w ρ with
 | none=>rw [q] at o1; exact o1.elim
 | some ρ'=>
  rw [q] at o1
  exact hg H0 H G1 ρ σ H1 x w ρ' _ (I.ext e1) m1 q fun σ' I'=>o1 G1 σ' H1 (Same.refl _) I'
theorem PIv.own_upd {i:Nat} {a:Addr} {vs':List V} {ws ws':List W} (I:PIv K H0 G ρ σ H) (e:ρ[i]?=some (.own ws)) (es:σ[i]?=some (some (.ref a))) (r:Reps K G vs' ws'):PIv K H0 G (ρ.set i (.own ws')) σ (upd H a (.lst vs')):=by
 obtain ⟨a',vs,ev,ha,hg,h0,_⟩:=I.sl i _ _ e es
 cases ev
 refine ⟨I.g0,I.gl,fun b o q=>by rw [b9 (c9 q hg)]; exact I.gh b o q,fun b o q=>by rw [b9 (c9 q h0)]; exact I.hh b o q,by rw [List.length_set]; exact I.len,fun j x o h1 h2=>?_,fun p q ws1 us c hab h1 h2 h3 h4=>?_⟩
 ·by_cases hj:i=j
  ·subst hj
   rw [List.getElem?_set] at h1
   simp only [if_true] at h1
   split at h1 <;> simp only [Option.some.injEq,reduceCtorEq] at h1
   subst h1
   rw [es] at h2; cases h2
   exact ⟨a,vs',rfl,g7,hg,h0,r⟩
  ·rw [List.getElem?_set_ne hj] at h1
   have:=I.sl j x o h1 h2
   cases x with
   | own us=>
    obtain ⟨b,us',eb,hb,hgb,h0b,rb⟩:=this
    subst eb
    have hne:b≠a:=by
     rintro rfl
     exact I.ne i j ws us b hj e h1 es h2
    exact ⟨b,us',rfl,by rw [b9 hne]; exact hb,hgb,h0b,rb⟩
   | dic ks=>
    obtain ⟨b,us',eb,hb,hgb,h0b,rb⟩:=this
    have hne:b≠a:=by
     rintro rfl
     rw [ha] at hb; cases hb
    exact ⟨b,us',eb,by rw [b9 hne]; exact hb,hgb,h0b,rb⟩
   | dik ks=>
    obtain ⟨b,us',eb,hb,hgb,h0b,rb⟩:=this
    have hne:b≠a:=by
     rintro rfl
     rw [ha] at hb; cases hb
    exact ⟨b,us',eb,by rw [b9 hne]; exact hb,hgb,h0b,rb⟩
   | un=>exact this
   | val _=>exact this
   | par _=>exact this
   | iop _ _=>exact this
   | hz _=>exact this
 ·have key:∀ {k:Nat} {us:List W},(ρ.set i (.own ws'))[k]?=some (.own us)->∃ us',ρ[k]?=some (.own us'):=fun {k us} hk=>by
   by_cases hik:i=k
   ·subst hik; exact ⟨ws,e⟩
   ·rw [List.getElem?_set_ne hik] at hk; exact ⟨us,hk⟩
  obtain ⟨w1,k1⟩:=key h1
  obtain ⟨w2,k2⟩:=key h2
  exact I.ne p q w1 w2 c hab k1 k2 h3 h4
theorem PIv.own_at {i:Nat} {ws:List W} (I:PIv K H0 G ρ σ H) (e:ρ[i]?=some (.own ws)):∃ a vs,σ[i]?=some (some (.ref a))/\H a=some (.lst vs)/\G a=none/\H0 a=none/\Reps K G vs ws:=by
 have hi:i<σ.length:=by rw [<- I.len]; exact (List.getElem?_eq_some_iff.mp e).1
 have es:σ[i]?=some σ[i]:=by simp
 obtain ⟨a,vs,ev,r⟩:=I.sl i _ _ e es
 exact ⟨a,vs,by rw [es,ev],r⟩
def L3 (i:Nat) (m:Rho->R W):Rho->R Fl:=fun ρ=>match ρ[i]? with
 | some (.own ws)=>m ρ>>=fun w=>if ws.length<1000 then .ok (.nx (ρ.set i (.own (ws ++ [w])))) else .stuck
 | _=>.stuck
theorem CS {i:Nat} {m:Rho->R W} (h:tSt K EX d (L3 i m) D σ H):eP (oQ (W0 i) (tM K EX .V m)) D σ H:=by
 obtain ⟨H0,G,ρ,I,o⟩:=h
 unfold L3 at o
 split at o
 ·rename_i ws e
  obtain ⟨a,vs,es,ha,hg,h0,r⟩:=I.own_at e
  refine ⟨.ref a,es,a,rfl,⟨vs,ha⟩,H0,G,ρ,I,OutS.bind I o fun x G1 H1 w e1 m1 o1=>?_⟩
  by_cases hl:ws.length<1000
  ·rw [if_pos hl] at o1
   have h1:=e1.hh a _ ha
   dsimp only
   rw [h1]
   dsimp only
   have hlen:vs.length=ws.length:=r.length
   exact ⟨Nat.lt_of_lt_of_le (by omega:vs.length<1000) (by decide),o1 G1 σ _ (Same.refl _) ((I.ext e1).own_upd e es ((r.same e1.gg).snoc m1))⟩
  ·rw [if_neg hl] at o1; exact o1.elim
 ·exact o.elim
def mSet (i:Nat) (mk me:Rho->R W):Rho->R Fl:=fun ρ=>match ρ[i]? with
 | some (.own ws)=>me ρ>>=fun w=>mk ρ>>=fun k=>(match k with
  | .int k=>(match ixN ws.length k with
   | some j=>.ok (.nx (ρ.set i (.own (ws.set j w))))
   | none=>.stuck)
  | _=>.stuck)
 | _=>.stuck
def gL (i:Nat) (f:Int->Int->Int) (m:Rho->R W):Rho->R Fl:=fun ρ=>a9 .B i ρ>>=fun x=>m ρ>>=fun y=>match x,y with
 | .int a,.int b=>.ok (.nx (ρ.set i (.val (.int (f a b)))))
 | _,_=>.stuck
theorem CP {i:Nat} {f:Int->Int->Int} {m:Rho->R W} (h:tSt K EX d (gL i f m) D σ H):wQ i (tM K EX .B m) (ipI f) D σ H:=by
 obtain ⟨H0,G,ρ,I,o⟩:=h
 unfold gL at o
 have c:tM K EX .B (a9 .B i) σ H (fun x H1=>∃ G1 w,Ext G H G1 H1/\Md K H0 H G1 H1 x w .B/\OutS K EX d H0 G1 (m ρ>>=fun y=>match w,y with
   | .int a,.int b=>.ok (.nx (ρ.set i (.val (.int (f a b)))))
   | _,_=>.stuck) D):=⟨H0,G,ρ,I,OutS.bind I o fun x G1 H1 w e1 m1 o1=>⟨G1,w,e1,m1,o1⟩⟩
 obtain ⟨v,es,G1,w,e1,m1,o1⟩:=kQ c
 have I1:=I.ext e1
 refine ⟨v,es,H0,G1,ρ,I1,OutS.bind I1 o1 fun y G2 H2 u e2 m2 o2=>?_⟩
 cases w <;> first | exact o2.elim | skip
 cases u <;> first | exact o2.elim | skip
 rename_i a b
 exact ⟨a,b,m1.intB,m2.intB,o2 G2 _ H2 (Same.refl _) ((I1.ext e2).setV .int)⟩
def mIf (c:Rho->R Bool) (m n:Rho->R Fl):Rho->R Fl:=fun ρ=>c ρ>>=fun b=>if b then m ρ else n ρ
theorem CJ {c:Rho->R Bool} {m n:Rho->R Fl} (h:tSt K EX d (mIf c m n) D σ H):wO (tT K EX c) (tSt K EX d m) (tSt K EX d n) D σ H:=by
 obtain ⟨H0,G,ρ,I,o⟩:=h
 refine ⟨H0,G,ρ,I,OutS.bind I o fun x G1 H1 w e1 m1 o1=>?_⟩
 cases m1
 cases x with
 | true=>exact ⟨H0,G1,ρ,I.ext e1,o1⟩
 | false=>exact ⟨H0,G1,ρ,I.ext e1,o1⟩
def frz (i:Nat) (ρ:Rho):Rho:=match ρ[i]? with
 | some (.own ws)=>ρ.set i (.val (.lst ws))
 | _=>ρ
theorem PIv.frz {i:Nat} (I:PIv K H0 G ρ σ H):∃ G',Same G G'/\PIv K H0 G' (frz i ρ) σ H:=by
 unfold TP.frz
 split
 ·rename_i ws e
  obtain ⟨a,vs,es,ha,hg,h0,r⟩:=I.own_at e
  have s1:Same G (upd G a (.lst vs)):=fun b o q=>by rw [b9 (c9 q hg)]; exact q
  refine ⟨upd G a (.lst vs),s1,?_⟩
  have I1:PIv K H0 G (ρ.set i .un) σ H:=by
   refine ⟨I.g0,I.gl,I.gh,I.hh,by rw [List.length_set]; exact I.len,fun j x o h1 h2=>?_,fun p q ws1 us c hab h1 h2 h3 h4=>?_⟩
   ·by_cases hj:i=j
    ·subst hj
     rw [List.getElem?_set] at h1
     simp only [if_true] at h1
     split at h1 <;> simp only [Option.some.injEq,reduceCtorEq] at h1
     subst h1; trivial
    ·rw [List.getElem?_set_ne hj] at h1; exact I.sl j x o h1 h2
   ·have na:i≠p:=by
     rintro rfl
     rw [List.getElem?_set] at h1
     simp only [if_true] at h1
     split at h1 <;> simp at h1
    have nb:i≠q:=by
     rintro rfl
     rw [List.getElem?_set] at h2
     simp only [if_true] at h2
     split at h2 <;> simp at h2
    rw [List.getElem?_set_ne na] at h1
    rw [List.getElem?_set_ne nb] at h2
    exact I.ne p q ws1 us c hab h1 h2 h3 h4
  have I2:PIv K H0 (upd G a (.lst vs)) (ρ.set i .un) σ H:=by
   refine ⟨fun b o q l=>s1 b o (I.g0 b o q l),fun b o q l=>by rw [b9 (c9 q h0)]; exact I.gl b o q l,fun b o q=>?_,I.hh,I1.len,fun j x o h1 h2=>?_,I1.ne⟩
   ·by_cases hb:b=a
    ·subst hb; rw [g7] at q; cases q; exact ha
    ·rw [b9 hb] at q; exact I.gh b o q
   ·have:=I1.sl j x o h1 h2
    cases x with
    | un=>trivial
    | val w=>obtain ⟨v,e1,r1⟩:=this; exact ⟨v,e1,r1.same s1⟩
    | par w=>obtain ⟨v,e1,r1⟩:=this; exact ⟨v,e1,r1.same (o8 s1)⟩
    | own us=>
     obtain ⟨b,us',eb,hb,hgb,h0b,rb⟩:=this
     subst eb
     have hij:i≠j:=by
      rintro rfl
      rw [List.getElem?_set] at h1
      simp only [if_true] at h1
      split at h1 <;> simp at h1
     rw [List.getElem?_set_ne hij] at h1
     have hne:b≠a:=by
      rintro rfl
      exact I.ne i j ws us b hij e h1 es h2
     exact ⟨b,us',rfl,hb,by rw [b9 hne]; exact hgb,h0b,rb.same s1⟩
    | dic ks=>
     obtain ⟨b,us',eb,hb,hgb,h0b,rb⟩:=this
     have hne:b≠a:=by
      rintro rfl
      rw [ha] at hb; cases hb
     exact ⟨b,us',eb,hb,by rw [b9 hne]; exact hgb,h0b,rb⟩
    | dik ks=>
     obtain ⟨b,us',eb,hb,hgb,h0b,rb⟩:=this
     have hne:b≠a:=by
      rintro rfl
      rw [ha] at hb; cases hb
     exact ⟨b,us',eb,hb,by rw [b9 hne]; exact hgb,h0b,rb⟩
    | iop p us=>obtain ⟨e1,vs1,h1',r1⟩:=this; exact ⟨e1,vs1,h1',r1.same s1⟩
    | hz w=>obtain ⟨v,e,r⟩:=this; exact ⟨v,e,r.same (o8 (S1 s1))⟩
  have I3:=I2.setV (i:=i) (v:=.ref a) (w:=.lst ws) (.lst g7 (r.same s1))
  have e3:σ.set i (some (V.ref a))=σ:=by
   apply List.ext_getElem?
   intro j
   by_cases hj:i=j
   ·subst hj; rw [es,List.getElem?_set]; simp only [if_true]; rw [if_pos (List.getElem?_eq_some_iff.mp es).1]
   ·rw [List.getElem?_set_ne hj]
  rw [e3,List.set_set] at I3
  exact I3
 ·exact ⟨G,Same.refl G,I⟩
theorem CL {i:Nat} {m:Rho->R Fl} (h:tSt K EX d (fun ρ=>m (frz i ρ)) D σ H):tSt K EX d m D σ H:=by
 obtain ⟨H0,G,ρ,I,o⟩:=h
 obtain ⟨G',s,I'⟩:=I.frz (i:=i)
 exact ⟨H0,G',_,I',OutS.move s o⟩
end
end TP
namespace TP
open PySem L2
section
variable {K:Frag} {EX:EXT} {H0 G H G1 H1 G2 H2:Hp} {ρ:Rho} {σ:St} {d:Mode} {D:Ends}
structure ax (K:Frag) (e:Mode) (H0 Z G:Hp) (J:It) (ws:List W):Prop where
 go:∀ i H,i<ws.length->Same Z H->J.go i H
 stop:∀ H,Same Z H->J.stop ws.length H
 yld:∀ i H x H' w,ws[i]?=some w->Same Z H->J.yld i H x H'->∀ G2 ρ σ,PIv K H0 G2 ρ σ H->Same G G2->∃ G3,Ext G2 H G3 H'/\Md K H0 H G3 H' x w e
def ir (K:Frag) (EX:EXT) (lp:Bool) (e:Mode) (H0 G H:Hp) (r:R (List W)) (Rr:It->Hp->Prop):Prop:=match r with
 | .ok ws=>∀ J G' H',Ext G H G' H'->ax K e H0 (if lp then join H0 G' else H') G' J ws->Rr J H'
 | .ex x=>∀ H',Same H H'->EX x H'
 | .stuck=>False
def tIt (K:Frag) (EX:EXT) (lp:Bool) (e:Mode) (m:Rho->R (List W)):TI:=fun σ H Rr=>∃ H0 G ρ,PIv K H0 G ρ σ H/\ir K EX lp e H0 G H (m ρ) Rr
def z9 (mg:W->Rho->Option Rho) (mb:Rho->R Fl):List W->Rho->R Fl
 | [],ρ=>.ok (.nx ρ)
 | w::ws,ρ=>toR (mg w ρ)>>=fun ρ1=>mb ρ1>>=fun f=>match f with
  | .nx ρ2=>z9 mg mb ws ρ2
  | .ct ρ2=>z9 mg mb ws ρ2
  | .bk ρ2=>.ok (.nx ρ2)
  | .rt w=>.ok (.rt w)
theorem CM {e:Mode} {g:TG} {mg:W->Rho->Option Rho} {mi:Rho->R (List W)} {mb:Rho->R Fl} (hg:Gt K e g mg) (h:tSt K EX d (fun ρ=>mi ρ>>=fun ws=>z9 mg mb ws ρ) D σ H) :
  oP (tIt K EX true e mi) g (tSt K EX d mb) D σ H:=by
 obtain ⟨H0,G,ρ,I,o⟩:=h
 refine ⟨H0,G,ρ,I,?_⟩
 replace o:OutS K EX d H0 G (mi ρ>>=fun ws=>z9 mg mb ws ρ) D:=o
 revert o
 cases mi ρ with
 | stuck=>exact id
 | ex x=>exact fun o H' s=>o H' (I.hh.trans s)
 | ok ws=>
  intro o J G1 H1 e1 T
  have o1:OutS K EX d H0 G1 (z9 mg mb ws ρ) D:=OutS.move e1.gg o
  refine ⟨fun i m σ H=>m=ws.length-i/\i<=ws.length/\∃ G2 ρ2,Same G1 G2/\PIv K H0 G2 ρ2 σ H/\OutS K EX d H0 G2 (z9 mg mb (ws.drop i) ρ2) D,⟨_,rfl,Nat.zero_le _,G1,ρ,Same.refl _,I.ext e1,o1⟩,?_⟩
  rintro i m σ2 Hh ⟨rfl,hi,G2,ρ2,s2,I2,o2⟩
  have hz:Same (join H0 G1) Hh:=(o8 s2).trans I2.join_H
  by_cases hlt:i<ws.length
  ·refine .inr ⟨T.go i Hh hlt hz,fun σ' H'=>∃ G4 ρ4,Same G1 G4/\PIv K H0 G4 ρ4 σ' H'/\OutS K EX d H0 G4 (z9 mg mb (ws.drop (i+1)) ρ4) D,fun σ' H' zz73=>by obtain ⟨G4,ρ4,s4,I4,o4⟩:=zz73; exact ⟨ws.length-(i+1),by omega,rfl,hlt,G4,ρ4,s4,I4,o4⟩,fun x H' y=>?_⟩
   obtain ⟨G3,e3,m3⟩:=T.yld i Hh x H' ws[i] (by simp) hz y G2 ρ2 σ2 I2 s2
   rw [List.drop_eq_getElem_cons hlt] at o2
   unfold z9 at o2
   cases q:mg ws[i] ρ2 with
   | none=>rw [q] at o2; exact o2.elim
   | some ρ'=>
    rw [q] at o2
    refine hg H0 Hh G3 ρ2 σ2 H' x _ ρ' _ (I2.ext e3) m3 q fun σ' I'=>⟨H0,G3,ρ',I',?_⟩
    have o3:OutS K EX d H0 G3 (mb ρ'>>=fun f=>match f with
     | .nx ρ2=>z9 mg mb (ws.drop (i+1)) ρ2
     | .ct ρ2=>z9 mg mb (ws.drop (i+1)) ρ2
     | .bk ρ2=>.ok (.nx ρ2)
     | .rt w=>.ok (.rt w)) D:=OutS.move e3.gg o2
    revert o3
    have s3:Same G1 G3:=s2.trans e3.gg
    cases mb ρ' with
    | stuck=>exact id
    | ex x=>exact id
    | ok f=>
     cases f with
     | nx ρ4=>exact fun o4 G4 σ4 H4 s4 I4=>⟨G4,ρ4,s3.trans s4,I4,OutS.move s4 o4⟩
     | ct ρ4=>exact fun o4 G4 σ4 H4 s4 I4=>⟨G4,ρ4,s3.trans s4,I4,OutS.move s4 o4⟩
     | bk ρ4=>exact id
     | rt w=>exact id
  ·have e:i=ws.length:=by omega
   subst e
   refine .inl ⟨T.stop Hh hz,?_⟩
   rw [List.drop_length] at o2
   exact o2 G2 σ2 Hh (Same.refl _) I2
def D5 (c:Rho->R Bool) (b:Rho->R Fl):Nat->Rho->Option (R Fl)
 | 0,_=>none
 | n+1,ρ=>match c ρ with
  | .ok false=>some (.ok (.nx ρ))
  | .ok true=>(match b ρ with
   | .ok (.nx ρ')=>D5 c b n ρ'
   | .ok (.ct ρ')=>D5 c b n ρ'
   | .ok (.bk ρ')=>some (.ok (.nx ρ'))
   | .ok (.rt w)=>some (.ok (.rt w))
   | .ex e=>some (.ex e)
   | .stuck=>some .stuck)
  | .ex e=>some (.ex e)
  | .stuck=>some .stuck
theorem X2 {c:Rho->R Bool} {b:Rho->R Fl}:∀ (n:Nat) (ρ:Rho) (r:R Fl),D5 c b n ρ=some r->∀ m,n<=m->D5 c b m ρ=some r:=by
 intro n
 induction n with
 | zero=>intro ρ r h; cases h
 | succ n ih=>
  intro ρ r h m hm
  obtain ⟨k,rfl⟩:∃ k,m=k+1:=⟨m-1,by omega⟩
  have hk:=Nat.le_of_succ_le_succ hm
  unfold D5 at h ⊢
  revert h
  cases c ρ with
  | ex e=>exact id
  | stuck=>exact id
  | ok t=>
   cases t with
   | false=>exact id
   | true=>
    cases b ρ with
    | ex e=>exact id
    | stuck=>exact id
    | ok f=>
     cases f with
     | nx ρ'=>exact fun h=>ih ρ' r h k hk
     | ct ρ'=>exact fun h=>ih ρ' r h k hk
     | bk ρ'=>exact id
     | rt w=>exact id
open Classical in
def F7 (c:Rho->R Bool) (b:Rho->R Fl):Rho->R Fl:=fun ρ=>if h:∃ r n,D5 c b n ρ=some r then h.choose else .stuck
theorem dS {c:Rho->R Bool} {b:Rho->R Fl} {n:Nat} {r:R Fl} (h:D5 c b n ρ=some r):F7 c b ρ=r:=by
 unfold F7
 have hx:∃ r n,D5 c b n ρ=some r:=⟨r,n,h⟩
 rw [dif_pos hx]
 obtain ⟨m,hm⟩:=hx.choose_spec
 have a:=X2 n ρ r h (max n m) (Nat.le_max_left _ _)
 have b:=X2 m ρ _ hm (max n m) (Nat.le_max_right _ _)
 rw [a] at b
 exact (Option.some.inj b).symm
theorem vZ {c:Rho->R Bool} {b:Rho->R Fl} (h:tSt K EX d (F7 c b) D σ H):lE (tT K EX c) (tSt K EX d b) D σ H:=by
 obtain ⟨H0,G,ρ,I,o⟩:=h
 by_cases hx:∃ r n,D5 c b n ρ=some r
 ·obtain ⟨r,n,hn⟩:=hx
  rw [dS hn] at o
  refine ⟨fun m σ2 Hh=>∃ G2 ρ2,Same G G2/\PIv K H0 G2 ρ2 σ2 Hh/\D5 c b m ρ2=some r,⟨n,G,ρ,Same.refl _,I,hn⟩,?_⟩
  rintro m σ2 Hh ⟨G2,ρ2,s2,I2,h2⟩
  have o2:OutS K EX d H0 G2 r D:=OutS.move s2 o
  refine ⟨H0,G2,ρ2,I2,?_⟩
  cases m with
  | zero=>cases h2
  | succ m=>
   unfold D5 at h2
   revert h2
   cases c ρ2 with
   | stuck=>intro h2; cases h2; exact o2
   | ex x=>intro h2; cases h2; exact fun H' s=>o2 H' (I2.hh.trans s)
   | ok t=>
    cases t with
    | false=>
     intro h2; cases h2
     intro v G3 H3 e3 q
     cases q
     rw [if_neg Bool.false_ne_true]
     exact o2 G3 σ2 H3 e3.gg (I2.ext e3)
    | true=>
     intro h2 v G3 H3 e3 q
     cases q
     rw [if_pos rfl]
     refine ⟨fun σ' H'=>∃ G4 ρ4,Same G G4/\PIv K H0 G4 ρ4 σ' H'/\D5 c b m ρ4=some r,fun σ' H' zz74=>by obtain ⟨G4,ρ4,s4,I4,h4⟩:=zz74; exact ⟨m,Nat.lt_succ_self m,G4,ρ4,s4,I4,h4⟩,H0,G3,ρ2,I2.ext e3,?_⟩
     have o3:OutS K EX d H0 G3 r D:=OutS.move e3.gg o2
     have s3:Same G G3:=s2.trans e3.gg
     revert h2
     cases b ρ2 with
     | stuck=>intro h2; cases h2; exact o3
     | ex x=>intro h2; cases h2; exact o3
     | ok f=>
      cases f with
      | nx ρ4=>exact fun h2 G4 σ4 H4 s4 I4=>⟨G4,ρ4,s3.trans s4,I4,h2⟩
      | ct ρ4=>exact fun h2 G4 σ4 H4 s4 I4=>⟨G4,ρ4,s3.trans s4,I4,h2⟩
      | bk ρ4=>intro h2; cases h2; exact o3
      | rt w=>intro h2; cases h2; exact o3
 ·unfold F7 at o
  rw [dif_neg hx] at o
  exact o.elim
theorem Md.whole {v:V} {w:W} {Hs:Hp} (I:PIv K H0 G ρ σ H) (h:Md K H0 Hs G H v w .B):Rep K H v w:=by
 rcases h with h | ⟨a,vs,ws,rfl,rfl,h1,r⟩
 ·exact h.same I.join_H
 ·exact .lst h1 (r.same I.gh)
theorem MdA.whole {Hs:Hp} (I:PIv K H0 G ρ σ H) {ws:List W} {vs:List V} (h:MdA K .B H0 Hs G H ws vs):Reps K H vs ws:=
 @MdA.rec K .B H0 Hs G H (fun ws vs _=>Reps K H vs ws) .nil (fun h _ b=>.cons (h.whole I) b) ws vs h
def XE (_:XK):EXT:=fun _ _=>False
def spM (K:Frag) (n:Nat) (d:Mode) (f:List W->R W):Sp:=fun vs H Q E=>vs.length=n/\∃ ws,Reps K H vs ws/\match f ws with
 | .ok w=>∀ v G' H',Same H H'->Same G' H'->(∀ a o,H a=some o->isL o=true->G' a=none)->Md K H H G' H' v w d->Q v H'
 | .ex e=>∀ H',Same H H'->XE E e H'
 | .stuck=>False
def f7 (n N:Nat) (m:Rho->R Fl) (ws:List W):R W:=if ws.length=n then (m (ws.map Sl.par++List.replicate (N-n) Sl.un)>>=fun f=>match f with
 | .rt w=>.ok w
 | .nx _=>.ok .non
 | _=>.stuck) else .stuck
theorem fH {n N:Nat} {m:Rho->R Fl} (ws:List W) (h:f7 n N m ws≠.stuck):ws.length=n:=by
 unfold f7 at h
 by_cases e:ws.length=n
 ·exact e
 ·rw [if_neg e] at h; exact absurd rfl h
def both (G G':Hp):Hp:=fun b=>match G b with
 | some o=>some o
 | none=>G' b
theorem Bl {n:Nat} {f:List W->R W} {E:XK} {ma:Rho->R (List W)} {Q:VK} (hd:d=.F\/d=.V) (hf:∀ ws,f ws≠.stuck->ws.length=n) (hE:∀ e H,EX e H->XE E e H) (h:tM K EX d (fun ρ=>ma ρ>>=fun ws=>f ws) σ H Q) :
  eQ (spM K n d f) [] E (tA K EX .B ma) σ H Q:=by
 obtain ⟨H0,G,ρ,I,o⟩:=h
 refine ⟨H0,G,ρ,I,Out.bind o fun xs G1 H1 ws e1 m1 o1=>?_⟩
 have I1:=I.ext e1
 have r:=MdA.whole I1 m1
 rw [List.append_nil]
 refine ⟨?_,ws,r,?_⟩
 ·rw [r.length]
  refine hf ws fun z=>?_
  rw [z] at o1; exact o1
 ·revert o1
  cases f ws with
  | stuck=>exact id
  | ex e=>exact fun o1 H' s=>hE e H' (o1 H' s)
  | ok w=>
   intro o1 v G' H' sH gH cl md
   have sB:Same G1 (both G1 G'):=fun b o q=>by unfold both; rw [q]
   have sB':Same G' (both G1 G'):=fun b o q=>by
    unfold both
    cases q1:G1 b with
    | none=>exact q
    | some u=>
     have a1:=sH b u (I1.gh b u q1)
     rw [gH b o q] at a1
     exact a1.symm
   have sHB:Same (both G1 G') H':=fun b o q=>by
    unfold both at q
    cases q1:G1 b with
    | none=>rw [q1] at q; exact gH b o q
    | some u=>rw [q1] at q; cases q; exact sH b _ (I1.gh b _ q1)
   have ex:Ext G1 H1 (both G1 G') H':=⟨sB,sH,sHB,fun b o q l g=>by unfold both; rw [g]; exact cl b o q l⟩
   refine o1 v (both G1 G') H' ex ?_
   rcases hd with rfl | rfl
   ·cases w with
    | lst us=>
     obtain ⟨a,vs,rfl,h1,h2,h3,r3⟩:=md
     exact ⟨a,vs,rfl,h1,by unfold both; rw [I1.gh.free h3]; exact h2,e1.hh.free h3,r3.same sB'⟩
    | non=>exact Rep.same sB' md
    | bl _=>exact Rep.same sB' md
    | int _=>exact Rep.same sB' md
    | str _=>exact Rep.same sB' md
    | ty _=>exact Rep.same sB' md
    | tup _=>exact Rep.same sB' md
    | scr _=>exact Rep.same sB' md
    | exc _ _=>exact Rep.same sB' md
    | cls _=>exact Rep.same sB' md
   ·exact Rep.same sB' md
def v4 (H:Hp):Hp:=fun a=>match H a with
 | some o=>if isL o then none else some o
 | none=>none
theorem dU:join H (v4 H)=H:=by
 funext a
 unfold join v4
 cases q:H a with
 | none=>rfl
 | some o=>
  dsimp only
  cases isL o <;> rfl
theorem Reps.slots {vs:List V} {ws:List W} {i:Nat} {x:Sl} {o:Option V} {k k':Nat} (r:Reps K H vs ws):(ws.map Sl.par++List.replicate k Sl.un)[i]?=some x->(vs.map some++List.replicate k' none)[i]?=some o->x=.un\/∃ v w,x=.par w/\o=some v/\Rep K H v w:=
 Reps.ind (P:=fun vs ws=>∀ i,(ws.map Sl.par++List.replicate k Sl.un)[i]?=some x->(vs.map some++List.replicate k' none)[i]?=some o->x=.un\/∃ v w,x=.par w/\o=some v/\Rep K H v w) (fun i h1 h2=>by
  have h1:(List.replicate k Sl.un)[i]?=some x:=h1
  rw [List.getElem?_replicate] at h1
  by_cases hk:i<k
  ·rw [if_pos hk] at h1; exact .inl (Option.some.inj h1).symm
  ·rw [if_neg hk] at h1; cases h1) (fun r _ b i h1 h2=>by
  cases i with
  | zero=>exact .inr ⟨_,_,(Option.some.inj h1).symm,(Option.some.inj h2).symm,r⟩
  | succ i=>exact b i h1 h2) r i
theorem PIv.begin {vs:List V} {ws:List W} {k k':Nat} (r:Reps K H vs ws) (hk:k=k'):PIv K H (v4 H) (ws.map Sl.par++List.replicate k Sl.un) (vs.map some++List.replicate k' none) H where
 g0 a o e l:=by unfold v4; rw [e]; dsimp only; rw [l]; rfl
 gl a o e l:=by unfold v4; rw [e]; dsimp only; rw [l]; rfl
 gh a o e:=by
  unfold v4 at e
  cases q:H a with
  | none=>rw [q] at e; cases e
  | some u=>
   rw [q] at e
   dsimp only at e
   cases hl:isL u
   ·rw [hl] at e; exact e
   ·rw [hl] at e; cases e
 hh:=Same.refl H
 len:=by subst hk; simp [r.length]
 sl i x o h1 h2:=by
  rcases Reps.slots r h1 h2 with rfl | ⟨v,w,rfl,rfl,q⟩
  ·trivial
  ·exact ⟨v,rfl,by rw [dU]; exact q⟩
 ne i j us xs a hij h1 _ _ _:=by
  have:∀ (i:Nat) (us:List W),(ws.map Sl.par++List.replicate k Sl.un)[i]?≠some (Sl.own us):=fun i us q=>by
   rw [List.getElem?_append] at q
   split at q
   ·rw [List.getElem?_map] at q
    cases hh:ws[i]? <;> rw [hh] at q <;> cases q
   ·rw [List.getElem?_replicate] at q
    split at q <;> cases q
  exact absurd h1 (this i us)
theorem Bm {n:Nat} {Nl:List Str} {m:Rho->R Fl} {vs:List V} {Q:VK} {E:XK} (hd:d=.F\/d=.V) (h:spM K n d (f7 n Nl.length m) vs H Q E):tSt K (fun _ _=>False) d m { nx:=fun _ H'=>Q .non H',rt:=Q } (L2.start Nl vs) H:=by
 obtain ⟨hl,ws,r,o⟩:=h
 have hw:ws.length=n:=by rw [<- r.length]; exact hl
 unfold f7 at o
 rw [if_pos hw] at o
 refine ⟨H,v4 H,_,PIv.begin (k:=Nl.length-n) r (by rw [hl]),?_⟩
 revert o
 cases m (ws.map Sl.par++List.replicate (Nl.length-n) Sl.un) with
 | stuck=>exact id
 | ex e=>exact fun o=>(o H (Same.refl H)).elim
 | ok f=>
  cases f with
  | nx ρ'=>exact fun o G' σ' H' s' I'=>o .non G' H' I'.hh I'.gh I'.gl (Md.sca rfl (fun _=>.non) d)
  | rt w=>exact fun o v G' H' _ s1 s2 c md=>o v G' H' s2 s1 c md
  | bk _=>exact fun o=>o.elim
  | ct _=>exact fun o=>o.elim
end
end TP
namespace TP
open PySem L2
section
variable {K:Frag} {EX:EXT} {H0 G H G1 H1 G2 H2:Hp} {ρ:Rho} {σ:St} {d:Mode} {D:Ends}
def elR (mg:W->Rho->Option Rho) (mc:Rho->R Bool) (me:Rho->R W) (ρ:Rho) (w:W):R (Option W):=match mg w ρ with
 | none=>.stuck
 | some ρ1=>(match mc ρ1 with
  | .ok true=>(match me ρ1 with
   | .ok y=>.ok (some y)
   | _=>.stuck)
  | .ok false=>.ok none
  | _=>.stuck)
def mapR (f:W->R (Option W)):List W->R (List W)
 | []=>.ok []
 | w::ws=>match f w,mapR f ws with
  | .ok (some y),.ok ys=>.ok (y::ys)
  | .ok none,.ok ys=>.ok ys
  | _,_=>.stuck
def k7 (N':Nat) (mg:W->Rho->Option Rho) (mc:Rho->R Bool) (me:Rho->R W) (ws:List W) (ρ:Rho):R W:=
 if ws.length<=1000 then (match mapR (elR mg mc me (ρ++List.replicate (N'-ρ.length) Sl.un)) ws with
  | .ok ys=>.ok (.lst ys)
  | _=>.stuck) else .stuck
theorem uX {f:W->R (Option W)}:∀ {ws ys:List W},mapR f ws=.ok ys->(∀ w∈ws,∃ o,f w=.ok o)/\ys=ws.filterMap fun w=>match f w with
  | .ok o=>o
  | _=>none:=by
 intro ws
 induction ws with
 | nil=>intro ys h; cases h; exact ⟨by simp,rfl⟩
 | cons w ws ih=>
  intro ys h
  unfold mapR at h
  cases hf:f w with
  | stuck=>rw [hf] at h; cases h
  | ex e=>rw [hf] at h; cases h
  | ok o=>
   rw [hf] at h
   cases hm:mapR f ws with
   | stuck=>rw [hm] at h; cases o <;> cases h
   | ex e=>rw [hm] at h; cases o <;> cases h
   | ok zs=>
    rw [hm] at h
    obtain ⟨h1,h2⟩:=ih hm
    refine ⟨fun u hu=>?_,?_⟩
    ·rcases List.mem_cons.mp hu with rfl | hu
     ·exact ⟨o,hf⟩
     ·exact h1 u hu
    ·cases o with
     | none=>cases h; rw [List.filterMap_cons,hf]; exact h2
     | some y=>cases h; rw [List.filterMap_cons,hf,h2]
theorem PIv.inner {N':List Str} (I:PIv K H0 G ρ σ H):PIv K H0 G (ρ++List.replicate (N'.length-ρ.length) Sl.un) (inner N' σ) H:=by
 have hl:=I.len
 unfold L2.inner
 rw [hl]
 refine ⟨I.g0,I.gl,I.gh,I.hh,by simp [hl],fun i x o h1 h2=>?_,fun p q ws us c hab h1 h2 h3 h4=>?_⟩
 ·by_cases hi:i<ρ.length
  ·rw [List.getElem?_append_left hi] at h1
   rw [List.getElem?_append_left (by omega)] at h2
   exact I.sl i x o h1 h2
  ·rw [List.getElem?_append_right (by omega),List.getElem?_replicate] at h1
   split at h1 <;> simp only [Option.some.injEq,reduceCtorEq] at h1
   subst h1; trivial
 ·have key:∀ {k:Nat} {us:List W},(ρ++List.replicate (N'.length-σ.length) Sl.un)[k]?=some (Sl.own us)->k<ρ.length/\ρ[k]?=some (Sl.own us):=fun {k us} hk=>by
   by_cases hi:k<ρ.length
   ·rw [List.getElem?_append_left hi] at hk; exact ⟨hi,hk⟩
   ·rw [List.getElem?_append_right (by omega),List.getElem?_replicate] at hk
    split at hk <;> simp at hk
  obtain ⟨l1,k1⟩:=key h1
  obtain ⟨l2,k2⟩:=key h2
  rw [List.getElem?_append_left (by omega)] at h3 h4
  exact I.ne p q ws us c hab k1 k2 h3 h4
open Classical in
def rest (G H:Hp) (Dd:Addr) (H':Hp):Hp:=fun b=>if b=Dd\/∃ o,H b=some o/\isL o=true/\G b=none then none else H' b
theorem z6 {Dd b:Addr} {H':Hp} (h:b=Dd\/∃ o,H b=some o/\isL o=true/\G b=none):rest G H Dd H' b=none:=by unfold rest; rw [if_pos h]
theorem R9 {Dd b:Addr} {H':Hp} (h:¬ (b=Dd\/∃ o,H b=some o/\isL o=true/\G b=none)):rest G H Dd H' b=H' b:=by unfold rest; rw [if_neg h]
theorem iR {Dd b:Addr} {H':Hp} {o:HO} (h:rest G H Dd H' b=some o):H' b=some o/\¬ (b=Dd\/∃ o,H b=some o/\isL o=true/\G b=none):=by
 by_cases c:b=Dd\/∃ o,H b=some o/\isL o=true/\G b=none
 ·rw [z6 c] at h; cases h
 ·rw [R9 c] at h; exact ⟨h,c⟩
theorem PIv.rest {Dd:Addr} {H':Hp} (I:PIv K H0 G ρ σ H) (hD:H Dd=none) (s:Same H H'):Same G (rest G H Dd H')/\PIv K H0 (rest G H Dd H') ρ σ H':=by
 have sG:Same G (TP.rest G H Dd H'):=fun b o q=>by
  rw [R9]
  ·exact s b o (I.gh b o q)
  ·rintro (rfl | ⟨u,h1,h2,h3⟩)
   ·rw [I.gh _ _ q] at hD; cases hD
   ·rw [q] at h3; cases h3
 refine ⟨sG,fun a o e l=>sG a o (I.g0 a o e l),fun a o e l=>z6 (.inr ⟨o,I.hh a o e,l,I.gl a o e l⟩),fun b o q=>(iR q).1,I.hh.trans s,I.len,fun i x o h1 h2=>?_,I.ne⟩
 have:=I.sl i x o h1 h2
 cases x with
 | un=>trivial
 | val w=>obtain ⟨v,e,r⟩:=this; exact ⟨v,e,r.same sG⟩
 | par w=>obtain ⟨v,e,r⟩:=this; exact ⟨v,e,r.same (o8 sG)⟩
 | own ws=>
  obtain ⟨a,vs,e,h,g,h0,r⟩:=this
  exact ⟨a,vs,e,s a _ h,z6 (.inr ⟨_,h,rfl,g⟩),h0,r.same sG⟩
 | dic ks=>
  obtain ⟨a,vs,e,h,g,h0,r⟩:=this
  exact ⟨a,vs,e,s a _ h,z6 (.inr ⟨_,h,rfl,g⟩),h0,r⟩
 | dik ks=>
  obtain ⟨a,vs,e,h,g,h0,r⟩:=this
  exact ⟨a,vs,e,s a _ h,z6 (.inr ⟨_,h,rfl,g⟩),h0,r⟩
 | iop p ws=>obtain ⟨e1,vs1,h1',r1⟩:=this; exact ⟨e1,vs1,h1',r1.same sG⟩
 | hz w=>obtain ⟨v,e,r⟩:=this; exact ⟨v,e,r.same (o8 (S1 sG))⟩
theorem Z7 {Dd:Addr} {Ha Hb:Hp} (s:∀ b o,b≠Dd->Ha b=some o->Hb b=some o):Same (rest G H Dd Ha) (rest G H Dd Hb):=fun b o q=>by
 obtain ⟨h,c⟩:=iR q
 rw [R9 c]
 exact s b o (fun z=>c (.inl z)) h
theorem pz {Dd:Addr} {Ha Hb G':Hp} (hl:∃ ys,Ha Dd=some (.lst ys)) (s:Same H Ha) (e:Ext (rest G H Dd Ha) Ha G' Hb):Same G' (rest G H Dd Hb):=fun b o q=>by
 rw [R9]
 ·exact e.gh b o q
 ·rintro (rfl | ⟨u,h1,h2,h3⟩)
  ·obtain ⟨ys,hl⟩:=hl
   rw [e.keep _ _ hl rfl (z6 (.inl rfl))] at q; cases q
  ·rw [e.keep _ _ (s _ _ h1) h2 (z6 (.inr ⟨u,h1,h2,h3⟩))] at q; cases q
theorem oa {Q:VK} {e:Mode} {N':List Str} {g:TG} {mg:W->Rho->Option Rho} {mi:Rho->R (List W)} {mc:Rho->R Bool} {me:Rho->R W} (hg:Gt K e g mg) (h:tM K EX .F (fun ρ=>mi ρ>>=fun ws=>k7 N'.length mg mc me ws ρ) σ H Q) :
  jQ N' (tIt K EX false e mi) g (tT K EX mc) (tM K EX .V me) σ H Q:=by
 obtain ⟨H0,G,ρ,I,o⟩:=h
 refine ⟨H0,G,ρ,I,?_⟩
 replace o:Out EX G H (mdW K .F H0 H) (mi ρ>>=fun ws=>k7 N'.length mg mc me ws ρ) Q:=o
 revert o
 cases mi ρ with
 | stuck=>exact id
 | ex x=>exact id
 | ok ws=>
  intro o J G1 H1 e1 T Dd hD
  have I1:=I.ext e1
  replace o:Out EX G H (mdW K .F H0 H) (k7 N'.length mg mc me ws ρ) Q:=o
  unfold k7 at o
  by_cases hlen:ws.length<=1000
  ·rw [if_pos hlen] at o
   cases hm:mapR (elR mg mc me (ρ++List.replicate (N'.length-ρ.length) Sl.un)) ws with
   | stuck=>rw [hm] at o; exact o.elim
   | ex x=>rw [hm] at o; exact o.elim
   | ok ys=>
    rw [hm] at o
    obtain ⟨hall,hys⟩:=uX hm
    have T':ax K e H0 H1 G1 J ws:=by
     have:=T
     rw [if_neg Bool.false_ne_true] at this
     exact this
    generalize hρ:ρ++List.replicate (N'.length-ρ.length) Sl.un=ρi at hm hall hys
    refine ⟨fun i m H2=>m=ws.length-i/\i<=ws.length/\Same H1 H2/\∃ vs,H2 Dd=some (.lst vs)/\vs.length<=i/\Reps K (rest G1 H1 Dd H2) vs ((ws.take i).filterMap fun w=>match elR mg mc me ρi w with
     | .ok o=>o
     | _=>none),⟨_,rfl,Nat.zero_le _,fun b u q=>by rw [b9 (c9 q hD)]; exact q,[],g7,Nat.le_refl _,.nil⟩,?_⟩
    rintro i m H2 ⟨rfl,hi,s2,vs,hDv,hvl,r2⟩
    by_cases hlt:i<ws.length
    ·refine .inr ⟨T'.go i H2 hlt s2,fun x H3 y=>?_⟩
     obtain ⟨sG,I2⟩:=I1.rest (Dd:=Dd) hD s2
     have I2i:=I2.inner (N':=N')
     obtain ⟨G3,e3,m3⟩:=T'.yld i H2 x H3 ws[i] (by simp) s2 y _ _ _ I2i sG
     obtain ⟨op,hop⟩:=hall ws[i] (List.getElem_mem hlt)
     have hop':=hop
     unfold elR at hop
     rw [<- hρ] at hop
     have htake:ws.take (i+1)=ws.take i ++ [ws[i]]:=by rw [List.take_succ_eq_append_getElem hlt]
     cases q:mg ws[i] (ρ++List.replicate (N'.length-ρ.length) Sl.un) with
     | none=>rw [q] at hop; cases hop
     | some ρ1=>
      rw [q] at hop
      dsimp only at hop
      refine hg H0 H2 G3 _ _ H3 x _ ρ1 _ (I2i.ext e3) m3 q fun σ4 I4=>⟨H0,G3,ρ1,I4,?_⟩
      cases hc:mc ρ1 with
      | stuck=>rw [hc] at hop; cases hop
      | ex x=>rw [hc] at hop; cases hop
      | ok b=>
       intro b' G5 H5 e5 eb
       cases eb
       rw [hc] at hop
       cases b with
       | false=>
        rw [if_neg Bool.false_ne_true]
        have hop2:op=none:=by cases hop; rfl
        have s5:Same H2 H5:=e3.hh.trans e5.hh
        refine ⟨ws.length-(i+1),by omega,rfl,hlt,s2.trans s5,vs,s5 _ _ hDv,by omega,?_⟩
        rw [htake,List.filterMap_append]
        have:([ws[i]].filterMap fun w=>match elR mg mc me ρi w with
         | .ok o=>o
         | _=>none) = []:=by
         rw [List.filterMap_cons,hop',hop2]; rfl
        rw [this,List.append_nil]
        exact r2.same (Z7 fun b o _ q=>s5 b o q)
       | true=>
        dsimp only at hop
        rw [if_pos rfl]
        refine ⟨H0,G5,ρ1,I4.ext e5,?_⟩
        cases hme:me ρ1 with
        | stuck=>rw [hme] at hop; cases hop
        | ex x=>rw [hme] at hop; cases hop
        | ok z=>
         rw [hme] at hop
         have hop2:op=some z:=by cases hop; rfl
         intro yv G6 H6 e6 m6
         have e36:Ext (TP.rest G1 H1 Dd H2) H2 G6 H6:=(e3.trans e5).trans e6
         have s6:Same H2 H6:=e36.hh
         refine ⟨vs,s6 _ _ hDv,Nat.lt_of_le_of_lt hvl (Nat.lt_of_lt_of_le (by omega:i<1000) (by decide)),ws.length-(i+1),by omega,rfl,hlt,fun b u q=>by rw [b9 (c9 q hD)]; exact s6 b u (s2 b u q),vs ++ [yv],g7,by rw [List.length_append]; simp; omega,?_⟩
         rw [htake,List.filterMap_append]
         have:([ws[i]].filterMap fun w=>match elR mg mc me ρi w with
          | .ok o=>o
          | _=>none) = [z]:=by
          rw [List.filterMap_cons,hop',hop2]; rfl
         rw [this]
         have k1:Same (TP.rest G1 H1 Dd H2) (TP.rest G1 H1 Dd (upd H6 Dd (.lst (vs ++ [yv])))):=Z7 fun b o hb q=>by rw [b9 hb]; exact s6 b o q
         have k2:Same G6 (TP.rest G1 H1 Dd (upd H6 Dd (.lst (vs ++ [yv])))):=(pz ⟨vs,hDv⟩ s2 e36).trans (Z7 fun b o hb q=>by rw [b9 hb]; exact q)
         exact (r2.same k1).snoc (Rep.same k2 m6)
    ·have ei:i=ws.length:=by omega
     subst ei
     refine .inl ⟨T'.stop H2 s2,?_⟩
     rw [List.take_length,<- hys] at r2
     obtain ⟨sG,I2⟩:=I1.rest (Dd:=Dd) hD s2
     refine o _ (TP.rest G1 H1 Dd H2) H2 ⟨e1.gg.trans sG,e1.hh.trans s2,I2.gh,fun b u q l g=>z6 (.inr ⟨u,e1.hh b u q,l,e1.keep b u q l g⟩)⟩ ⟨Dd,vs,rfl,hDv,z6 (.inl rfl),e1.hh.free hD,r2⟩
  ·rw [if_neg hlen] at o; exact o.elim
def u8:W->R (List W)
 | .lst ws=>.ok ws
 | .tup ws=>.ok ws
 | .scr ws=>.ok ws
 | _=>.stuck
theorem C7 {t:Bool} {a:Addr} {xs:List V} (e:Same H H1) (h:Sq K H t a xs):Sq K H1 t a xs:=by
 unfold Sq at h ⊢
 split at h
 ·rename_i ht; rw [if_pos ht]; exact oR e h
 ·rename_i ht; rw [if_neg ht]; exact Same.seq e h
theorem sqT {a:Addr} {xs:List V} (h:SqT K H a xs):Sq K H true a xs:=by unfold Sq; rw [if_pos rfl]; exact h
theorem sqL {a:Addr} {xs:List V} (h:SqL K H a xs):Sq K H false a xs:=by unfold Sq; rw [if_neg Bool.false_ne_true]; exact h
theorem Rep.sq {F:Hp} {x:V} {w:W} {ws:List W} (h:Rep K F x w) (hw:u8 w=.ok ws):∃ t a vs,x=.ref a/\Sq K F t a vs/\Reps K F vs ws:=by
 cases w <;> first | (cases hw; done) | skip
 ·obtain ⟨a,vs,e,s,r⟩:=h.inv; exact ⟨true,a,vs,e,sqT (SqT.of s),R.ok.inj hw ▸ r⟩
 ·obtain ⟨a,vs,e,s,r⟩:=h.inv; exact ⟨false,a,vs,e,sqL (SqL.of s),R.ok.inj hw ▸ r⟩
 ·obtain ⟨a,vs,e,s,r⟩:=h.inv; exact ⟨false,a,vs,e,sqL s,R.ok.inj hw ▸ r⟩
def cR:Bool->Mode->Mode
 | true,e=>e
 | false,.V=>.C
 | false,_=>.B
def fz (e:Mode) (H0 G:Hp):Hp:=if e=.V then G else join H0 G
theorem Md.src {lp:Bool} {e:Mode} {Hs:Hp} {x:V} {w:W} {ws:List W} (he:e=.V\/e=.U) (I:PIv K H0 G ρ σ H) (m:Md K H0 Hs G H x w (cR lp e)) (hw:u8 w=.ok ws) :
  ∃ t a vs,x=.ref a/\Sq K (if lp then join H0 G else H) t a vs/\Reps K (fz e H0 G) vs ws:=by
 unfold fz
 rcases he with rfl | rfl
 ·rw [if_pos rfl]
  cases lp with
  | true=>
   obtain ⟨t,a,vs,e1,e2,e3⟩:=Rep.sq m hw
   exact ⟨t,a,vs,e1,by rw [if_pos rfl]; exact C7 I.G_join e2,e3⟩
  | false=>
   rw [if_neg Bool.false_ne_true]
   rcases m with m | ⟨a,vs,us,rfl,rfl,h1,r⟩
   ·obtain ⟨t,a,vs,e1,e2,e3⟩:=Rep.sq m hw
    exact ⟨t,a,vs,e1,C7 I.gh e2,e3⟩
   ·cases hw; exact ⟨false,a,vs,rfl,sqL (SqL.of h1),r⟩
 ·rw [if_neg (show ¬ (Mode.U=Mode.V) by intro z; cases z)]
  cases lp with
  | true=>
   obtain ⟨t,a,vs,e1,e2,e3⟩:=Rep.sq m hw
   exact ⟨t,a,vs,e1,by rw [if_pos rfl]; exact e2,e3⟩
  | false=>
   rw [if_neg Bool.false_ne_true]
   rcases m with m | ⟨a,vs,us,rfl,rfl,h1,r⟩
   ·obtain ⟨t,a,vs,e1,e2,e3⟩:=Rep.sq m hw
    exact ⟨t,a,vs,e1,C7 I.join_H e2,e3⟩
   ·cases hw; exact ⟨false,a,vs,rfl,sqL (SqL.of h1),r.same I.G_join⟩
theorem Md.of_fz {e:Mode} {Hs:Hp} {v:V} {w:W} (he:e=.V\/e=.U) (h:Rep K (fz e H0 G) v w):Md K H0 Hs G H v w e:=by
 unfold fz at h
 rcases he with rfl | rfl
 ·rw [if_pos rfl] at h; exact h
 ·rw [if_neg (show ¬ (Mode.U=Mode.V) by intro z; cases z)] at h; exact h
theorem J4 {e:Mode} (s:Same G G1):Same (fz e H0 G) (fz e H0 G1):=by
 unfold fz
 split
 ·exact s
 ·exact o8 s
theorem vn {e:Mode} {Z:Hp} {t:Bool} {a:Addr} {vs:List V} {ws:List W} (he:e=.V\/e=.U) (s:Sq K Z t a vs) (r:Reps K (fz e H0 G) vs ws):ax K e H0 Z G (ItQ K t a) ws:=by
 have hl:=r.length
 cases t with
 | true=>
  have hq:∀ H,Same Z H->SqT K H a vs:=fun H z=>by have:=C7 z s; unfold Sq at this; rw [if_pos rfl] at this; exact this
  refine ⟨fun i H hi z=>⟨vs,vs[i]'(by omega),hq H z,by simp⟩,fun H z=>⟨vs,hq H z,by omega⟩,fun i H x H' w hw z zz75 G2 ρ σ I sg=>?_⟩
  obtain ⟨e1,y⟩:=zz75
  subst e1
  have hx:=y vs (hq _ z)
  obtain ⟨v,hv,rv⟩:=Reps.get r hw
  rw [hx] at hv; cases hv
  exact ⟨G2,Ext.refl I.gh,Md.of_fz he (rv.same (J4 sg))⟩
 | false=>
  have hq:∀ H,Same Z H->SqL K H a vs:=fun H z=>by have:=C7 z s; unfold Sq at this; rw [if_neg Bool.false_ne_true] at this; exact this
  refine ⟨fun i H hi z=>⟨vs,vs[i]'(by omega),hq H z,by simp⟩,fun H z=>⟨vs,hq H z,by omega⟩,fun i H x H' w hw z zz76 G2 ρ σ I sg=>?_⟩
  obtain ⟨e1,y⟩:=zz76
  subst e1
  have hx:=y vs (hq _ z)
  obtain ⟨v,hv,rv⟩:=Reps.get r hw
  rw [hx] at hv; cases hv
  exact ⟨G2,Ext.refl I.gh,Md.of_fz he (rv.same (J4 sg))⟩
theorem gM {lp:Bool} (I:PIv K H0 G ρ σ H):Same (if lp then join H0 G else H) H:=by
 cases lp
 ·exact Same.refl H
 ·exact I.join_H
theorem CK {lp:Bool} {e:Mode} {ml:Rho->R W} {Rr:It->Hp->Prop} (he:e=.V\/e=.U) (h:tIt K EX lp e (fun ρ=>ml ρ>>=u8) σ H Rr):iSq K (tM K EX (cR lp e) ml) σ H Rr:=by
 obtain ⟨H0,G,ρ,I,o⟩:=h
 refine ⟨H0,G,ρ,I,?_⟩
 replace o:ir K EX lp e H0 G H (ml ρ>>=u8) Rr:=o
 revert o
 cases ml ρ with
 | stuck=>exact id
 | ex x=>exact id
 | ok w=>
  intro o x G1 H1 e1 m1
  have I1:=I.ext e1
  have o':ir K EX lp e H0 G H (u8 w) Rr:=o
  cases q:u8 w with
  | stuck=>rw [q] at o'; exact o'.elim
  | ex z=>cases w <;> cases q
  | ok ws=>
   rw [q] at o'
   obtain ⟨t,a,vs,ex,s,r⟩:=Md.src he I1 m1 q
   exact ⟨a,ex,t,vs,C7 (gM I1) s,o' _ G1 H1 e1 (vn he s r)⟩
def J7 (lo hi:Int):R (List W):=if -1000000<=lo/\lo<=1000000 /\ -1000000<=hi/\hi<=1000000 then .ok ((List.range (hi-lo).toNat).map fun k=>W.int (lo+(k:Nat))) else .stuck
def J8:List W->R (List W)
 | [.int j]=>J7 0 j
 | _=>.stuck
def rng2:List W->R (List W)
 | [.int i,.int j]=>J7 i j
 | _=>.stuck
theorem qx {e:Mode} {Z:Hp} {lo:Int} {n:Nat} (he:e=.V\/e=.U):ax K e H0 Z G (Itr lo n) ((List.range n).map fun k=>W.int (lo+(k:Nat))):=by
 refine ⟨fun i H hi _=>by show i<n; simpa using hi,fun H _=>by simp [Itr],fun i H x H' w hw _ zz77 G2 ρ σ I _=>?_⟩
 obtain ⟨e1,e2⟩:=zz77
 subst e1; subst e2
 rw [List.getElem?_map] at hw
 cases q:(List.range n)[i]? with
 | none=>rw [q] at hw; cases hw
 | some k=>
  rw [q] at hw
  have hk:k=i:=by
   have:=List.getElem?_eq_some_iff.mp q
   obtain ⟨h1,h2⟩:=this
   simpa using h2.symm
  subst hk
  cases hw
  refine ⟨G2,Ext.refl I.gh,Md.sca rfl (fun _=>.int) e⟩
theorem bb {lp:Bool} {e b:Mode} {ma:Rho->R (List W)} {k:List W->R (List W)} {Rr:It->Hp->Prop} {Q:List V->Hp->Prop} (h:tIt K EX lp e (fun ρ=>ma ρ>>=k) σ H Rr)
  (hq:∀ H0 G ρ G1 H1 xs ws us,PIv K H0 G ρ σ H->Ext G H G1 H1->MdA K b H0 H G1 H1 ws xs->k ws=.ok us->(∀ J G' H',Ext G H G' H'->ax K e H0 (if lp then join H0 G' else H') G' J us->Rr J H')->Q xs H1)
  (hx:∀ ws e,k ws≠.ex e):tA K EX b ma σ H Q:=by
 obtain ⟨H0,G,ρ,I,o⟩:=h
 refine ⟨H0,G,ρ,I,?_⟩
 replace o:ir K EX lp e H0 G H (ma ρ>>=k) Rr:=o
 revert o
 cases ma ρ with
 | stuck=>exact id
 | ex x=>exact id
 | ok ws=>
  intro o xs G1 H1 e1 m1
  have o':ir K EX lp e H0 G H (k ws) Rr:=o
  cases q:k ws with
  | stuck=>rw [q] at o'; exact o'.elim
  | ex z=>exact absurd q (hx ws z)
  | ok us=>rw [q] at o'; exact hq H0 G ρ G1 H1 xs ws us I e1 m1 q o'
theorem tN {lo hi:Int} {us:List W} (h:J7 lo hi=.ok us):(-1000000<=lo/\lo<=1000000 /\ -1000000<=hi/\hi<=1000000)/\us=(List.range (hi-lo).toNat).map fun k=>W.int (lo+(k:Nat)):=by
 unfold J7 at h
 split at h
 ·cases h; rename_i c; exact ⟨c,rfl⟩
 ·cases h
theorem pi {lo hi:Int} {e:XW} (h:J7 lo hi=.ex e):False:=by
 unfold J7 at h
 by_cases c:-1000000<=lo/\lo<=1000000 /\ -1000000<=hi/\hi<=1000000
 ·rw [if_pos c] at h; cases h
 ·rw [if_neg c] at h; cases h
theorem Ba {lp:Bool} {e:Mode} {ma:Rho->R (List W)} {Rr:It->Hp->Prop} (he:e=.V\/e=.U) (h:tIt K EX lp e (fun ρ=>ma ρ>>=J8) σ H Rr):se (tA K EX .B ma) σ H Rr:=by
 refine bb h (fun H0 G ρ G1 H1 xs ws us I e1 m1 q o=>?_) (fun ws e z=>?_)
 ·cases m1 with
  | nil=>cases q
  | @cons w _ _ _ a t=>
   cases t with
   | cons _ _=>first | (cases q; done) | (cases w <;> cases q)
   | nil=>
    cases w <;> first | (cases q; done) | skip
    rename_i j
    obtain ⟨c,rfl⟩:=tN (show J7 0 j=_ from q)
    refine ⟨j,by rw [Md.intB a],by omega,by omega,?_⟩
    have:=o (Itr 0 j.toNat) G1 H1 e1
    rw [Int.sub_zero] at this
    exact this (qx he)
 ·cases ws with
  | nil=>cases z
  | cons w t=>
   cases t with
   | cons _ _=>first | (cases z; done) | (cases w <;> cases z)
   | nil=>
    cases w <;> first | (cases z; done) | skip
    exact pi (lo:=0) z
def aX:List (List W)->List (List W)
 | [xs,ys]=>xs.zipWith (fun x y=>[x,y]) ys
 | [xs,ys,zs]=>(xs.zip ys).zipWith (fun p z=>[p.1,p.2,z]) zs
 | _=>[]
def O1:List W->R (List (List W))
 | []=>.ok []
 | w::ws=>match u8 w,O1 ws with
  | .ok x,.ok xs=>.ok (x::xs)
  | _,_=>.stuck
def F9 (ws:List W):R (List W):=if ws.length=2\/ws.length=3 then (match O1 ws with
 | .ok xs=>.ok ((aX xs).map W.tup)
 | _=>.stuck) else .stuck
theorem cU {e:Mode} {p:Addr} {vs:List V} {ws:List W} {Hs:Hp} (he:e=.V\/e=.U) (I:PIv K H0 G ρ σ H) (hp:H p=none) (r:Reps K (fz e H0 G) vs ws):Ext G H (upd G p (.tup vs)) (upd H p (.tup vs))/\Md K H0 Hs (upd G p (.tup vs)) (upd H p (.tup vs)) (.ref p) (.tup ws) e:=by
 refine ⟨gs I.gh hp,?_⟩
 have gp:G p=none:=I.gh.free hp
 rcases he with rfl | rfl
 ·unfold fz at r
  rw [if_pos rfl] at r
  exact .tup g7 (r.same fun b u q=>by rw [b9 (c9 q gp)]; exact q)
 ·unfold fz at r
  rw [if_neg (show ¬ (Mode.U=Mode.V) by intro z; cases z)] at r
  show Rep K (join H0 (upd G p (.tup vs))) _ _
  rw [qw (I.hh.free hp)]
  exact .tup g7 (r.same fun b u q=>by rw [b9 (c9 (I.join_H b u q) hp)]; exact q)
theorem nv {e:Mode} {Z:Hp} {t u:Bool} {a b:Addr} {xs ys:List V} {us vs:List W} (he:e=.V\/e=.U) (s1:Sq K Z t a xs) (s2:Sq K Z u b ys) (r1:Reps K (fz e H0 G) xs us) (r2:Reps K (fz e H0 G) ys vs) :
  ax K e H0 Z G (ItZ K [(t,a),(u,b)]) ((us.zipWith (fun x y=>[x,y]) vs).map W.tup):=by
 have Rn:=mf s1 s2
 have l1:=r1.length
 have l2:=r2.length
 have hl:((us.zipWith (fun x y=>[x,y]) vs).map W.tup).length=min xs.length ys.length:=by simp [l1,l2]
 refine ⟨fun i H hi z=>Rn.go i H (by omega) z,fun H z=>by rw [hl]; exact Rn.stop H z,fun i H x H' w hw z y G2 ρ σ I sg=>?_⟩
 have hi:i<min xs.length ys.length:=by
  rw [<- hl]; exact (List.getElem?_eq_some_iff.mp hw).1
 obtain ⟨p,y1,z1,rfl,hp,rfl,hy,hz⟩:=Rn.yld i H x H' hi z y
 obtain ⟨w1,e1,q1⟩:=Reps.get' r1 hy
 obtain ⟨w2,e2,q2⟩:=Reps.get' r2 hz
 have hw':w=.tup [w1,w2]:=by
  rw [List.getElem?_map,List.getElem?_zipWith,e1,e2] at hw
  cases hw; rfl
 subst hw'
 obtain ⟨x1,x2⟩:=cU (Hs:=H) he I hp (.cons (q1.same (J4 sg)) (.cons (q2.same (J4 sg)) .nil))
 exact ⟨_,x1,x2⟩
theorem nu {e:Mode} {Z:Hp} {t u v:Bool} {a b c:Addr} {xs ys zs:List V} {us vs ts:List W} (he:e=.V\/e=.U) (s1:Sq K Z t a xs) (s2:Sq K Z u b ys) (s3:Sq K Z v c zs) (r1:Reps K (fz e H0 G) xs us) (r2:Reps K (fz e H0 G) ys vs) (r3:Reps K (fz e H0 G) zs ts) :
  ax K e H0 Z G (ItZ K [(t,a),(u,b),(v,c)]) (((us.zip vs).zipWith (fun p z=>[p.1,p.2,z]) ts).map W.tup):=by
 have Rn:=lZ s1 s2 s3
 have l1:=r1.length
 have l2:=r2.length
 have l3:=r3.length
 have hl:(((us.zip vs).zipWith (fun p z=>[p.1,p.2,z]) ts).map W.tup).length=min xs.length (min ys.length zs.length):=by simp [l1,l2,l3,Nat.min_assoc]
 refine ⟨fun i H hi z=>Rn.go i H (by omega) z,fun H z=>by rw [hl]; exact Rn.stop H z,fun i H x H' w hw z y G2 ρ σ I sg=>?_⟩
 have hi:i<min xs.length (min ys.length zs.length):=by
  rw [<- hl]; exact (List.getElem?_eq_some_iff.mp hw).1
 obtain ⟨p,y1,z1,t1,rfl,hp,rfl,hy,hz,ht⟩:=Rn.yld i H x H' hi z y
 obtain ⟨w1,e1,q1⟩:=Reps.get' r1 hy
 obtain ⟨w2,e2,q2⟩:=Reps.get' r2 hz
 obtain ⟨w3,e3,q3⟩:=Reps.get' r3 ht
 have hw':w=.tup [w1,w2,w3]:=by
  rw [List.getElem?_map,List.getElem?_zipWith,List.zip,List.getElem?_zipWith,e1,e2,e3] at hw
  cases hw; rfl
 subst hw'
 obtain ⟨x1,x2⟩:=cU (Hs:=H) he I hp (.cons (q1.same (J4 sg)) (.cons (q2.same (J4 sg)) (.cons (q3.same (J4 sg)) .nil)))
 exact ⟨_,x1,x2⟩
theorem W4 {w:W} {ws:List W} {xs:List (List W)} (h:O1 (w::ws)=.ok xs):∃ y ys,u8 w=.ok y/\O1 ws=.ok ys/\xs=y::ys:=by
 unfold O1 at h
 cases h1:u8 w with
 | stuck=>rw [h1] at h; cases h
 | ex _=>rw [h1] at h; cases h
 | ok y=>
  rw [h1] at h
  cases h2:O1 ws with
  | stuck=>rw [h2] at h; cases h
  | ex _=>rw [h2] at h; cases h
  | ok ys=>rw [h2] at h; cases h; exact ⟨y,ys,rfl,rfl,rfl⟩
theorem CA {lp:Bool} {e:Mode} {ma:Rho->R (List W)} {Rr:It->Hp->Prop} (he:e=.V\/e=.U) (h:tIt K EX lp e (fun ρ=>ma ρ>>=F9) σ H Rr):zN K (tA K EX (cR lp e) ma) σ H Rr:=by
 refine bb h (fun H0 G ρ G1 H1 xs ws us I e1 m1 q o=>?_) (fun ws e z=>?_)
 ·have I1:=I.ext e1
  unfold F9 at q
  split at q
  ·rename_i hn
   cases hs:O1 ws with
   | stuck=>rw [hs] at q; cases q
   | ex _=>rw [hs] at q; cases q
   | ok ls=>
    rw [hs] at q
    cases q
    cases m1 with
    | nil=>simp at hn
    | cons a1 m1=>
     cases m1 with
     | nil=>simp at hn
     | cons a2 m1=>
      obtain ⟨y1,ys,h1,hs1,rfl⟩:=W4 hs
      obtain ⟨y2,ys,h2,hs2,rfl⟩:=W4 hs1
      obtain ⟨t1,p1,v1,rfl,q1,r1⟩:=Md.src he I1 a1 h1
      obtain ⟨t2,p2,v2,rfl,q2,r2⟩:=Md.src he I1 a2 h2
      have k1:=C7 (gM I1) q1
      have k2:=C7 (gM I1) q2
      cases m1 with
      | nil=>
       cases hs2
       refine ⟨[(t1,p1),(t2,p2)],rfl,.inl rfl,fun u hu=>?_,o _ G1 H1 e1 (nv he q1 q2 r1 r2)⟩
       simp only [List.mem_cons,List.not_mem_nil,or_false] at hu
       rcases hu with rfl | rfl
       ·exact ⟨_,k1⟩
       ·exact ⟨_,k2⟩
      | cons a3 m1=>
       cases m1 with
       | cons _ _=>simp at hn
       | nil=>
        obtain ⟨y3,ys,h3,hs3,rfl⟩:=W4 hs2
        cases hs3
        obtain ⟨t3,p3,v3,rfl,q3,r3⟩:=Md.src he I1 a3 h3
        refine ⟨[(t1,p1),(t2,p2),(t3,p3)],rfl,.inr rfl,fun u hu=>?_,o _ G1 H1 e1 (nu he q1 q2 q3 r1 r2 r3)⟩
        simp only [List.mem_cons,List.not_mem_nil,or_false] at hu
        rcases hu with rfl | rfl | rfl
        ·exact ⟨_,k1⟩
        ·exact ⟨_,k2⟩
        ·exact ⟨_,C7 (gM I1) q3⟩
  ·cases q
 ·unfold F9 at z
  split at z
  ·split at z <;> cases z
  ·cases z
end
end TP
namespace TP
open PySem L2
section
variable {K:Frag} {EX:EXT} {H0 G H G1 H1 G2 H2:Hp} {ρ:Rho} {σ:St} {d:Mode} {D:Ends} {Q:VK}
theorem Reps.atI {F:Hp} {vs:List V} {ws:List W} {i:Int} {w:W} (r:Reps K F vs ws) (h:L2.atI ws i=some w):∃ v,L2.atI vs i=some v/\Rep K F v w:=by
 unfold L2.atI at h ⊢
 rw [r.length]
 cases q:ixN ws.length i with
 | none=>rw [q] at h; cases h
 | some j=>rw [q] at h; exact Reps.get r h
def fIx:W->W->R W
 | .lst ws,.int i=>toR (L2.atI ws i)
 | .tup ws,.int i=>toR (L2.atI ws i)
 | .scr ws,.int i=>toR (L2.atI ws i)
 | _,_=>.stuck
theorem yJ:Op2 K .B .U (rIx K) fIx:=by
 intro EX H0 Hs G H ρ σ Ha Hb x y u v Q I s mx my o
 cases u <;> first | exact o.elim | skip
 all_goals (cases v <;> first | exact o.elim | skip)
 ·rename_i ws i
  obtain ⟨a,vs,rfl,hs,r⟩:=mx.tupB I
  replace o:Out EX G H (mdW K .U H0 Hs) (toR (L2.atI ws i)) Q:=o
  cases q:L2.atI ws i with
  | none=>rw [q] at o; exact o.elim
  | some w=>
   rw [q] at o
   obtain ⟨v,hv,rv⟩:=r.atI q
   exact .inr (.inl ⟨a,vs,i,v,rfl,my.intB,SqT.of hs,hv,o v G H (Ext.refl I.gh) rv⟩)
 ·rename_i ws i
  obtain ⟨a,vs,rfl,hs,r⟩:=mx.lstB I
  replace o:Out EX G H (mdW K .U H0 Hs) (toR (L2.atI ws i)) Q:=o
  cases q:L2.atI ws i with
  | none=>rw [q] at o; exact o.elim
  | some w=>
   rw [q] at o
   obtain ⟨v,hv,rv⟩:=r.atI q
   exact .inl ⟨a,vs,i,v,rfl,my.intB,SqL.of hs,hv,o v G H (Ext.refl I.gh) rv⟩
 ·rename_i ws i
  obtain ⟨a,vs,rfl,hs,r⟩:=mx.scrB I
  replace o:Out EX G H (mdW K .U H0 Hs) (toR (L2.atI ws i)) Q:=o
  cases q:L2.atI ws i with
  | none=>rw [q] at o; exact o.elim
  | some w=>
   rw [q] at o
   obtain ⟨v,hv,rv⟩:=r.atI q
   exact .inl ⟨a,vs,i,v,rfl,my.intB,hs,hv,o v G H (Ext.refl I.gh) rv⟩
theorem yI:Op2 K .C .V (rIx K) fIx:=by
 intro EX H0 Hs G H ρ σ Ha Hb x y u v Q I s mx my o
 cases u <;> first | exact o.elim | skip
 all_goals (cases v <;> first | exact o.elim | skip)
 ·rename_i ws i
  obtain ⟨a,vs,rfl,hs,r⟩:=mx.tupC I
  replace o:Out EX G H (mdW K .V H0 Hs) (toR (L2.atI ws i)) Q:=o
  cases q:L2.atI ws i with
  | none=>rw [q] at o; exact o.elim
  | some w=>
   rw [q] at o
   obtain ⟨v,hv,rv⟩:=r.atI q
   exact .inr (.inl ⟨a,vs,i,v,rfl,Md.intB (Md.CB I my),SqT.of hs,hv,o v G H (Ext.refl I.gh) rv⟩)
 ·rename_i ws i
  obtain ⟨a,vs,rfl,hs,r⟩:=mx.lstC I
  replace o:Out EX G H (mdW K .V H0 Hs) (toR (L2.atI ws i)) Q:=o
  cases q:L2.atI ws i with
  | none=>rw [q] at o; exact o.elim
  | some w=>
   rw [q] at o
   obtain ⟨v,hv,rv⟩:=r.atI q
   exact .inl ⟨a,vs,i,v,rfl,Md.intB (Md.CB I my),SqL.of hs,hv,o v G H (Ext.refl I.gh) rv⟩
 ·rename_i ws i
  obtain ⟨a,vs,rfl,hs,r⟩:=(Md.repC mx fun _=>W.noConfusion).inv
  replace o:Out EX G H (mdW K .V H0 Hs) (toR (L2.atI ws i)) Q:=o
  cases q:L2.atI ws i with
  | none=>rw [q] at o; exact o.elim
  | some w=>
    rw [q] at o
    obtain ⟨v,hv,rv⟩:=r.atI q
    exact .inl ⟨_,_,i,v,rfl,Md.intB (Md.CB I my),Same.seq I.gh hs,hv,o v G H (Ext.refl I.gh) rv⟩
def Z4 (K:Frag) (EX:EXT) (m:Rho->R (Option Int)):TO:=fun σ H Q=>∃ H0 G ρ,PIv K H0 G ρ σ H/\Out EX G H (fun (b c:Option Int) _ _=>c=b) (m ρ) Q
def eU:W->R (Option Int)
 | .int i=>.ok (some i)
 | _=>.stuck
theorem rg {Q:Option Int->Hp->Prop} (h:Z4 K EX (fun _=>.ok none) σ H Q):tNoPart σ H Q:=by
 obtain ⟨H0,G,ρ,I,o⟩:=h
 exact o none G H (Ext.refl I.gh) rfl
theorem Bb {m:Rho->R W} {Q:Option Int->Hp->Prop} (h:Z4 K EX (fun ρ=>m ρ>>=eU) σ H Q):jO (tM K EX .B m) σ H Q:=by
 obtain ⟨H0,G,ρ,I,o⟩:=h
 refine ⟨H0,G,ρ,I,Out.bind o fun x G1 H1 u e1 m1 o1=>?_⟩
 cases u <;> first | exact o1.elim | skip
 rename_i i
 exact ⟨i,m1.intB,o1 _ G1 H1 (Ext.refl e1.gh) rfl⟩
def G9 (xs:List W) (lo hi:Option Int):List W:=(xs.drop (HT.sIx xs.length 0 lo)).take (HT.sIx xs.length xs.length hi-HT.sIx xs.length 0 lo)
theorem Reps.cut {F:Hp} {vs:List V} {ws:List W} (r:Reps K F vs ws) (lo hi:Option Int):Reps K F (cutV vs lo hi) (G9 ws lo hi):=by
 unfold cutV G9
 rw [r.length]
 exact (r.drop _).take _
def lstOf:W->Option (List W)
 | .lst ws=>some ws
 | .scr ws=>some ws
 | _=>none
def chks (c:Bool) (ws:List W):R W:=if c||k9 ws then .ok (.lst ws) else .stuck
def cb (c:Bool):Mode:=if c then .C else .B
theorem Md.lstOf {c:Bool} {Ha:Hp} {x:V} {w:W} {ws:List W} (I:PIv K H0 G ρ σ H) (m:Md K H0 Ha G H x w (cb c)) (h:lstOf w=some ws):∃ a vs,x=.ref a/\SqL K H a vs/\Reps K (if c then G else join H0 G) vs ws:=by
 cases c with
 | true=>
  rw [if_pos rfl]
  cases w <;> first | cases h | skip
  ·obtain ⟨a,vs,e,hs,r⟩:=Md.lstC (H:=Ha) I m
   exact ⟨a,vs,e,SqL.of hs,r⟩
  ·obtain ⟨a,vs,e,hs,r⟩:=(Md.repC m fun _=>W.noConfusion).inv
   exact ⟨a,vs,e,Same.seq I.gh hs,r⟩
 | false=>
  rw [if_neg Bool.false_ne_true]
  cases w <;> first | cases h | skip
  ·obtain ⟨a,vs,e,hs,r⟩:=Md.lstB (H:=Ha) I m
   exact ⟨a,vs,e,SqL.of hs,r⟩
  ·exact Md.scrB (H:=Ha) I m
theorem Out.chks {c:Bool} {Hs:Hp} {vs:List V} {ws:List W} (I:PIv K H0 G ρ σ H) (s:Same Hs H) (r:Reps K (if c then G else join H0 G) vs ws) (o:Out EX G H (mdW K .F H0 Hs) (chks c ws) Q):∀ p,H p=none->Q (.ref p) (upd H p (.lst vs)):=by
 unfold TP.chks at o
 by_cases n:(c||k9 ws)=true
 ·rw [if_pos n] at o
  have r':Reps K G vs ws:=by
   cases c with
   | true=>rw [if_pos rfl] at r; exact r
   | false=>rw [if_neg Bool.false_ne_true] at r; exact Reps.clean I r (by simpa using n)
  exact fun p hp=>Out.newL I s r' hp o
 ·rw [if_neg n] at o; exact o.elim
theorem c_sl {c:Bool} {m:Rho->R W} {ml mh:Rho->R (Option Int)} (h:tM K EX .F (fun ρ=>m ρ>>=fun x=>ml ρ>>=fun l=>mh ρ>>=fun u=>toR (lstOf x)>>=fun ws=>chks c (G9 ws l u)) σ H Q) :
  tSl (xO K) (tM K EX (cb c) m) (Z4 K EX ml) (Z4 K EX mh) σ H Q:=by
 obtain ⟨H0,G,ρ,I,o⟩:=h
 refine ⟨H0,G,ρ,I,Out.bind o fun x G1 H1 w e1 m1 o1=>⟨H0,G1,ρ,I.ext e1,Out.bind o1 fun l' G2 H2 l e2 m2 o2=>⟨H0,G2,ρ,(I.ext e1).ext e2,Out.bind o2 fun u' G3 H3 u e3 m3 o3=>?_⟩⟩⟩
 subst m2; subst m3
 have I3:=((I.ext e1).ext e2).ext e3
 cases q:lstOf w with
 | none=>rw [q] at o3; exact o3.elim
 | some ws=>
  rw [q] at o3
  obtain ⟨a,vs,ex,hs,r⟩:=Md.lstOf I3 ((m1.move e2).move e3) q
  refine ⟨a,vs,ex,hs,Out.chks I3 ((e1.hh.trans e2.hh).trans e3.hh) (c:=c) ?_ o3⟩
  cases c with
  | true=>rw [if_pos rfl] at r ⊢; exact r.cut _ _
  | false=>rw [if_neg Bool.false_ne_true] at r ⊢; exact r.cut _ _
def Cal (K:Frag) (b d:Mode) (r:List V->Hp->VK->Prop) (f:List W->R W):Prop:=∀ (EX:EXT) (H0 Hs G H:Hp) (ρ:Rho) (σ:St) (Ha:Hp) (vs:List V) (ws:List W) (Q:VK),PIv K H0 G ρ σ H->Same Hs H->MdA K b H0 Ha G H ws vs ->
 Out EX G H (mdW K d H0 Hs) (f ws) Q->r vs H Q
theorem Bj {b:Mode} {r:List V->Hp->VK->Prop} {f:List W->R W} {ma:Rho->R (List W)} (hr:Cal K b d r f) (h:tM K EX d (fun ρ=>ma ρ>>=fun ws=>f ws) σ H Q):tCB r (tA K EX b ma) σ H Q:=by
 obtain ⟨H0,G,ρ,I,o⟩:=h
 exact ⟨H0,G,ρ,I,Out.bind o fun xs G1 H1 ws e1 m1 o1=>hr EX H0 H G1 H1 ρ σ H xs ws Q (I.ext e1) e1.hh m1 o1⟩
def fLen:List W->R W
 | [w]=>u8 w>>=fun ws=>.ok (.int ws.length)
 | _=>.stuck
theorem p6:Cal K .B d (fun xs H Q=>∃ p ys,xs = [.ref p]/\(SqL K H p ys\/SqT K H p ys)/\Q (.int ys.length) H) fLen:=by
 intro EX H0 Hs G H ρ σ Ha vs ws Q I s m o
 cases m with
 | nil=>exact o.elim
 | cons a t=>
  cases t with
  | cons _ _=>exact o.elim
  | nil=>
   rename_i w v
   cases w <;> first | exact o.elim | skip
   ·obtain ⟨p,ys,rfl,hs,r⟩:=a.tupB I
    exact ⟨p,ys,rfl,.inr (SqT.of hs),by rw [r.length]; exact o _ G H (Ext.refl I.gh) (Md.sca rfl (fun _=>.int) d)⟩
   ·obtain ⟨p,ys,rfl,hs,r⟩:=a.lstB I
    exact ⟨p,ys,rfl,.inl (SqL.of hs),by rw [r.length]; exact o _ G H (Ext.refl I.gh) (Md.sca rfl (fun _=>.int) d)⟩
   ·obtain ⟨p,ys,rfl,hs,r⟩:=a.scrB I
    exact ⟨p,ys,rfl,.inl hs,by rw [r.length]; exact o _ G H (Ext.refl I.gh) (Md.sca rfl (fun _=>.int) d)⟩
def cD (c:Bool):List W->R W
 | [w]=>u8 w>>=chks c
 | _=>.stuck
theorem ot {c:Bool}:Cal K (cb c) .F (fun xs H Q=>∃ p ys,xs = [.ref p]/\(SqL K H p ys\/SqT K H p ys)/\∀ l,H l=none->Q (.ref l) (upd H l (.lst ys))) (cD c):=by
 intro EX H0 Hs G H ρ σ Ha vs ws Q I s m o
 cases m with
 | nil=>exact o.elim
 | cons a t=>
  cases t with
  | cons _ _=>exact o.elim
  | nil=>
   rename_i w v
   cases w <;> first | exact o.elim | skip
   ·rename_i us
    cases c with
    | true=>
     obtain ⟨p,ys,rfl,hs,r⟩:=Md.tupC (H:=Ha) I a
     exact ⟨p,ys,rfl,.inr (SqT.of hs),Out.chks (c:=true) I s r o⟩
    | false=>
     obtain ⟨p,ys,rfl,hs,r⟩:=Md.tupB (H:=Ha) I a
     exact ⟨p,ys,rfl,.inr (SqT.of hs),Out.chks (c:=false) I s r o⟩
   ·obtain ⟨p,ys,rfl,hs,r⟩:=Md.lstOf I a rfl
    exact ⟨p,ys,rfl,.inl hs,Out.chks I s r o⟩
   ·obtain ⟨p,ys,rfl,hs,r⟩:=Md.lstOf I a rfl
    exact ⟨p,ys,rfl,.inl hs,Out.chks I s r o⟩
def R4 (c:Bool) (ws:List W):R W:=if c||k9 ws then .ok (.tup ws) else .stuck
def F4 (c:Bool):List W->R W
 | [w]=>u8 w>>=R4 c
 | _=>.stuck
theorem K4 {c:Bool}:Cal K (cb c) .F (fun xs H Q=>∃ p ys,xs = [.ref p]/\((SqL K H p ys/\∀ l,H l=none->Q (.ref l) (upd H l (.tup ys)))\/(SqT K H p ys/\Q (.ref p) H))) (F4 c):=by
 intro EX H0 Hs G H ρ σ Ha vs ws Q I s m o
 have key:∀ {vs:List V} {us:List W},Reps K (if c then G else join H0 G) vs us->Out EX G H (mdW K .F H0 Hs) (R4 c us) Q->Reps K G vs us/\Out EX G H (mdW K .F H0 Hs) (.ok (.tup us)) Q:=fun {vs us} r o=>by
  unfold R4 at o
  by_cases n:(c||k9 us)=true
  ·rw [if_pos n] at o
   refine ⟨?_,o⟩
   cases c with
   | true=>rw [if_pos rfl] at r; exact r
   | false=>rw [if_neg Bool.false_ne_true] at r; exact Reps.clean I r (by simpa using n)
  ·rw [if_neg n] at o; exact o.elim
 cases m with
 | nil=>exact o.elim
 | cons a t=>
  cases t with
  | cons _ _=>exact o.elim
  | nil=>
   rename_i w v
   cases w <;> first | exact o.elim | skip
   ·rename_i us
    have hx:∃ p ys,v=.ref p/\(if c then G else join H0 G) p=some (.tup ys)/\Reps K (if c then G else join H0 G) ys us:=by
     cases c with
     | true=>rw [if_pos rfl]; exact (Md.repC a fun _=>W.noConfusion).inv
     | false=>rw [if_neg Bool.false_ne_true]; exact (Md.repB a fun _=>W.noConfusion).inv
    obtain ⟨p,ys,rfl,hp,r⟩:=hx
    obtain ⟨r',o'⟩:=key r o
    have hH:H p=some (.tup ys):=by
     cases c with
     | true=>rw [if_pos rfl] at hp; exact I.gh _ _ hp
     | false=>rw [if_neg Bool.false_ne_true] at hp; exact I.join_H _ _ hp
    have hG:G p=some (.tup ys):=by
     cases c with
     | true=>rw [if_pos rfl] at hp; exact hp
     | false=>
      rw [if_neg Bool.false_ne_true] at hp
      unfold join at hp
      cases q:H0 p with
      | none=>rw [q] at hp; exact hp
      | some u=>
       rw [q] at hp
       dsimp only at hp
       by_cases hl:isL u=true
       ·rw [if_pos hl] at hp; cases hp; cases hl
       ·rw [if_neg hl] at hp; exact hp
    exact ⟨p,ys,rfl,.inr ⟨SqT.of hH,o' _ G H (Ext.refl I.gh) (.tup hG r')⟩⟩
   ·obtain ⟨p,ys,rfl,hs,r⟩:=Md.lstOf I a rfl
    obtain ⟨r',o'⟩:=key r o
    exact ⟨p,ys,rfl,.inl ⟨hs,fun l hl=>Out.newTF I r' hl o'⟩⟩
   ·obtain ⟨p,ys,rfl,hs,r⟩:=Md.lstOf I a rfl
    obtain ⟨r',o'⟩:=key r o
    exact ⟨p,ys,rfl,.inl ⟨hs,fun l hl=>Out.newTF I r' hl o'⟩⟩
def f2 (g:Int->Int->Int):List W->R W
 | [.int i,.int j]=>.ok (.int (g i j))
 | _=>.stuck
theorem b_2 {g:Int->Int->Int}:Cal K .B d (fun xs H Q=>∃ i j,xs = [.int i,.int j]/\Q (.int (g i j)) H) (f2 g):=by
 intro EX H0 Hs G H ρ σ Ha vs ws Q I s m o
 unfold f2 at o
 split at o
 ·cases m with
  | cons a t=>
   cases t with
   | cons b t=>
    cases t
    exact ⟨_,_,by rw [a.intB,b.intB],o _ G H (Ext.refl I.gh) (Md.sca rfl (fun _=>.int) d)⟩
 ·exact o.elim
def tyW:W->Option String
 | .non=>some "NoneType"
 | .bl _=>some "bool"
 | .int _=>some "int"
 | .str _=>some "str"
 | .tup _=>some "tuple"
 | .lst _=>some "list"
 | _=>none
def fIsi:List W->R W
 | [x,.ty T]=>toR ((tyW x).bind fun A=>t8 A T)>>=fun b=>.ok (.bl b)
 | _=>.stuck
theorem wG {Ha:Hp} {v:V} {w:W} {A:String} (I:PIv K H0 G ρ σ H) (m:Md K H0 Ha G H v w .B) (h:tyW w=some A):L2.tyB H v=some A:=by
 cases w <;> first | cases h | skip
 ·rw [m.nonB]; rfl
 ·rw [m.blB]; rfl
 ·rw [m.intB]; rfl
 ·rw [m.strB]; rfl
 ·obtain ⟨a,vs,rfl,hs,r⟩:=m.tupB I
  show L2.tyO (H a)=_
  rw [hs]; rfl
 ·obtain ⟨a,vs,rfl,hs,r⟩:=m.lstB I
  show L2.tyO (H a)=_
  rw [hs]; rfl
theorem M6:Cal K .B d rIsi fIsi:=by
 intro EX H0 Hs G H ρ σ Ha vs ws Q I s m o
 cases m with
 | nil=>exact o.elim
 | @cons x _ _ _ a t=>
  cases t with
  | nil=>exact o.elim
  | @cons y _ _ _ b t=>
   cases t with
   | cons _ _=>first | exact o.elim | (cases y <;> exact o.elim)
   | nil=>
    cases y <;> first | exact o.elim | skip
    rename_i T
    replace o:Out EX G H (mdW K d H0 Hs) (toR ((tyW x).bind fun A=>t8 A T)>>=fun b=>.ok (.bl b)) Q:=o
    cases q:tyW x with
    | none=>rw [q] at o; exact o.elim
    | some A=>
     rw [q] at o
     replace o:Out EX G H (mdW K d H0 Hs) (toR (t8 A T)>>=fun b=>.ok (.bl b)) Q:=o
     cases q2:t8 A T with
     | none=>rw [q2] at o; exact o.elim
     | some c=>
      rw [q2] at o
      exact ⟨_,T,by rw [b.tyB],A,wG I a q,c,q2,o _ G H (Ext.refl I.gh) (Md.sca rfl (fun _=>.bl) d)⟩
def dw (c:Bool):W->W->R W
 | .lst us,.lst vs=>if us.length+vs.length<=1000 then chks c (us++vs) else .stuck
 | _,_=>.stuck
theorem gn {c:Bool}:Op2 K (cb c) .F rCat (dw c):=by
 intro EX H0 Hs G H ρ σ Ha Hb x y u v Q I s mx my o
 cases u <;> first | exact o.elim | skip
 all_goals (cases v <;> first | exact o.elim | skip)
 rename_i us vs
 replace o:Out EX G H (mdW K .F H0 Hs) (if us.length+vs.length<=1000 then chks c (us++vs) else .stuck) Q:=o
 by_cases hn:us.length+vs.length<=1000
 ·rw [if_pos hn] at o
  have h1:∃ a ws,x=.ref a/\H a=some (.lst ws)/\Reps K (if c then G else join H0 G) ws us:=by
   cases c with
   | true=>exact Md.lstC (H:=Ha) I mx
   | false=>exact Md.lstB (H:=Ha) I mx
  have h2:∃ a ws,y=.ref a/\H a=some (.lst ws)/\Reps K (if c then G else join H0 G) ws vs:=by
   cases c with
   | true=>exact Md.lstC (H:=Hb) I my
   | false=>exact Md.lstB (H:=Hb) I my
  obtain ⟨a,xs,rfl,ha,ra⟩:=h1
  obtain ⟨b,ys,rfl,hb,rb⟩:=h2
  exact ⟨a,b,xs,ys,rfl,rfl,ha,hb,by rw [ra.length,rb.length]; exact U6 hn,Out.chks I s (ra.append rb) o⟩
 ·rw [if_neg hn] at o; exact o.elim
theorem Reps.rep {F:Hp} {vs:List V} {ws:List W} (r:Reps K F vs ws):∀ k:Nat,Reps K F (List.replicate k vs).flatten (List.replicate k ws).flatten
 | 0=>.nil
 | k+1=>by rw [List.replicate_succ,List.replicate_succ,List.flatten_cons,List.flatten_cons]; exact r.append (Reps.rep r k)
def fRep (c:Bool):W->W->R W
 | .lst us,.int k=>if us.length*k.toNat<=1000 /\ -1000<=k/\k<=1000 then chks c (List.replicate k.toNat us).flatten else .stuck
 | _,_=>.stuck
end
end TP
namespace TP
open PySem L2
def mC (w:W):Rho->R W:=fun _=>.ok w
def b1 (f:W->R W) (ma:Rho->R W):Rho->R W:=fun ρ=>ma ρ>>=fun x=>f x
def b2 (f:W->W->R W) (ma mb:Rho->R W):Rho->R W:=fun ρ=>ma ρ>>=fun x=>mb ρ>>=fun y=>f x y
def bA (f:List W->R W) (ma:Rho->R (List W)):Rho->R W:=fun ρ=>ma ρ>>=fun ws=>f ws
def bI (f:List W->R (List W)) (ma:Rho->R (List W)):Rho->R (List W):=fun ρ=>ma ρ>>=f
def bS (ma:Rho->R W):Rho->R (List W):=fun ρ=>ma ρ>>=u8
def aN:Rho->R (List W):=fun _=>.ok []
def aC (ma:Rho->R W) (mr:Rho->R (List W)):Rho->R (List W):=fun ρ=>ma ρ>>=fun x=>mr ρ>>=fun xs=>.ok (x::xs)
def bB (ma:Rho->R W):Rho->R W:=fun ρ=>ma ρ>>=chk
def f6 (ma:Rho->R W):Rho->R Bool:=fun ρ=>ma ρ>>=toB
def eR (a b:Rho->R Bool):Rho->R Bool:=fun ρ=>cV (a ρ) (b ρ)
def fw (a b:Rho->R Bool):Rho->R Bool:=fun ρ=>rOr (a ρ) (b ρ)
def D3 (a:Rho->R Bool):Rho->R Bool:=fun ρ=>jU (a ρ)
def fq (a b:Rho->R W):Rho->R W:=fun ρ=>aE (a ρ) (b ρ)
def vOr (a b:Rho->R W):Rho->R W:=fun ρ=>fN (a ρ) (b ρ)
def oF (a:Rho->R W):Rho->R W:=fun ρ=>eT (a ρ)
def vIf (c:Rho->R Bool) (a b:Rho->R W):Rho->R W:=fun ρ=>c ρ>>=fun t=>if t then a ρ else b ρ
def wF (f f':W->W->R W) (ma mb mc:Rho->R W):Rho->R W:=fun ρ=>ma ρ>>=fun x=>mb ρ>>=fun y=>f x y>>=fun z=>toB z>>=fun c=>if c then mc ρ>>=fun u=>f' y u else .ok (.bl false)
def t6 (ma:Rho->R (List W)):Rho->R W:=fun ρ=>ma ρ>>=fun ws=>lim ws.length (.tup ws)
def z8 (ma:Rho->R (List W)):Rho->R W:=fun ρ=>ma ρ>>=fun ws=>lim ws.length (.lst ws)
def pN:Rho->R (Option Int):=fun _=>.ok none
def pS (m:Rho->R W):Rho->R (Option Int):=fun ρ=>m ρ>>=eU
def vSl (c:Bool) (m:Rho->R W) (ml mh:Rho->R (Option Int)):Rho->R W:=fun ρ=>m ρ>>=fun x=>ml ρ>>=fun l=>mh ρ>>=fun u=>toR (lstOf x)>>=fun ws=>chks c (G9 ws l u)
def r9 (n:Nat) (mi:Rho->R (List W)) (mg:W->Rho->Option Rho) (mc:Rho->R Bool) (me:Rho->R W):Rho->R W:=fun ρ=>mi ρ>>=fun ws=>k7 n mg mc me ws ρ
def yes:Rho->R Bool:=fun _=>.ok true
def sNx:Rho->R Fl:=fun ρ=>.ok (.nx ρ)
def BJ (m:Rho->R W):Rho->R Fl:=fun ρ=>m ρ>>=fun _=>.ok (.nx ρ)
def f8 (m:Rho->R W):Rho->R Fl:=fun ρ=>m ρ>>=fun w=>.ok (.rt w)
def BG:Rho->R Fl:=fun _=>.ok (.rt .non)
def sV (i:Nat) (m:Rho->R W):Rho->R Fl:=fun ρ=>m ρ>>=fun w=>.ok (.nx (ρ.set i (.val w)))
def sU (i:Nat) (m:Rho->R W):Rho->R Fl:=fun ρ=>m ρ>>=fun w=>.ok (.nx (ρ.set i (.par w)))
def sF (i:Nat) (m:Rho->R W):Rho->R Fl:=fun ρ=>m ρ>>=fun w=>.ok (.nx (ρ.set i (M1 w)))
def sG (mg:W->Rho->Option Rho) (m:Rho->R W):Rho->R Fl:=fun ρ=>m ρ>>=fun w=>toR (mg w ρ)>>=fun ρ'=>.ok (.nx ρ')
def B0 (mi:Rho->R (List W)) (mg:W->Rho->Option Rho) (mb:Rho->R Fl):Rho->R Fl:=fun ρ=>mi ρ>>=fun ws=>z9 mg mb ws ρ
def Q0 (i:Nat) (m:Rho->R Fl):Rho->R Fl:=fun ρ=>m (frz i ρ)
def lV:Rho->R Fl:=fun _=>.stuck
def sBk:Rho->R Fl:=fun ρ=>.ok (.bk ρ)
def sCt:Rho->R Fl:=fun ρ=>.ok (.ct ρ)
section
variable {X:Cx} {e:Expr} {es:List Expr} {st:Stmt} {sts:List Stmt}
theorem _root_.L2.PE.mono {t t':TE} (h:PE X e t) (hm:∀ σ H Q,t' σ H Q->t σ H Q):PE X e t':=fun pins s σ H Q I q=>h pins s σ H Q I (hm σ H Q q)
theorem _root_.L2.PT.mono {t t':TT} (h:PT X e t) (hm:∀ σ H Q,t' σ H Q->t σ H Q):PT X e t':=fun pins s σ H Q I q=>h pins s σ H Q I (hm σ H Q q)
theorem _root_.L2.PW.mono {t t':TT} (h:PW X e t) (hm:∀ σ H Q,t' σ H Q->t σ H Q):PW X e t':=fun wh pins s σ H Q I q=>h wh pins s σ H Q I (hm σ H Q q)
theorem _root_.L2.PA.mono {t t':TA} (h:PA X es t) (hm:∀ σ H Q,t' σ H Q->t σ H Q):PA X es t':=fun pos pins s σ H Q I q=>h pos pins s σ H Q I (hm σ H Q q)
theorem _root_.L2.PS.mono {t t':TS} (h:PS X st t) (hm:∀ D σ H,t' D σ H->t D σ H):PS X st t':=fun pins s σ H D I q=>h pins s σ H D I (hm D σ H q)
theorem _root_.L2.PSs.mono {t t':TS} (h:PSs X sts t) (hm:∀ D σ H,t' D σ H->t D σ H):PSs X sts t':=fun pins s σ H D I q=>h pins s σ H D I (hm D σ H q)
theorem _root_.L2.PI.mono {tg:Expr} {t t':TI} (h:PI X tg e t) (hm:∀ σ H Q,t' σ H Q->t σ H Q):PI X tg e t':=fun pins s σ H Q I q=>h pins s σ H Q I (hm σ H Q q)
theorem _root_.L2.PO.mono {oe:Option Expr} {t t':TO} (h:PO X oe t) (hm:∀ σ H Q,t' σ H Q->t σ H Q):PO X oe t':=by
 intro pins s σ H Q I q
 exact h pins s σ H Q I (hm σ H Q q)
end
section
variable {X:Cx} {K:Frag} {EX:EXT} {d b:Mode} {a c e:Expr} {es rest:List Expr} {pos:Pos} {ma mb mc:Rho->R W} {ta tb:Rho->R Bool} {mr:Rho->R (List W)}
theorem n5 (h:PE X e (tM K EX .F ma)):PE X e (tM K EX .V ma):=h.mono fun _ _ _ q=>uS q
theorem pI (h:PE X e (tM K EX .V ma)):PE X e (tM K EX .U ma):=h.mono fun _ _ _ q=>uP q
theorem jZ (h:PE X e (tM K EX .V ma)):PE X e (tM K EX .C ma):=h.mono fun _ _ _ q=>uQ q
theorem f9 (h:PE X e (tM K EX .F ma)):PE X e (tM K EX .C ma):=h.mono fun _ _ _ q=>uT q
theorem g8 (h:PE X e (tM K EX .U ma)):PE X e (tM K EX .B ma):=h.mono fun _ _ _ q=>uR q
theorem i6 (h:PE X e (tM K EX .C ma)):PE X e (tM K EX .B ma):=h.mono fun _ _ _ q=>uU q
theorem fR (h:PE X e (tM K EX .U ma)):PE X e (tM K EX .V (bB ma)):=h.mono fun _ _ _ q=>gw (.inr rfl) q
theorem yh (h:PE X e (tM K EX .U ma)):PE X e (tM K EX .F (bB ma)):=h.mono fun _ _ _ q=>gw (.inl rfl) q
theorem qv (d:Mode) (i:Nat) {x:Str} (hN:X.N[i]?=some x:=by rfl) (hv:Vis X.env.scope x:=by first | exact Or.inl rfl | exact Or.inr (Or.inl rfl) | exact Or.inr (Or.inr rfl)) (hd:(x == ("__debug__" : Str))=false:=by decide)
  (hcd:(x == ("__classdict__" : Str))=false:=by decide):PE X (.Name x pos) (tM K EX d (a9 d i)):=(M9 hN hv hd hcd).mono fun _ _ _ q=>kQ q
theorem c7 {i j}:PE X (.Constant (.int i) j pos) (tM K EX d (mC (.int i))):=pe_int.mono fun _ _ _ q=>V6 rfl (fun _=>.int) q
theorem v9 {t j}:PE X (.Constant (.bool t) j pos) (tM K EX d (mC (.bl t))):=pe_bl.mono fun _ _ _ q=>V6 rfl (fun _=>.bl) q
theorem S0 {j}:PE X (.Constant .none j pos) (tM K EX d (mC .non)):=pe_non.mono fun _ _ _ q=>V6 rfl (fun _=>.non) q
theorem B9 {x j}:PE X (.Constant (.str x) j pos) (tM K EX d (mC (.str x))):=pe_str.mono fun _ _ _ q=>V6 rfl (fun _=>.str) q
theorem T4 {x:Str} {n:String} (hg:Gl X x) (hm:X.mg x=none) (hv:bootBuiltins x=some (.type n)) (hn:x ≠ "__name__" := by decide) (hd:(x == ("__debug__" : Str))=false:=by decide):PE X (.Name x pos) (tM K EX d (mC (.ty n))):=
 (uv (v:=.ty n) hg hm hv rfl hn hd).mono fun _ _ _ q=>V6 rfl (fun _=>.ty) q
theorem e9 {op:Operator} {r:R2} {f:W->W->R W} (ho:OpR X (binaryOp op) r) (hr:Op2 K b d r f) (ha:PE X a (tM K EX b ma)) (hb:PE X c (tM K EX b mb)):PE X (.BinOp a op c pos) (tM K EX d (b2 f ma mb)):=
 (BZ ho ha hb).mono fun _ _ _ q=>ii hr q
theorem jX {op:CmpOp} {r:R2} {f:W->W->R W} (ho:OpR X (compareOp op) r) (hr:Op2 K b d r f) (ha:PE X a (tM K EX b ma)) (hb:PE X c (tM K EX b mb)) (hm:behindInMarks op c=false:=by first | exact mS _ | rfl):PE X (.Compare a [op] [c] pos) (tM K EX d (b2 f ma mb)):=
 (uu ho ha hb hm).mono fun _ _ _ q=>ii hr q
theorem k6 {op:CmpOp} {r:R2} {f:W->W->R W} (ho:OpR X (compareOp op) r) (hr:Op2 K b .B r f) (ha:PE X a (tM K EX b ma)) (hb:PE X c (tM K EX b mb)) (hm:behindInMarks op c=false:=by first | exact mS _ | rfl):PT X (.Compare a [op] [c] pos) (tT K EX (f6 (b2 f ma mb))):=
 (ui ho ha hb hm).mono fun σ H Q q=>by
  obtain ⟨H0,G,ρ,I,o⟩:=q
  have:=nX (ma:=b2 f ma mb) ⟨H0,G,ρ,I,o⟩
  exact ii hr this
theorem xX {op:UnaryOp} {r:V->Hp->VK->Prop} {f:W->R W} (ho:UnR X (unaryOp op) r) (hr:Op1 K b d r f) (ha:PE X a (tM K EX b ma)):PE X (.UnaryOp op a pos) (tM K EX d (b1 f ma)):=
 (BY ho ha).mono fun _ _ _ q=>c_un hr q
theorem n8 (ha:PE X a (tM K EX .B ma)) (he:∀ whole,isTrue a X.env whole=(do let v <- whole; standAt a.pos; holding [v] (truthy v)):=by intro _; rfl):PT X a (tT K EX (f6 ma)):=
 (yk ha he).mono fun _ _ _ q=>c_tB q
theorem iU (ha:PT X a (tT K EX ta)):PW X (.BoolOp .And [a] pos) (tT K EX ta):=uh ha
theorem fP (ha:PT X a (tT K EX ta)):PW X (.BoolOp .Or [a] pos) (tT K EX ta):=yi ha
theorem mz {b:Expr} (ha:PT X a (tT K EX ta)) (hb:PW X (.BoolOp .And (b::rest) pos) (tT K EX tb)):PW X (.BoolOp .And (a::b::rest) pos) (tT K EX (eR ta tb)):=(yj ha hb).mono fun _ _ _ q=>CT q
theorem jW {b:Expr} (ha:PT X a (tT K EX ta)) (hb:PW X (.BoolOp .Or (b::rest) pos) (tT K EX tb)):PW X (.BoolOp .Or (a::b::rest) pos) (tT K EX (fw ta tb)):=(BR ha hb).mono fun _ _ _ q=>c_or q
theorem C6 (ha:PT X a (tT K EX ta)):PT X (.UnaryOp .Not a pos) (tT K EX (D3 ta)):=(yl ha).mono fun _ _ _ q=>CG q
theorem rP {op} (h:PE X a (tM K EX d ma)):PE X (.BoolOp op [a] pos) (tM K EX d ma):=yy h
theorem jY {b:Expr} (ha:PE X a (tM K EX .B ma)) (hb:PE X (.BoolOp .And (b::rest) pos) (tM K EX d mb)):PE X (.BoolOp .And (a::b::rest) pos) (tM K EX d (fq ma mb)):=(yB ha hb).mono fun _ _ _ q=>Bo q
theorem BM (ha:PE X a (tM K EX .B ma)):PE X (.UnaryOp .Not a pos) (tM K EX d (oF ma)):=(yz ha).mono fun _ _ _ q=>Bc q
theorem q_if {t:Expr} (ht:PT X t (tT K EX ta)) (ha:PE X a (tM K EX d ma)) (hb:PE X c (tM K EX d mb)):PE X (.IfExp t a c pos) (tM K EX d (vIf ta ma mb)):=(pO ht ha hb).mono fun _ _ _ q=>c_if q
theorem b6:PA X [] (tA K EX d aN):=pa_nil.mono fun _ _ _ q=>CH q
theorem a8 (ha:PE X e (tM K EX d ma)) (hr:PA X es (tA K EX d mr)) (hs:starEach (e::es) X.env=(false,eval e X.env)::starEach es X.env:=by rfl):PA X (e::es) (tA K EX d (aC ma mr)):=(cZ ha hr hs).mono fun _ _ _ q=>Bi q
theorem o5 {x1} (h:PA X es (tA K EX .V mr)):PE X (.Tuple es x1 pos) (tM K EX .F (t6 mr)):=(yx h).mono fun _ _ _ q=>CD q
theorem w6 (h:PA X es (tA K EX .V mr)):PE X (.List es pos) (tM K EX .F (z8 mr)):=(yA h).mono fun _ _ _ q=>CI q
theorem e8 (ha:PE X a (tM K EX .B ma)) (hb:PE X c (tM K EX .B mb)) (hs:dE c:=by exact fun _ _=>rfl) (hK:X.K=K:=by rfl):PE X (.Subscript a c pos) (tM K EX .U (b2 fIx ma mb)):=by
 subst hK; exact (rR nt ha hb hs).mono fun _ _ _ q=>ii yJ q
theorem W7 (ha:PE X a (tM K EX .C ma)) (hb:PE X c (tM K EX .C mb)) (hs:dE c:=by exact fun _ _=>rfl) (hK:X.K=K:=by rfl):PE X (.Subscript a c pos) (tM K EX .V (b2 fIx ma mb)):=by
 subst hK; exact (rR nt ha hb hs).mono fun _ _ _ q=>ii yI q
theorem q_pN:PO X none (Z4 K EX pN):=po_none.mono fun _ _ _ q=>rg q
theorem q_pS (h:PE X e (tM K EX .B ma)):PO X (some e) (Z4 K EX (pS ma)):=(iW h).mono fun _ _ _ q=>Bb q
theorem q_sl (k:Bool) {lo hi:Option Expr} {p2:Pos} {ml mh:Rho->R (Option Int)} (he:PE X e (tM K EX (cb k) ma)) (hl:PO X lo (Z4 K EX ml)) (hu:PO X hi (Z4 K EX mh)) (hK:X.K=K:=by rfl):PE X (.Subscript e (.Slice lo hi none p2) pos) (tM K EX .F (vSl k ma ml mh)):=by
 subst hK; exact (fX tz he hl hu).mono fun _ _ _ q=>c_sl q
theorem j8 {x:Str} {id:String} {r:List V->Hp->VK->Prop} {f:List W->R W} {p:Pos} (hc:D7 X (.builtin id) r) (hr:Cal K b d r f) (hg:Gl X x) (hm:X.mg x=none) (hv:bootBuiltins x=some (.builtin id)) (ha:PA X (e::es) (tA K EX b mr))
  (hn:x ≠ "__name__" := by decide) (hdb:(x == ("__debug__" : Str))=false:=by decide) (he:starEach (e::es) X.env=(false,eval e X.env)::starEach es X.env:=by rfl) (hpl:(backTo pos (starEach es X.env)).any (·.1)=false:=by rfl) :
  PE X (.Call (.Name x p) (e::es) [] pos) (tM K EX d (bA f mr)):=(pP hc hg hm hv ha hn hdb he hpl).mono fun _ _ _ q=>Bj hr q
theorem K9 {x:Str} {T:String} {r:List V->Hp->VK->Prop} {f:List W->R W} {p:Pos} (hc:D7 X (.type T) r) (hr:Cal K b d r f) (hg:Gl X x) (hm:X.mg x=none) (hv:bootBuiltins x=some (.type T)) (ha:PA X (e::es) (tA K EX b mr))
  (hn:x ≠ "__name__" := by decide) (hdb:(x == ("__debug__" : Str))=false:=by decide) (he:starEach (e::es) X.env=(false,eval e X.env)::starEach es X.env:=by rfl) (hpl:(backTo pos (starEach es X.env)).any (·.1)=false:=by rfl) :
  PE X (.Call (.Name x p) (e::es) [] pos) (tM K EX d (bA f mr)):=(mJ hc hg hm hv ha hn hdb he hpl).mono fun _ _ _ q=>Bj hr q
theorem p8 (hK:X.K=K:=by rfl):D7 X (.builtin "len") (fun xs H Q=>∃ p ys,xs = [.ref p]/\(SqL K H p ys\/SqT K H p ys)/\Q (.int ys.length) H):=by subst hK; exact ig
theorem oz (hK:X.K=K:=by rfl):D7 X (.type "list") (fun xs H Q=>∃ p ys,xs = [.ref p]/\(SqL K H p ys\/SqT K H p ys)/\∀ l,H l=none->Q (.ref l) (upd H l (.lst ys))):=by subst hK; exact ie
theorem K7 (hK:X.K=K:=by rfl):D7 X (.type "tuple") (fun xs H Q=>∃ p ys,xs = [.ref p]/\((SqL K H p ys/\∀ l,H l=none->Q (.ref l) (upd H l (.tup ys)))\/(SqT K H p ys/\Q (.ref p) H))):=by subst hK; exact eN
theorem mB {k:Nat} {f:Addr} {fd:FuncData} {ps:List Str} {x:Str} {p:Pos} {n N:Nat} {m:Rho->R Fl} (F:FnOk X.prog X.w X.K X.mg X.base CX0 k f fd ps (spM K n d (f7 n N m))) (hd:d=.F\/d=.V) (hr:Room k X.A) (hg:Gl X x) (hm:X.mg x=some (.ref f)) (hk:PySem.W.keepIn X.K (.ref f)=true) (hb:Binds X.K fd ps [])
  (ha:PA X (e::es) (tA K (fun _ _=>False) .B mr)) (hdb:(x == ("__debug__" : Str))=false:=by decide) (he:starEach (e::es) X.env=(false,eval e X.env)::starEach es X.env:=by rfl) (hpl:(backTo pos (starEach es X.env)).any (·.1)=false:=by rfl) :
  PE X (.Call (.Name x p) (e::es) [] pos) (tM K (fun _ _=>False) d (bA (f7 n N m) mr)):=
 (cY F hr hg hm hk hb .nil kh ha hdb he hpl).mono fun _ _ _ q=>Bl hd (fun ws h=>fH ws h) (fun _ _ z=>z) q
variable {tg:Expr} {lp:Bool}
theorem rQ (h:PE X e (tM K EX (cR lp .U) ma)) (hK:X.K=K:=by rfl):PI X tg e (tIt K EX lp .U (bS ma)):=by subst hK; exact (BX h).mono fun _ _ _ q=>CK (.inr rfl) q
theorem D9 {p:Pos} (hg:Gl X "range") (hm:X.mg "range" = none) (ha:PA X [a] (tA K EX .B mr)) (hs:starEach [a] X.env = [(false,eval a X.env)]:=by rfl):PI X tg (.Call (.Name "range" p) [a] [] pos) (tIt K EX lp .U (bI J8 mr)):=
 (mH hg hm ha hs).mono fun _ _ _ q=>Ba (.inr rfl) q
theorem rO {elts:List Expr} {p tp:Pos} {k:Nat} (hg:Gl X "zip") (hm:X.mg "zip" = none) (ha:PA X (a::es) (tA K EX (cR lp .U) mr)) (hK:X.K=K:=by rfl) (hs:starEach (a::es) X.env=(false,eval a X.env)::starEach es X.env:=by rfl) (hpl:(backTo pos (starEach es X.env)).any (·.1)=false:=by rfl) :
  PI X (.Tuple elts k tp) (.Call (.Name "zip" p) (a::es) [] pos) (tIt K EX lp .U (bI F9 mr)):=by subst hK; exact (yt hg hm ha hs hpl).mono fun _ _ _ q=>CA (.inr rfl) q
end
section
variable {X:Cx} {K:Frag} {EX:EXT} {d b:Mode} {e:Expr} {st:Stmt} {sts:List Stmt} {pos:Pos} {ma mb:Rho->R W} {ta:Rho->R Bool} {m n:Rho->R Fl}
theorem u6 {cs:Scope} {N':List Str} {tg iter elt:Expr} {ifs:List Expr} {dd:Mode} {g:TG} {mg:W->Rho->Option Rho} {mi:Rho->R (List W)} (S:g6 X.env.scope cs X.N N') (hc:X.calm=true) (hi:PI X tg iter (tIt K EX false dd mi))
  (hg:∀ cl ex s H,PG (i8 X cs cl N' ex s H) tg g) (hgt:Gt K dd g mg) (hk:S8 X.N.length g) (ht:∀ cl ex s H,PIf (i8 X cs cl N' ex s H) ifs (tT K EX ta)) (he:∀ cl ex s H,PE (i8 X cs cl N' ex s H) elt (tM K EX .V ma))
  (hs:∀ x,foldedSetIterable iter X.env x=pure x:=by intro _; rfl):PE X (.ListComp elt [⟨tg,iter,ifs,0⟩] cs pos) (tM K EX .F (r9 N'.length mi mg ta ma)):=
 (ur S hc hi hg hk ht he hs).mono fun _ _ _ q=>oa hgt q
theorem xY {i:Nat} {y:Str} {py:Pos} {cs:Scope} {N':List Str} {tg iter elt:Expr} {ifs:List Expr} {dd:Mode} {g:TG} {mg:W->Rho->Option Rho} {mi:Rho->R (List W)} {cpos:Pos} (S:g6 X.env.scope cs X.N N') (hc:X.calm=true) (hi:PI X tg iter (tIt K EX false dd mi))
  (hg:∀ cl ex s H,PG (i8 X cs cl N' ex s H) tg g) (hgt:Gt K dd g mg) (hk:S8 X.N.length g) (ht:∀ cl ex s H,PIf (i8 X cs cl N' ex s H) ifs (tT K EX ta)) (he:∀ cl ex s H,PE (i8 X cs cl N' ex s H) elt (tM K EX .V ma))
  (hN:X.N.Nodup) (hy:X.N[i]?=some y) (hl:Loc X.env.scope y)
  (hsw:swapsWith (.ListComp elt [⟨tg,iter,ifs,0⟩] cs cpos) (some (.Name y py)) pos.line X.env=pure true:=by rfl) (hf:X.fn y=true\/X.env.scope.names.lookup y=some .local:=by first | exact .inl rfl | exact .inr rfl | assumption)
  (hs:∀ x,foldedSetIterable iter X.env x=pure x:=by intro _; rfl):PS X (.Assign [.Name y py] (.ListComp elt [⟨tg,iter,ifs,0⟩] cs cpos) pos) (tSt K EX d (sF i (r9 N'.length mi mg ta ma))):=
 (uj S hc hi hg hk ht he hN hy hl hsw hf hs).mono fun D σ H q=>by
  have:=nY (m:=r9 N'.length mi mg ta ma) q
  exact oa hgt this
theorem z7:PIf X [] (tT K EX yes):=fun pins s σ H Q I q=>uo pins s σ H Q I (by obtain ⟨H0,G,ρ,I0,o⟩:=q; exact o true G H (Ext.refl I0.gh) rfl)
theorem fQ {c:Expr} (h:PT X c (tT K EX ta)):PIf X [c] (tT K EX ta):=um h
theorem h9:PSs X [] (tSt K EX d sNx):=pss_nil.mono fun _ _ _ q=>Bd q
theorem c6 (h1:PS X st (tSt K EX d m)) (h2:PSs X sts (tSt K EX d n)):PSs X (st::sts) (tSt K EX d (c8 m n)):=(fS h1 h2).mono fun _ _ _ q=>CF q
theorem b8 (h1:PS X st (tSt K EX d m)):PSs X [st] (tSt K EX d m):=cW h1
theorem O5 {i:Nat} (h:PS X st (tSt K EX d m)):PS X st (tSt K EX d (Q0 i m)):=h.mono fun _ _ _ q=>CL q
theorem yg:PS X (.Continue pos) (tSt K EX d sCt):=ps_continue.mono fun _ _ _ q=>Bh q
theorem ue:PS X st (tSt K EX d lV):=ps_never.mono fun _ _ _ q=>wa q
theorem d9 (he:PE X e (tM K EX d ma)):PS X (.Return (some e) pos) (tSt K EX d (f8 ma)):=(mD he).mono fun _ _ _ q=>sw q
theorem Z8 (i:Nat) {x:Str} {p:Pos} (hd:d=.F\/d=.V) (hN:X.N[i]?=some x:=by rfl) (hv:Vis X.env.scope x:=by first | exact Or.inl rfl | exact Or.inr (Or.inl rfl) | exact Or.inr (Or.inr rfl)) (hdd:(x == ("__debug__" : Str))=false:=by decide)
  (hcd:(x == ("__classdict__" : Str))=false:=by decide):PS X (.Return (some (.Name x p)) pos) (tSt K EX d (D0 d i)):=(mD (M9 hN hv hdd hcd)).mono fun _ _ _ q=>rf hd q
theorem l5 {i:Nat} {x:Str} {pos':Pos} (hN:X.N.Nodup) (hi:X.N[i]?=some x) (hx:Loc X.env.scope x) (he:PE X e (tM K EX .V ma)) (hs:swapsWith e (some (.Name x pos')) pos.line X.env=pure false:=by rfl) (hf:X.fn x=true\/X.env.scope.names.lookup x=some .local:=by first | exact .inl rfl | exact .inr rfl | assumption) :
  PS X (.Assign [.Name x pos'] e pos) (tSt K EX d (sV i ma)):=(U3 hN hi hx he hs hf).mono fun _ _ _ q=>AX q
theorem xZ {i:Nat} {x:Str} {pos':Pos} (hN:X.N.Nodup) (hi:X.N[i]?=some x) (hx:Loc X.env.scope x) (he:PE X e (tM K EX .U ma)) (hs:swapsWith e (some (.Name x pos')) pos.line X.env=pure false:=by rfl) (hf:X.fn x=true\/X.env.scope.names.lookup x=some .local:=by first | exact .inl rfl | exact .inr rfl | assumption) :
  PS X (.Assign [.Name x pos'] e pos) (tSt K EX d (sU i ma)):=(U3 hN hi hx he hs hf).mono fun _ _ _ q=>AY q
theorem l6 {i:Nat} {x:Str} {pos':Pos} (hN:X.N.Nodup) (hi:X.N[i]?=some x) (hx:Loc X.env.scope x) (he:PE X e (tM K EX .F ma)) (hs:swapsWith e (some (.Name x pos')) pos.line X.env=pure false:=by rfl) (hf:X.fn x=true\/X.env.scope.names.lookup x=some .local:=by first | exact .inl rfl | exact .inr rfl | assumption) :
  PS X (.Assign [.Name x pos'] e pos) (tSt K EX d (sF i ma)):=(U3 hN hi hx he hs hf).mono fun _ _ _ q=>nY q
theorem BQ {tg:Expr} {g:TG} {mg:W->Rho->Option Rho} (he:PE X e (tM K EX b ma)) (hg:PG X tg g) (hgt:Gt K b g mg) (hs:swapsWithSole [tg] e pos.line X.env=pure false:=by rfl) (hw:swappedStores [tg] e X.env=pure none:=by rfl) (h1:(assignEach [tg] X.env).map (·.2) = [assign tg X.env]:=by rfl):PS X (.Assign [tg] e pos) (tSt K EX d (sG mg ma)):=
 (yo he hg hs hw h1).mono fun _ _ _ q=>CQ hgt q
theorem O6 {i:Nat} {x:Str} {p apos cpos:Pos} (hN:X.N[i]?=some x) (hv:Vis X.env.scope x) (ha:PE X e (tM K EX .V ma)) (hd:(x == ("__debug__" : Str))=false:=by decide) (hcd:(x == ("__classdict__" : Str))=false:=by decide)
  (hbase:attributeBase (.Name x p) "append" X.env (eval (.Name x p) X.env)=eval (.Name x p) X.env:=by rfl)
  (hfew:((backTo cpos (starEach [e] X.env)).all (fun x=>!x.1)&&(backToKw cpos (keywordEach [] X.env)).all (fun x=>x.1.isSome)
   && decide (([e]:List Expr).length+([]:List Keyword).length+(if ([]:List Keyword).isEmpty then 0 else 1)<30))=true:=by rfl)
  (hline:(apos.endLine == cpos.line)=true:=by rfl) (hs:starEach [e] X.env=(false,eval e X.env)::starEach [] X.env:=by rfl) (hsw:swapsWith (.Call (.Attribute (.Name x p) "append" apos) [e] [] cpos) none pos.line X.env=pure false:=by rfl) :
  PS X (.Expr (.Call (.Attribute (.Name x p) "append" apos) [e] [] cpos) pos) (tSt K EX d (L3 i ma)):=(cX (dL (M9 hN hv hd hcd) ha hbase hfew hline hs) hsw).mono fun _ _ _ q=>CS q
theorem i5 {c:Expr} {x y:List Stmt} (hc:PT X c (tT K EX ta)) (ha:PSs X x (tSt K EX d m)) (hb:PSs X y (tSt K EX d n)):PS X (.If c x y pos) (tSt K EX d (mIf ta m n)):=(BS hc ha hb).mono fun _ _ _ q=>CJ q
theorem aF {c:Expr} {body:List Stmt} (hp:PassesOwn (model X.prog X.w) X.A X.env X.xe) (hc:PT X c (tT K EX ta)) (hb:PSs X body (tSt K EX d m)):PS X (.While c body [] pos) (tSt K EX d (F7 ta m)):=(pJ hp hc hb).mono fun _ _ _ q=>vZ q
theorem w8 {tg iter:Expr} {body:List Stmt} {dd:Mode} {g:TG} {mg:W->Rho->Option Rho} {mi:Rho->R (List W)} (hp:PassesOwn (model X.prog X.w) X.A X.env X.xe) (hc:X.calm=true) (hi:PI X tg iter (tIt K EX true dd mi)) (hg:PG X tg g) (hgt:Gt K dd g mg) (hb:PSs X body (tSt K EX d m))
  (hs:∀ x,foldedSetIterable iter X.env x=pure x:=by intro _; rfl):PS X (.For tg iter body [] pos) (tSt K EX d (B0 mi mg m)):=(mE hp hc hi hg hb hs).mono fun _ _ _ q=>CM hgt q
theorem BP {i:Nat} {x:Str} {op:Operator} {f:Int->Int->Int} {pos':Pos} (hN:X.N.Nodup) (hi:X.N[i]?=some x) (hx:Loc X.env.scope x) (he:PE X e (tM K EX .B ma)) (ho:PIp X op (ipI f)) (hf:X.fn x=true\/X.env.scope.names.lookup x=some .local:=by first | exact .inl rfl | exact .inr rfl | assumption) :
  PS X (.AugAssign (.Name x pos') op e pos) (tSt K EX d (gL i f ma)):=(yn hN hi hx he ho hf).mono fun _ _ _ q=>CP q
end
end TP
namespace TP
open PySem L2
abbrev gLt (i j:Int):W:=.bl (decide (i<j))
abbrev gLe (i j:Int):W:=.bl (decide (i<=j))
abbrev gGt (i j:Int):W:=.bl (decide (j<i))
abbrev gGe (i j:Int):W:=.bl (decide (j<=i))
abbrev v5 (i j:Int):W:=.int (i+j)
abbrev gSub (i j:Int):W:=.int (i-j)
abbrev t9 (i j:Int):W:=.int (i*j)
abbrev m5 (i j:Int):W:=.int (i%j)
abbrev G7 (i j:Int):W:=.int (i/j)
abbrev qJ (i j:Int):W:=.int (i^j.toNat)
abbrev gZ (i:Int):W:=.int (-i)
abbrev T8 (i j:Int):Int:=if j>i then j else i
abbrev zQ (i j:Int):Int:=if j<i then j else i
abbrev sh (i j:Int):Int:=i+j
abbrev Cn (i j:Int):Int:=i-j
abbrev l4 (_ j:Int):Prop:=0<j
instance (i j:Int):Decidable (CMul i j):=by unfold CMul; infer_instance
instance (i j:Int):Decidable (B8 i j):=by unfold B8; infer_instance
instance (i j:Int):Decidable (bC i j):=by unfold bC; infer_instance
instance (i j:Int):Decidable (sM i j):=by unfold sM; infer_instance
def vOf:W->Option V
 | .non=>some .non
 | .bl b=>some (.bl b)
 | .int i=>some (.int i)
 | .str x=>some (.str x)
 | _=>none
def qT (u v:W):Option Bool:=match vOf u,vOf v with
 | some x,some y=>if fE x y then some (decide (x=y)) else none
 | _,_=>none
def o9 (neg:Bool) (u v:W):R W:=match qT u v with
 | some b=>.ok (.bl (if neg then !b else b))
 | none=>.stuck
section
variable {K:Frag} {H0 G H:Hp} {ρ:Rho} {σ:St} {d:Mode}
theorem eO {Ha:Hp} {v:V} {w:W} {x:V} (h:Md K H0 Ha G H v w .B) (e:vOf w=some x):v=x:=by
 cases w <;> first | cases e | skip
 ·exact h.nonB
 ·exact h.blB
 ·exact h.intB
 ·exact h.strB
theorem J9:Op2 K .B d rEq (o9 false):=by
 intro EX H0 Hs G H ρ σ Ha Hb x y u v Q I s mx my o
 unfold o9 qT at o
 cases hu:vOf u with
 | none=>rw [hu] at o; exact o.elim
 | some p=>
  cases hv:vOf v with
  | none=>rw [hu,hv] at o; exact o.elim
  | some q=>
   rw [hu,hv] at o
   cases eO mx hu
   cases eO my hv
   dsimp only at o
   by_cases c:fE x y=true
   ·rw [if_pos c] at o
    exact ⟨c,o _ G H (Ext.refl I.gh) (Md.sca rfl (fun _=>.bl) d)⟩
   ·rw [if_neg c] at o; exact o.elim
theorem gm:Op2 K .B d rNe (o9 true):=by
 intro EX H0 Hs G H ρ σ Ha Hb x y u v Q I s mx my o
 unfold o9 qT at o
 cases hu:vOf u with
 | none=>rw [hu] at o; exact o.elim
 | some p=>
  cases hv:vOf v with
  | none=>rw [hu,hv] at o; exact o.elim
  | some q=>
   rw [hu,hv] at o
   cases eO mx hu
   cases eO my hv
   dsimp only at o
   by_cases c:fE x y=true
   ·rw [if_pos c] at o
    exact ⟨c,o _ G H (Ext.refl I.gh) (Md.sca rfl (fun _=>.bl) d)⟩
   ·rw [if_neg c] at o; exact o.elim
end
end TP
namespace TP
open PySem L2
mutual
def pd:W->PyData
 | .non=>.none
 | .bl b=>.bool b
 | .int i=>.int i
 | .str x=>.str x
 | .ty _=>.none
 | .exc _ _=>.none
 | .cls _=>.none
 | .tup ws=>.tuple (pds ws)
 | .lst ws=>.list (pds ws)
 | .scr ws=>.list (pds ws)
def pds:List W->List PyData
 | []=>[]
 | w::ws=>pd w::pds ws
end
mutual
def shp:Nat->W->Bool
 | _,.non=>true
 | _,.bl _=>true
 | _,.int _=>true
 | _,.str x=>PyData.strOk x
 | n+1,.tup ws=>N2 n ws
 | n+1,.lst ws=>N2 n ws
 | n+1,.scr ws=>N2 n ws
 | _,_=>false
def N2:Nat->List W->Bool
 | _,[]=>true
 | n,w::ws=>shp n w&&N2 n ws
end
theorem bK:∀ (w:W) (n:Nat),shp n w=true->(pd w).canLay0=true/\(pd w).depth<=n:=by
 intro w
 have tl:∀ (ws:List W) (c:List PyData->PyData),(∀ l,(c l).canLay0=PyData.canLayAll0 l)->(∀ l,(c l).depth=PyData.depthAll l+1)->(∀ n:Nat,N2 n ws=true->PyData.canLayAll0 (pds ws)=true/\PyData.depthAll (pds ws)<=n)->∀ n:Nat,(match n with | 0=>false | n+1=>N2 n ws)=true->(c (pds ws)).canLay0=true/\(c (pds ws)).depth<=n:=fun ws c h1 h2 ih n h=>by
  cases n with
  | zero=>cases h
  | succ n=>have:=ih n h; exact ⟨by rw [h1]; exact this.1,by rw [h2]; exact Nat.succ_le_succ this.2⟩
 have fl:∀ {n:Nat} {w:W} {P:Prop},shp n w=false->shp n w=true->P:=fun h1 h2=>by rw [h1] at h2; cases h2
 induction w using W.rec (motive_2:=fun ws=>∀ n:Nat,N2 n ws=true->PyData.canLayAll0 (pds ws)=true/\PyData.depthAll (pds ws)<=n) with
 | non=>exact fun n _=>⟨rfl,Nat.zero_le _⟩
 | bl b=>exact fun n _=>⟨rfl,Nat.zero_le _⟩
 | int i=>exact fun n _=>⟨rfl,Nat.zero_le _⟩
 | str x=>exact fun n h=>⟨by cases n <;> exact h,Nat.zero_le _⟩
 | ty a=>exact fun n h=>fl (by cases n <;> rfl) h
 | exc a b=>exact fun n h=>fl (by cases n <;> rfl) h
 | cls a=>exact fun n h=>fl (by cases n <;> rfl) h
 | tup ws ih=>exact fun n h=>tl ws .tuple (fun _=>rfl) (fun _=>rfl) ih n (by cases n <;> exact h)
 | lst ws ih=>exact fun n h=>tl ws .list (fun _=>rfl) (fun _=>rfl) ih n (by cases n <;> exact h)
 | scr ws ih=>exact fun n h=>tl ws .list (fun _=>rfl) (fun _=>rfl) ih n (by cases n <;> exact h)
 | nil=>exact ⟨rfl,Nat.zero_le _⟩
 | cons w ws h1 h2=>
  rename_i n h
  have h':shp n w=true/\N2 n ws=true:=(Bool.and_eq_true _ _).mp h
  have a:=h1 n h'.1
  have b:=h2 n h'.2
  exact ⟨by show (PyData.canLay0 _&&PyData.canLayAll0 _)=true; rw [a.1,b.1]; rfl,Nat.max_le.mpr ⟨a.2,b.2⟩⟩
theorem iP (ws:List W) (n:Nat) (h:N2 n ws=true):PyData.canLayAll0 (pds ws)=true/\PyData.depthAll (pds ws)<=n:=by
 have:=bK (.tup ws) (n+1) h
 exact ⟨this.1,Nat.le_of_succ_le_succ this.2⟩
section
variable {X:Cx} {pins:List (Addr×Obj)} {σ:St} {H:Hp} {s:Shared}
theorem Rep.reads (I:Inv X pins σ H s) {x:V} {w:W} {u:Value} (n:Nat) (r:Rep X.K H x w):shp n w=true->RelV x u->∃ as,Reads s.heap u (pd w) as:=by
 have fl:∀ {n:Nat} {w:W} {P:Prop},shp n w=false->shp n w=true->P:=fun h1 h2=>by rw [h1] at h2; cases h2
 induction r using Rep.rec (motive_2:=fun xs ws _=>∀ (us:List Value) (n:Nat),N2 n ws=true->Vals xs us->∃ as,ReadsAll s.heap us (pds ws) as) generalizing u n with
 | non=>intro _ r; cases r; exact ⟨_,.none⟩
 | bl=>intro _ r; cases r; exact ⟨_,.bool _⟩
 | int=>intro _ r; obtain ⟨t,rfl⟩:=r; exact ⟨_,.int _ _⟩
 | str=>intro _ r; obtain ⟨t,rfl⟩:=r; exact ⟨_,.str _ _⟩
 | ty=>exact fun h _=>fl (by cases n <;> rfl) h
 | exc=>exact fun h _=>fl (by cases n <;> rfl) h
 | cls=>exact fun h _=>fl (by cases n <;> rfl) h
 | tup ha _ ih=>
  intro h r
  cases r
  cases n with
  | zero=>cases h
  | succ n=>
   obtain ⟨its,rv,⟨o,e,c,k,dd⟩,_⟩:=I.tuple (SqT.of ha)
   obtain ⟨as,q⟩:=ih _ n h rv
   exact ⟨_,.tuple e c dd (by simpa using q)⟩
 | lst ha _ ih=>
  intro h r
  cases r
  cases n with
  | zero=>cases h
  | succ n=>
   obtain ⟨its,rv,pl,_⟩:=I.list (SqL.of ha)
   obtain ⟨o,e,c,k,dd⟩:=pl.isList
   obtain ⟨as,q⟩:=ih _ n h rv
   exact ⟨_,.list e c dd (by simpa using q)⟩
 | scr ha _ ih=>
  intro h r
  cases r
  cases n with
  | zero=>cases h
  | succ n=>
   obtain ⟨its,rv,pl,_⟩:=I.list ha
   obtain ⟨o,e,c,k,dd⟩:=pl.isList
   obtain ⟨as,q⟩:=ih _ n h rv
   exact ⟨_,.list e c dd (by simpa using q)⟩
 | nil=>rename_i us n _ r; cases r; exact ⟨_,.nil⟩
 | cons _ _ h1 h2=>
  rename_i us n h r
  cases r with
  | cons r1 r2=>
   have h':=(Bool.and_eq_true _ _).mp h
   obtain ⟨as,q1⟩:=h1 n h'.1 r1
   obtain ⟨bs,q2⟩:=h2 _ n h'.2 r2
   exact ⟨_,.cons q1 q2⟩
def eqW (u v:W):Bool:=PyData.eqv (pd u) (pd v)
def xV (K:Frag) (neg:Bool):R2:=fun x y H Q=>∃ u v,Rep K H x u/\Rep K H y v/\shp 8 u=true/\shp 8 v=true/\Q (.bl (if neg then !eqW u v else eqW u v)) H
theorem dH {w:W} (h:shp 8 w=true):SeqAt.shaped (pd w)=true:=by
 obtain ⟨a,b⟩:=bK w 8 h
 unfold SeqAt.shaped
 rw [a,Bool.true_and]
 exact decide_eq_true (Nat.le_trans b (by decide))
theorem bT (hu:X.A.units+64<cLine):OpR X (compareOp .Eq) (xV X.K false):=by
 intro pins s σ H x y v u Q I rx ry h
 obtain ⟨a,b,ra,rb,sa,sb,q⟩:=h
 obtain ⟨as,qa⟩:=Rep.reads I 8 ra sa rx
 obtain ⟨bs,qb⟩:=Rep.reads I 8 rb sb ry
 exact PyProof.Rows.eq_dataH qa qb (dH sa) (dH sb) hu ⟨.bl (eqW a b),H,I,rfl,q⟩
def fEq (neg:Bool) (u v:W):R W:=if shp 8 u&&shp 8 v then .ok (.bl (if neg then !eqW u v else eqW u v)) else .stuck
theorem bX {K:Frag} {d:Mode} {neg:Bool}:Op2 K .B d (xV K neg) (fEq neg):=by
 intro EX H0 Hs G H ρ σ Ha Hb x y u v Q I s mx my o
 unfold fEq at o
 by_cases c:(shp 8 u&&shp 8 v)=true
 ·rw [if_pos c] at o
  have c':shp 8 u=true/\shp 8 v=true:=by simpa using c
  exact ⟨u,v,mx.whole I,my.whole I,c'.1,c'.2,o _ G H (Ext.refl I.gh) (Md.sca rfl (fun _=>.bl) d)⟩
 ·rw [if_neg c] at o; exact o.elim
def T7:W->Bool->Bool
 | .bl a,b=>a == b
 | _,_=>false
def fIsB (neg:Bool):W->W->R W
 | u,.bl b=>.ok (.bl (if neg then !T7 u b else T7 u b))
 | _,_=>.stuck
end
theorem X4 {A:Around} {k:Nat} (hr:Room k A):A.units+64<cLine:=hr.units
end TP
namespace TP
open PySem L2
section
variable {X:Cx} {pins:List (Addr×Obj)} {σ:St} {H:Hp} {s:Shared}
theorem V8 {x:V} {us:List Value} (r:Vals [x] us):∃ u,us = [u]/\RelV x u:=by
 cases r with
 | cons a t=>cases t; exact ⟨_,rfl,a⟩
theorem nr {h':Heap} {o:Obj} (hk:∀ b u,b ∉ [s.heap.objs.size]->(s.heap.push o).get? b=some u->h'.get? b=some u):∀ b u,s.heap.get? b=some u->h'.get? b=some u:=fun b u e=>
 hk b u (by simp; exact Nat.ne_of_lt (Heap.lt_size e)) (Heap.get?_push_of_some _ e)
theorem wB {α:Type} {f:α->V} {g:α->Value->Prop} (hg:∀ a u,RelV (f a) u->g a u) {as:List α} {its:List Value} (r:Vals (as.map f) its) {i:Nat} {v:Value} (h:its.toArray[i]?=some v):∃ a,as[i]?=some a/\g a v:=by
 have h':its[i]?=some v:=by simpa using h
 induction as generalizing its i with
 | nil=>cases r; simp at h'
 | cons a as ih=>
  cases r with
  | cons q t=>
   cases i with
   | zero=>simp at h'; subst h'; exact ⟨a,rfl,hg _ _ q⟩
   | succ i=>simpa using ih t (i:=i) (by simpa using h') (by simpa using h')
theorem lh {p:Addr} {xs:List V} (I:Inv X pins σ H s) (hc:X.calm=true) (hp:H p=some (.lst xs)):∃ its:List Value,Vals xs its/\s.heap.IsList p its.toArray/\xs.length=its.toArray.size/\p≠s.heap.objs.size /\
  Walks X.prog X.w X.A.in1 s.heap.objs.size [s.heap.objs.size,p] [s.heap.objs.size] its.toArray.size (fun i v=>its.toArray[i]?=some v) (fun i h=>h.IsListIter s.heap.objs.size p i/\h.IsList p its.toArray):=by
 obtain ⟨its,rv,pl,hz⟩:=I.list (SqL.of hp)
 obtain ⟨o,e,_⟩:=pl.isList
 have hne:p≠s.heap.objs.size:=Nat.ne_of_lt (Heap.lt_size e)
 exact ⟨its,rv,pl.isList,by rw [List.size_toArray]; exact rv.length,hne,Walks.list (show X.A.in1.handled=none from I.ok.hd hc) _ p hne _⟩
theorem all_range {bs:List Bool}:(List.range bs.length).all (fun i=>bs.getD i false)=bs.all id:=by
 rw [Bool.eq_iff_iff,List.all_eq_true,List.all_eq_true]
 constructor
 ·intro h x hx
  obtain ⟨i,hi,e⟩:=List.mem_iff_getElem.mp hx
  have:=h i (by simpa using hi)
  rw [List.getD_eq_getElem?_getD] at this
  simpa [hi,e] using this
 ·intro h i hi
  have hi:i<bs.length:=by simpa using hi
  rw [List.getD_eq_getElem?_getD]
  simpa [hi] using h bs[i] (List.getElem_mem hi)
theorem oK {A:Around} {bs:List Bool} {its:List Value} (rv:Vals (bs.map V.bl) its):TruthOf X.prog X.w A (fun i v=>its.toArray[i]?=some v) (fun i=>bs.getD i false):=fun i v s' Q' E hv hq=>by
 obtain ⟨b,hb,e⟩:=wB (f:=V.bl) (g:=fun b u=>u=.bool b) (fun b u r=>r) rv hv
 subst e
 have:bs.getD i false=b:=by rw [List.getD_eq_getElem?_getD,hb]; rfl
 have hq':Q' (bs.getD i false) s':=hq
 rw [this] at hq'
 exact wpAny_truthy_bool hq'
theorem eC (hc:X.calm=true):D7 X (.builtin "all") (fun xs H Q=>∃ (p:Addr) (bs:List Bool),xs = [.ref p]/\H p=some (.lst (bs.map V.bl))/\Q (.bl (bs.all id)) H):=by
 intro pins s σ H xs us Q I r h
 obtain ⟨p,bs,rfl,hp,q⟩:=h
 obtain ⟨u,rfl,rx⟩:=V8 r
 cases rx
 obtain ⟨its,rv,hl,hlen,hne,Wk⟩:=lh I hc hp
 rw [List.length_map] at hlen
 refine call_all_walk (wpAny_pyIter_list hl ⟨_,_,_,_,_,_,_,rfl,Wk,⟨⟨_,Heap.get?_push_size _ rfl,rfl,rfl⟩,hl.push _⟩,oK rv,fun h' tk hk=>?_⟩)
 rw [<- hlen,all_range]
 exact ⟨.bl (bs.all id),H,I.kept (t':=tk) (nr hk),rfl,q⟩
def R5:List W->Option (List Bool)
 | []=>some []
 | .bl b::ws=>(R5 ws).map (b::·)
 | _=>none
theorem wj (bs:List Bool):R5 (bs.map W.bl)=some bs:=by
 induction bs with
 | nil=>rfl
 | cons b bs ih=>rw [List.map_cons,R5,ih]; rfl
theorem Reps.bls {K:Frag} {F:Hp} {vs:List V} {ws:List W} {bs:List Bool} (r:Reps K F vs ws):R5 ws=some bs->vs=bs.map V.bl:=
 Reps.ind (P:=fun vs ws=>∀ bs,R5 ws=some bs->vs=bs.map V.bl) (fun bs h=>by cases h; rfl) (fun {v w vs ws} r _ ih bs h=>by
  cases w <;> first | cases h | skip
  rename_i b
  have e:v=.bl b:=r.inv
  subst e
  have h':(R5 ws).map (b::·)=some bs:=h
  cases q:R5 ws with
  | none=>rw [q] at h'; cases h'
  | some cs=>rw [q] at h'; cases h'; rw [ih cs q]; rfl) r bs
def cE (g:List Bool->Bool):List W->R W
 | [.lst ws]=>toR (R5 ws)>>=fun bs=>.ok (.bl (g bs))
 | _=>.stuck
theorem jG {K:Frag} {d:Mode} {g:List Bool->Bool}:Cal K .B d (fun xs H Q=>∃ (p:Addr) (bs:List Bool),xs = [.ref p]/\H p=some (.lst (bs.map V.bl))/\Q (.bl (g bs)) H) (cE g):=by
 intro EX H0 Hs G H ρ σ Ha vs ws Q I s m o
 cases m with
 | nil=>exact o.elim
 | @cons w v ws2 vs2 a t=>
  cases t with
  | cons _ _=>first | exact o.elim | (cases w <;> exact o.elim)
  | nil=>
   cases w <;> first | exact o.elim | skip
   rename_i ws
   obtain ⟨p,ys,rfl,hs,r⟩:=a.lstB I
   replace o:Out EX G H (mdW K d H0 Hs) (toR (R5 ws)>>=fun bs=>.ok (.bl (g bs))) Q:=o
   cases q:R5 ws with
   | none=>rw [q] at o; exact o.elim
   | some bs=>
    rw [q] at o
    rw [Reps.bls r q] at hs
    exact ⟨p,bs,rfl,hs,o _ G H (Ext.refl I.gh) (Md.sca rfl (fun _=>.bl) d)⟩
def br (bs:List Bool):Bool:=bs.all id
end
theorem oh:bootBuiltins "all" = some (.builtin "all"):=by decide +kernel
section
variable {X:Cx} {K:Frag} {d:Mode}
def t5:List W->Option (List Int)
 | []=>some []
 | .int b::ws=>(t5 ws).map (b::·)
 | _=>none
theorem ints_map (bs:List Int):t5 (bs.map W.int)=some bs:=by
 induction bs with
 | nil=>rfl
 | cons b bs ih=>rw [List.map_cons,t5,ih]; rfl
theorem Reps.ints {F:Hp} {vs:List V} {ws:List W} {bs:List Int} (r:Reps K F vs ws):t5 ws=some bs->vs=bs.map V.int:=
 Reps.ind (P:=fun vs ws=>∀ bs,t5 ws=some bs->vs=bs.map V.int) (fun bs h=>by cases h; rfl) (fun {v w vs ws} r _ ih bs h=>by
  cases w <;> first | cases h | skip
  rename_i b
  have e:v=.int b:=r.inv
  subst e
  have h':(t5 ws).map (b::·)=some bs:=h
  cases q:t5 ws with
  | none=>rw [q] at h'; cases h'
  | some cs=>rw [q] at h'; cases h'; rw [ih cs q]; rfl) r bs
def Cu (g:List Int->Int):List W->R W
 | [.lst ws]=>toR (t5 ws)>>=fun bs=>.ok (.int (g bs))
 | _=>.stuck
def fAbs:List W->R W
 | [.int i]=>.ok (.int (if i<0 then -i else i))
 | _=>.stuck
def Ai:List W->R W
 | [.int i]=>.ok (.int i)
 | [.bl k]=>.ok (.int (if k then 1 else 0))
 | _=>.stuck
def fStr:List W->R W
 | [.int i]=>if i.natAbs.log2<1920 then .ok (.str (toString i)) else .stuck
 | _=>.stuck
end
end TP
namespace TP
open PySem L2
def gI (i:Nat) (c:Bool) (m:Rho->R W):Rho->R Fl:=fun ρ=>match ρ[i]? with
 | some (.own ws)=>m ρ>>=fun w=>(match w with
  | .lst us=>if ws.length+us.length<=1000 then (if c||k9 us then .ok (.nx (ρ.set i (.own (ws++us)))) else .stuck) else .stuck
  | _=>.stuck)
 | _=>.stuck
def mRev (i:Nat):Rho->R Fl:=fun ρ=>match ρ[i]? with
 | some (.own ws)=>.ok (.nx (ρ.set i (.own ws.reverse)))
 | _=>.stuck
section
variable {K:Frag} {EX:EXT} {H0 G H:Hp} {ρ:Rho} {σ:St} {d:Mode} {D:Ends}
theorem CN {i:Nat} {c:Bool} {m:Rho->R W} (h:tSt K EX d (gI i c m) D σ H):eP (tBM K "list" rExtend (W0 i) (jP (tM K EX (cb c) m) tNil)) D σ H:=by
 obtain ⟨H0,G,ρ,I,o⟩:=h
 unfold gI at o
 split at o
 ·rename_i ws e
  obtain ⟨a,vs,es,ha,hg,h0,r⟩:=I.own_at e
  refine ⟨.ref a,es,.inl ⟨rfl,vs,SqL.of ha⟩,H0,G,ρ,I,OutS.bind I o fun x G1 H1 w e1 m1 o1=>?_⟩
  cases w <;> first | exact o1.elim | skip
  rename_i us
  dsimp only at o1
  by_cases hn:ws.length+us.length<=1000
  ·rw [if_pos hn] at o1
   by_cases hc:(c||k9 us)=true
   ·rw [if_pos hc] at o1
    have I1:=I.ext e1
    have hx:∃ b zs,x=.ref b/\H1 b=some (.lst zs)/\Reps K G1 zs us:=by
     cases c with
     | true=>exact Md.lstC (H:=H) I1 m1
     | false=>
      obtain ⟨b,zs,ex,hb,rb⟩:=Md.lstB (H:=H) I1 m1
      exact ⟨b,zs,ex,hb,Reps.clean I1 rb (by simpa using hc)⟩
    obtain ⟨b,zs,rfl,hb,rb⟩:=hx
    have h1:=e1.hh a _ ha
    refine ⟨a,b,vs,zs,rfl,rfl,h1,hb,by rw [r.length,rb.length]; exact U6 hn,?_⟩
    exact o1 G1 σ _ (Same.refl _) (I1.own_upd e es ((r.same e1.gg).append rb))
   ·rw [if_neg hc] at o1; exact o1.elim
  ·rw [if_neg hn] at o1; exact o1.elim
 ·exact o.elim
end
section
variable {X:Cx} {K:Frag} {EX:EXT} {d:Mode} {e:Expr} {pos:Pos} {ma:Rho->R W}
theorem BN {i:Nat} {c:Bool} {x:Str} {p apos cpos:Pos} (hN:X.N[i]?=some x) (hv:Vis X.env.scope x) (ha:PE X e (tM K EX (cb c) ma)) (hK:X.K=K:=by rfl) (hd:(x == ("__debug__" : Str))=false:=by decide) (hcd:(x == ("__classdict__" : Str))=false:=by decide)
  (hbase:attributeBase (.Name x p) "extend" X.env (eval (.Name x p) X.env)=eval (.Name x p) X.env:=by rfl)
  (hfew:((backTo cpos (starEach [e] X.env)).all (fun x=>!x.1)&&(backToKw cpos (keywordEach [] X.env)).all (fun x=>x.1.isSome)
   && decide (([e]:List Expr).length+([]:List Keyword).length+(if ([]:List Keyword).isEmpty then 0 else 1)<30))=true:=by rfl)
  (hline:(apos.endLine == cpos.line)=true:=by rfl) (hs:starEach [e] X.env=(false,eval e X.env)::starEach [] X.env:=by rfl) (hplain:(backTo cpos (starEach [] X.env)).any (·.1)=false:=by rfl)
  (hsw:swapsWith (.Call (.Attribute (.Name x p) "extend" apos) [e] [] cpos) none pos.line X.env=pure false:=by rfl) :
  PS X (.Expr (.Call (.Attribute (.Name x p) "extend" apos) [e] [] cpos) pos) (tSt K EX d (gI i c ma)):=by
 subst hK; exact (cX (rS PySem.F.plainAttrs_list PySem.F.slot_list_extend PySem.F.type_list_extend mZ (M9 hN hv hd hcd) (cZ ha pa_nil hs) hbase hfew hline hs hplain) hsw).mono fun _ _ _ q=>CN q
end
section
variable {X:Cx} {K:Frag} {EX:EXT} {a e tg:Expr} {es:List Expr} {pos:Pos} {ma:Rho->R W} {mr:Rho->R (List W)}
theorem Q3 (h:PE X e (tM K EX .B ma)) (hK:X.K=K:=by rfl):PI X tg e (tIt K EX false .U (bS ma)):=rQ (lp:=false) h hK
theorem F6 (h:PE X e (tM K EX .U ma)) (hK:X.K=K:=by rfl):PI X tg e (tIt K EX true .U (bS ma)):=rQ (lp:=true) h hK
theorem bO {elts:List Expr} {p tp:Pos} {k:Nat} (hg:Gl X "zip") (hm:X.mg "zip" = none) (ha:PA X (a::es) (tA K EX .B mr)) (hK:X.K=K:=by rfl) (hs:starEach (a::es) X.env=(false,eval a X.env)::starEach es X.env:=by rfl) (hpl:(backTo pos (starEach es X.env)).any (·.1)=false:=by rfl) :
  PI X (.Tuple elts k tp) (.Call (.Name "zip" p) (a::es) [] pos) (tIt K EX false .U (bI F9 mr)):=rO (lp:=false) hg hm ha hK hs hpl
theorem xW {elts:List Expr} {p tp:Pos} {k:Nat} (hg:Gl X "zip") (hm:X.mg "zip" = none) (ha:PA X (a::es) (tA K EX .U mr)) (hK:X.K=K:=by rfl) (hs:starEach (a::es) X.env=(false,eval a X.env)::starEach es X.env:=by rfl) (hpl:(backTo pos (starEach es X.env)).any (·.1)=false:=by rfl) :
  PI X (.Tuple elts k tp) (.Call (.Name "zip" p) (a::es) [] pos) (tIt K EX true .U (bI F9 mr)):=rO (lp:=true) hg hm ha hK hs hpl
end
end TP
namespace TP
open PySem L2
section
variable {K:Frag} {EX:EXT} {H0 G H G1 H1:Hp} {ρ:Rho} {σ:St} {d:Mode} {D:Ends}
def Cm:Sl->Bool
 | .own _=>true
 | .dic _=>true
 | .dik _=>true
 | _=>false
def noOwn (ρ:Rho):Bool:=ρ.all fun s=>!Cm s
def sCU (i:Nat) (f:List W->R W) (ma:Rho->R (List W)):Rho->R Fl:=fun ρ=>if noOwn ρ then (ma ρ>>=fun ws=>f ws>>=fun w=>.ok (.nx (ρ.set i (.par w)))) else .stuck
end
section
variable {X:Cx} {K:Frag} {d:Mode} {e:Expr} {es:List Expr} {pos:Pos} {mr:Rho->R (List W)}
end
end TP
namespace TP
open PySem L2
theorem iH:bootBuiltins "reversed" = some (.type "reversed"):=by decide +kernel
section
variable {X:Cx} {tg:Expr}
end
def revW:List W->R (List W)
 | [.lst ws]=>.ok ws.reverse
 | _=>.stuck
section
variable {K:Frag} {EX:EXT} {H0 G H:Hp} {ρ:Rho} {σ:St}
end
section
variable {X:Cx} {K:Frag} {EX:EXT} {a tg:Expr} {pos:Pos} {mr:Rho->R (List W)}
end
end TP
namespace TP
open PySem L2
section
variable {X:Cx} {pins:List (Addr×Obj)} {σ:St} {H:Hp} {s:Shared}
end
def seqI:W->Option (List Int)
 | .lst ws=>t5 ws
 | .tup ws=>t5 ws
 | _=>none
def sj (g:List Int->Int):List W->R W
 | [w]=>toR (seqI w)>>=fun ns=>if 0<ns.length then .ok (.int (g ns)) else .stuck
 | _=>.stuck
end TP
namespace HT
open PySem PySem.Spec PyProof.Rows
theorem S4:typeLookup (.type "tuple") (dunderR "mul")=pure (some (.builtin "tuple.__rmul__")):=by rw [typeLookup_type,builtinLookup_eq_fast]; kernel_rfl
theorem noFill_tuple_mul:fillsNumberSlot (.type "tuple") "mul" = pure false:=
 PySem.fillsNumberSlot_seq (id := "tuple.__mul__") (r:=some (.builtin "tuple.__rmul__")) F.slot_tuple_mul.lookup (by decide +kernel) S4 (by decide +kernel)
theorem repeat_tuple:seqRepeat? (.type "tuple")=pure (some (.builtin "tuple.__mul__")):=by
 unfold seqRepeat?
 rw [PySem.seqSlot_of (T := "tuple") (name := "__mul__") (id := "tuple.__mul__") F.slot_tuple_mul.lookup (by decide +kernel),PySem.seqSlot_of (T := "tuple") (name := "__rmul__") (id := "tuple.__rmul__") S4 (by decide +kernel)]
 rfl
theorem rmul_declines (a:Int) (t:Tok) (l:Addr) (items:Array Value) (n:Nat) (dd:Option Addr) (sl:Array (Option Value)) :
  Meets (Builtin.«int.__rmul__» ⟨[.int a t,.ref l],[]⟩) (fun _ R s=>s.heap.get? l=some { cls:=.type "tuple",dict:=dd,data:=.seq items n,slots:=sl }/\R (.ok (.ret Value.notImplemented)) s):=
 .of_wp fun prog w A R s h=>by obtain ⟨hp,g,d,tk,os⟩:=s; obtain ⟨hl,h⟩:=h; wp_walk; exact ⟨_,rfl,h⟩
theorem tuple_mul1 (l:Addr) (items:Array Value) (n:Nat) (dd:Option Addr) (sl:Array (Option Value)) (u:Tok) :
  Meets (Builtin.«tuple.__mul__» ⟨[.ref l,.int 1 u],[]⟩) (fun _ R s=>s.heap.get? l=some { cls:=.type "tuple",dict:=dd,data:=.seq items n,slots:=sl }/\R (.ok (.ret (.ref l))) s):=
 .of_wp fun prog w A R s h=>by
  obtain ⟨hp,g,d,tk,os⟩:=s; obtain ⟨hl,h⟩:=h
  have f1:=AutoSeq1.idx_int
  wp_walk using wpAny_loadPart' hl; exact ⟨_,rfl,h⟩
theorem tuple_mul2 (l:Addr) (items:Array Value) (n:Nat) (dd:Option Addr) (sl:Array (Option Value)) (k:Int) (u:Tok) (hc:¬ (decide (k < -(2^63))||decide (k≥2^63))=true)
  (hi:¬ (items.isEmpty||k == 1)=true) (h0:¬ (decide (k<=0)||items.isEmpty)=true) (hm:¬ (items.size*k>(2^63-1)/8)) (hz:¬ Builtin.Tuple.tupleTooMany (items.size*k)=true) (hs0:((List.replicate k.toNat items).foldl (·++·) #[]).size<=sizeLine) :
  Meets (Builtin.«tuple.__mul__» ⟨[.ref l,.int k u],[]⟩) (fun _ R s=>s.heap.get? l=some { cls:=.type "tuple",dict:=dd,data:=.seq items n,slots:=sl }/\R (.ok (.ret (.ref s.heap.objs.size))) { s with heap:=s.heap.push { cls:=.type "tuple",data:=.seq ((List.replicate k.toNat items).foldl (·++·) #[]) } }):=
 .of_wp fun prog w A R s h=>by
  obtain ⟨hp,g,d,tk,os⟩:=s; obtain ⟨hl,h⟩:=h
  have f1:=AutoSeq1.idx_int
  wp_walk using wpAny_loadPart' hl
  rw [if_neg hc]
  wp_walk using wpAny_loadPart' hl
  rw [if_neg hm]
  wp_walk using wpAny_loadPart' hl
  exact ⟨_,rfl,h⟩
end HT
namespace TP
open PySem L2 PySem.Spec PyProof.Rows
theorem len_reps {α:Type} (xs:List α):∀ k:Nat,(List.replicate k xs).flatten.length=k*xs.length
 | 0=>by simp
 | k+1=>by rw [List.replicate_succ,List.flatten_cons,List.length_append,len_reps xs k,Nat.succ_mul,Nat.add_comm]
theorem cz (its:List Value):∀ (m:Nat) (acc:List Value),List.foldl (fun x1 x2=>x1++x2) acc.toArray (List.replicate m its.toArray)=(acc++(List.replicate m its).flatten).toArray
 | 0,acc=>by simp
 | m+1,acc=>by rw [List.replicate_succ,List.foldl_cons,List.append_toArray,cz its m (acc++its),List.replicate_succ,List.flatten_cons,List.append_assoc]
def rN (K:Frag):R2:=fun x y H Q=>∃ a k xs,x=.ref a/\y=.int k/\SqT K H a xs/\xs ≠ []/\1<=k/\k<2^63/\xs.length*k.toNat<=sizeLine /\
 (k=1->Q (.ref a) H)/\(k≠1->∀ l,H l=none->Q (.ref l) (upd H l (.tup (List.replicate k.toNat xs).flatten)))
variable {X:Cx} {K:Frag}
theorem uC (hK:X.K=K:=by rfl):OpR X (binaryOp .Mult) (rN K):=by
 subst hK
 intro pins s σ H x y v u Q I rx ry h
 obtain ⟨l,k,xs,rfl,rfl,hH,hne,h1,h2,hz,q1,q2⟩:=h
 cases rx
 obtain ⟨t,rfl⟩:=ry
 obtain ⟨its,r,p,_⟩:=I.tuple hH
 obtain ⟨⟨cls,dd,data,sl⟩,ho,hc,n,hd⟩:=id p
 simp only at hc hd
 subst hc hd
 have hin:its ≠ []:=fun z=>hne (r.nil_iff.mp z)
 refine wpAny_binaryOp_repeat_ref (T := "tuple") (U := "int") (by decide) ⟨_,ho,rfl⟩ (fun s'=>typeIs_int s' k t) HT.noFill_tuple_mul F.fills_int_mul F.slot_int_rmul HT.repeat_tuple F.slot_int_index.lookup
  (call_meets F.slot_int_rmul (typeIs_int s k t) F.entry_int_rmul (F.args_int_rmul_2 _ _) (HT.rmul_declines k t l its.toArray n dd sl)
   ⟨ho,rfl,⟨_,ho,rfl⟩,?_⟩)
 by_cases e:k=1
 ·subst e
  exact call_meets F.slot_tuple_mul ⟨_,ho,rfl⟩ F.entry_tuple_mul (F.args_tuple_mul_2 _ _) (HT.tuple_mul1 l its.toArray n dd sl t) ⟨ho,.ref l,H,I,rfl,q1 rfl⟩
 ·have hnew:List.foldl (fun x1 x2=>x1++x2) #[] (List.replicate k.toNat its.toArray)=(List.replicate k.toNat its).flatten.toArray:=by
   have:=cz its k.toNat []
   rw [List.nil_append] at this
   exact this
  have hlen:its.length*k.toNat<=sizeLine:=by rw [<- r.length]; exact hz
  have hsz:(its.toArray.size:Int)*k<=(sizeLine:Nat):=by
   have e2:((its.length*k.toNat:Nat):Int)=(its.toArray.size:Int)*k:=by
    rw [Int.natCast_mul,Int.toNat_of_nonneg (by omega),List.size_toArray]
   rw [<- e2]; exact_mod_cast hlen
  have hcap:((sizeLine:Nat):Int)<=(2^63-1)/8:=by decide
  refine call_meets F.slot_tuple_mul ⟨_,ho,rfl⟩ F.entry_tuple_mul (F.args_tuple_mul_2 _ _) (HT.tuple_mul2 l its.toArray n dd sl k t ?_ ?_ ?_ ?_ ?_ ?_) ⟨ho,?_⟩
  ·simp only [Bool.or_eq_true,decide_eq_true_eq]; omega
  ·simp [hin,e]
  ·simp only [Bool.or_eq_true,decide_eq_true_eq]
   rintro (z | z)
   ·omega
   ·simp [hin] at z
  ·omega
  ·simp only [Builtin.Tuple.tupleTooMany,decide_eq_true_eq]; omega
  ·rw [hnew,List.size_toArray,len_reps,Nat.mul_comm]; exact hlen
  ·rw [hnew]
   refine ⟨.ref s.heap.objs.size,_,I.laid (t':=s.toks) (o:=.tup (List.replicate k.toNat xs).flatten) (fun b ob q=>Heap.get?_push_of_some _ q) (Nat.le_refl _) ?_,rfl,q2 e _ (I.hok.fresh (Nat.le_refl _))⟩
   exact ⟨by rw [len_reps,Nat.mul_comm]; exact hz,_,r.rep k.toNat,IsTup.new _ _⟩
def fRepT:W->W->R W
 | .tup us,.int k=>if us ≠ []/\us.length*k.toNat<=1000/\1<=k/\k<=1000 then .ok (.tup (List.replicate k.toNat us).flatten) else .stuck
 | _,_=>.stuck
theorem uI:Op2 K .C .F (rN K) fRepT:=by
 intro EX H0 Hs G H ρ σ Ha Hb x y u v Q I s mx my o
 cases u <;> first | exact o.elim | skip
 all_goals (cases v <;> first | exact o.elim | skip)
 rename_i us k
 replace o:Out EX G H (mdW K .F H0 Hs) (if us ≠ []/\us.length*k.toNat<=1000/\1<=k/\k<=1000 then .ok (.tup (List.replicate k.toNat us).flatten) else .stuck) Q:=o
 by_cases hn:us ≠ []/\us.length*k.toNat<=1000/\1<=k/\k<=1000
 ·rw [if_pos hn] at o
  obtain ⟨hne,hz,h1,h2⟩:=hn
  have hy:y=.int k:=Md.intB (Md.CB (H:=Hb) I my)
  subst hy
  obtain ⟨a,vs,rfl,h,r⟩:=(Md.repC mx fun _=>W.noConfusion).inv
  refine ⟨_,k,_,rfl,rfl,SqT.of (I.gh _ _ h),?_,h1,by omega,by rw [r.length]; exact U6 hz,?_,?_⟩
  ·intro z
   have:=r.length
   rw [z] at this
   exact hne (List.eq_nil_of_length_eq_zero this.symm)
  ·intro e
   subst e
   refine o _ G H (Ext.refl I.gh) (.tup h ?_)
   simpa using r
  ·intro _ l hl
   exact Out.newTF I (r.rep _) hl o
 ·rw [if_neg hn] at o; exact o.elim
end TP
namespace TP
open PySem PySem.W PyProof.Rows
section
variable (r:Nat->Int)
end
end TP
namespace TP
open PySem L2
section
variable {prog:Program} {w:World} {A:Around} {E:Value->Shared->Prop} {s:Shared}
theorem dF (hh:A.handled=none) (u:Sub) (hne:u.l≠u.i) (its:Array Value) :
  Draws prog w A u.i [u.i,u.l] its.size (fun i v=>its[i]?=some v) (fun i h=>u.At h i/\u.Src h its) where
 live:=fun _ _ st=>by obtain ⟨o,e,_⟩:=st.1.obj; exact ⟨o,e⟩
 frame:=fun _ _ _ st hk=>⟨st.1.keep fun o e=>hk u.i (by simp) o e,st.2.keep fun o e=>hk u.l (by simp) o e⟩
 item:=fun i s Q E hi st hQ=>Sub.item st.1 st.2 (x:=its[i]) (by simp [hi]) fun h' a sb=>hQ _ h' s.toks (by simp [hi]) ⟨a,st.2.keep fun o e=>sb.extBut _ _ hne e⟩ sb
 done:=fun s Q E st hE=>Sub.ends hh st.1 st.2 (by simp) hE
theorem iE (l:Addr) (its:Array Value) (m:Nat) (dct:Option Addr) (sl:Array (Option Value)) :
  Meets (Builtin.«enumerate.__new__» ⟨[.type "enumerate",.ref l],[]⟩) (fun _ R s=>s.heap.get? l=some { cls:=.type "tuple",dict:=dct,data:=.seq its m,slots:=sl } /\
   R (.ok (.ret (.ref (s.heap.push { cls:=.type "tuple_iterator",data:=.fields #[.ref l,.int 0 0] }).objs.size)))
    { s with heap:=(s.heap.push { cls:=.type "tuple_iterator",data:=.fields #[.ref l,.int 0 0] }).push { cls:=.type "enumerate",data:=.fields #[.none,.bool false,.ref s.heap.objs.size,rawInt 0,.none,.none] } }):=
 .of_wp fun prog w A R s hyp=>by
  obtain ⟨hp,g,d,tk,os⟩:=s; obtain ⟨hl,hyp⟩:=hyp
  have hsb:=sub_enumerate
  have hT:Heap.IsTuple (Shared.heap ⟨hp,g,d,tk,os⟩) l its:=⟨_,hl,rfl,m,rfl⟩
  wp_walk using AutoSeq1.wpAny_loadPart' hl
  refine wpAny_stack_any fun stk=>wpAny_pure ?_
  split
  ·rename_i cc _ _ _ _ _
   cases (cc == Value.type "enumerate") <;>
   ·wp_walk using AutoSeq1.wpAny_loadPart' hl,wpAny_pyIter_tuple hT
    exact ⟨_,rfl,hyp⟩
  ·wp_walk using AutoSeq1.wpAny_loadPart' hl,wpAny_pyIter_tuple hT
   exact ⟨_,rfl,hyp⟩
theorem kP {l:Addr} {its:Array Value} {Q:Value->Shared->Prop} (hL:s.heap.IsTuple l its)
  (hyp:∀ h',IsEnum h' (s.heap.objs.size+1) s.heap.objs.size 0 .none->h'.IsTupleIter s.heap.objs.size l 0->(∀ b o,s.heap.get? b=some o->h'.get? b=some o)->Q (.ref (s.heap.objs.size+1)) { s with heap:=h' }) :
  wpAny (model prog w) A (call (.type "enumerate") [.ref l]) Q E s:=by
 obtain ⟨⟨c,dct,dt,sl⟩,hl,hc,m,hd⟩:=hL
 have hc':c=.type "tuple" := hc; have hd':dt=.seq its m:=hd; subst hc' hd'
 refine callType_new F.called_enumerate (by decide) (F.typeCall_enumerate_1 _) (F.newCall_enumerate_1 _) (fun obj=>F.args_object_init_2 obj _) F.entry_enumerate_new (iE l its m dct sl) ⟨hl,?_⟩
 generalize hP:s.heap.push { cls:=.type "tuple_iterator",data:=.fields #[.ref l,.int 0 0] }=P
 have hz:P.objs.size=s.heap.objs.size+1:=by rw [<- hP]; exact Heap.size_push ..
 have hi:P.get? s.heap.objs.size=some { cls:=.type "tuple_iterator",data:=.fields #[.ref l,.int 0 0] }:=by rw [<- hP]; exact Heap.get?_push_size _ rfl
 have hk:∀ b o,s.heap.get? b=some o->P.get? b=some o:=fun b o e=>by rw [<- hP]; exact Heap.get?_push_of_some _ e
 show _/\_
 have en:IsEnum (P.push { cls:=.type "enumerate",data:=.fields #[.none,.bool false,.ref s.heap.objs.size,rawInt 0,.none,.none] }) (s.heap.objs.size+1) s.heap.objs.size 0 .none:=by rw [<- hz]; exact Heap.get?_push_size _ rfl
 rw [hz]
 exact ⟨⟨_,en,rfl⟩,hyp _ en ⟨_,Heap.get?_push_of_some _ hi,rfl,rfl⟩ fun b o e=>Heap.get?_push_of_some _ (hk b o e)⟩
theorem nW {t:Bool} {l:Addr} {its:Array Value} {Q:Value->Shared->Prop} (hL:SrcAt s.heap (t,l,its))
  (hyp:∀ h',IsEnum h' (s.heap.objs.size+1) s.heap.objs.size 0 .none->(L2.Sub.mk t s.heap.objs.size l).At h' 0->(∀ b o,s.heap.get? b=some o->h'.get? b=some o)->Q (.ref (s.heap.objs.size+1)) { s with heap:=h' }) :
  wpAny (model prog w) A (call (.type "enumerate") [.ref l]) Q E s:=by
 unfold SrcAt at hL
 cases t with
 | true=>exact kP hL fun h' a b c=>hyp h' a (by unfold Sub.At; exact b) c
 | false=>exact call_enumerate_list hL fun h' a b _ c=>hyp h' a (by unfold Sub.At; exact b) c
end
def ItE (K:Frag) (t:Bool) (a:Addr):It:=
  ⟨fun i H=>∃ xs x,Sq K H t a xs/\xs[i]?=some x,
   fun i H x H'=>∃ p y,x=.ref p/\H p=none/\H'=upd H p (.tup [.int (i:Int),y])/\∀ xs,Sq K H t a xs->xs[i]?=some y,
   fun i H=>∃ xs,Sq K H t a xs/\xs.length=i⟩
abbrev eTn (e:Addr) (u:Sub) (i:Nat) (h:Heap):Prop:=(∃ old,IsEnum h e u.i (i:Int) old)/\u.At h i
theorem lC {P:Program} {w:World} {K:Frag} {elts:List Expr} {k:Nat} {tp:Pos} {e:Addr} {u:Sub} (hne:e≠u.i) :
  Turn P w K (.Tuple elts k tp) (ItE K u.t u.l) [e,u.i] e (eTn e u) where
 mem:=by simp
 obj:=fun i h st b hb=>by
  obtain ⟨⟨old,he⟩,ha⟩:=st
  simp only [List.mem_cons,List.not_mem_nil,or_false] at hb
  rcases hb with rfl | rfl
  ·exact ⟨_,he,fun v q=>by cases q⟩
  ·obtain ⟨o,q,d⟩:=ha.obj
   exact ⟨o,q,fun v z=>by rw [d] at z; cases z⟩
 keep:=fun i h h' st kp=>⟨st.1.imp fun old he=>kp e (by simp) _ he,st.2.keep fun o q=>kp u.i (by simp) o q⟩
 item:=by
  intro X hP hw hK hc i pins s σ H E I hf st hg
  subst hP hw hK
  obtain ⟨⟨old,he⟩,ha⟩:=st
  obtain ⟨xs,x,hq,hx⟩:=hg
  obtain ⟨its,rv,hsrc⟩:=Sq.src I hq
  obtain ⟨v,hv,rx⟩:=rv.get hx
  have fe:=hf e (by simp)
  have fi:=hf u.i (by simp)
  have hli:u.l≠u.i:=Sq.ne I hq fi
  have hle:u.l≠e:=Sq.ne I hq fe
  have hi:i<its.toArray.size:=by have:=(List.getElem?_eq_some_iff.mp hv).1; simpa using this
  refine wpAny_pyNext_enum_itemD (dF (prog:=X.prog) (w:=X.w) (show X.A.in1.handled=none from I.ok.hd hc) u hli its.toArray) he ⟨ha,hsrc⟩ hi hne (by simp only [List.mem_cons,List.not_mem_nil,or_false,not_or]; exact ⟨hne,Ne.symm hle⟩) fun y h1 tk hy z1 s1 p1 z2 k1=>?_
  have ey:y=v:=by
   have e1:its[i]?=some y:=by simpa using hy
   rw [hv] at e1; cases e1; rfl
  subst ey
  refine ⟨_,rfl,wpAny_letOwnedTupleGo_enum z1 fun h2 e2 sb2=>?_⟩
  have hzl:e<s.heap.objs.size:=Heap.lt_size he
  have hil:u.i<s.heap.objs.size:=by obtain ⟨o,q,_⟩:=ha.obj; exact Heap.lt_size q
  have kp:∀ b o,b≠e->b≠u.i->s.heap.get? b=some o->h2.get? b=some o:=fun b o b1 b2 q=>sb2.extBut _ _ b1 (k1 b o b1 b2 q)
  have hfr:H s.heap.objs.size=none:=I.hok.fresh (Nat.le_refl _)
  have trk:∀ b c,H b=some c->b≠e/\b≠u.i:=fun b c q=>⟨fun z=>(by subst z; rw [fe.1] at q; cases q),fun z=>(by subst z; rw [fi.1] at q; cases q)⟩
  have hP2:h2.get? s.heap.objs.size=some { cls:=.type "tuple",data:=.seq #[.int i tk,y] }:=sb2.extBut _ _ (Nat.ne_of_gt hzl) p1
  have rel:Vals [.int (i:Int),x] [.int i tk,y]:=.cons ⟨tk,rfl⟩ (.cons rx .nil)
  refine ⟨.ref s.heap.objs.size,upd H s.heap.objs.size (.tup [.int (i:Int),x]),?_,rfl,⟨_,_,rfl,hfr,rfl,?_⟩,⟨⟨y,?_⟩,?_⟩,fun b hb=>?_⟩
  ·show Inv X pins σ _ { s with heap:=h2,toks:=tk+1 }
   refine I.step (g':=s.gens) (t':=tk+1) (d':=s.drawn) (ch:=[e,u.i]) (fun b hb=>?_) (fun b o _ _ hc q _=>kp b o ?_ ?_ q) (fun b o _ _ hc q _=>⟨o.slots,kp b o ?_ ?_ q⟩) (fun b o hc q n=>?_) (fun b o hc q=>⟨o,kp b o ?_ ?_ q⟩) (fun b ys q=>?_) (fun b o c q=>?_) (fun b ps q=>?_) (fun m hm=>?_) ?_ I.bare
   ·simp only [List.mem_cons,List.not_mem_nil,or_false] at hb
    rcases hb with rfl | rfl
    ·exact ⟨fe.2.2.2.1,fe.2.1,fe.2.2.2.2.1,fe.2.2.2.2.2⟩
    ·exact ⟨fi.2.2.2.1,fi.2.1,fi.2.2.2.2.1,fi.2.2.2.2.2⟩
   all_goals first
    | (intro z; exact hc (by simp [z]; done))
    | skip
   ·rw [b9 (Nat.ne_of_lt (Heap.lt_size q))]; exact n
   ·rw [b9 (c9 q hfr)]; exact q
   ·rw [b9 (c9 q hfr)]; exact q
   ·exact ⟨#[],by rw [b9 (c9 q hfr),q]; simp⟩
   ·obtain ⟨o,es,ep,ho,r⟩:=hm
    exact ⟨o,es,ep,kp _ o (Ne.symm fe.2.1) (Ne.symm fi.2.1) ho,r⟩
   ·intro b c q
    by_cases hb:b=s.heap.objs.size
    ·subst hb
     rw [g7] at q; cases q
     exact ⟨(show 2<=sizeLine by decide),_,rel,⟨_,hP2,rfl,_,rfl⟩⟩
    ·rw [b9 hb] at q
     refine (I.hok b c q).stay (fun d v hcc z=>?_) (fun d z=>by rw [b9 (c9 z hfr)]; exact z) fun d ys z=>by rw [b9 (c9 z hfr)]; exact z
     rcases hcc with rfl | hcc
     ·exact kp _ v (trk _ _ q).1 (trk _ _ q).2 z
     ·exact kp _ v (trk _ _ hcc).1 (trk _ _ hcc).2 z
  ·intro ys hy2
   rw [Sq.inj I hy2 hq]; exact hx
  ·have:((i+1:Nat):Int)=(i:Int)+1:=by omega
   rw [this]; exact e2
  ·exact s1.1.keep fun o q=>sb2.extBut _ _ (Ne.symm hne) q
  ·have:b≠s.heap.objs.size:=by
    simp only [List.mem_cons,List.not_mem_nil,or_false] at hb
    rcases hb with rfl | rfl
    ·exact Nat.ne_of_lt hzl
    ·exact Nat.ne_of_lt hil
   rw [b9 this]
   exact (hf b hb).1
 done:=by
  intro X hP hw hK hc i pins s σ H E I hf st hg
  subst hP hw hK
  obtain ⟨⟨old,he⟩,ha⟩:=st
  obtain ⟨xs,hq,hn⟩:=hg
  obtain ⟨its,rv,hsrc⟩:=Sq.src I hq
  have fe:=hf e (by simp)
  have fi:=hf u.i (by simp)
  have hli:u.l≠u.i:=Sq.ne I hq fi
  have hsz:its.toArray.size=i:=by have:=rv.length; simp; omega
  subst hsz
  refine wpAny_pyNext_enum_endD (dF (prog:=X.prog) (w:=X.w) (show X.A.in1.handled=none from I.ok.hd hc) u hli its.toArray) he ⟨ha,hsrc⟩ fun h' eb=>⟨rfl,?_⟩
  obtain ⟨f0,f1,f2,f3,f4,f5⟩:=fi
  exact I.turned (t':=s.toks) (fun b o hb q=>eb b o hb q) f0 f1 f3 f4 f5
 self:=fun A i s Q E st h=>by
  obtain ⟨⟨old,he⟩,_⟩:=st
  exact wpAny_pyIter_enum he h
def sf (K:Frag) (ta:TA):TI:=fun σ H R=>ta σ H fun vs H1=>∃ t a xs,vs = [.ref a]/\Sq K H1 t a xs/\R (ItE K t a) H1
theorem ij:bootBuiltins "enumerate" = some (.type "enumerate"):=by decide +kernel
section
variable {X:Cx}
theorem iY {a:Expr} {elts:List Expr} {ta:TA} {p pos tp:Pos} {k:Nat} (hg:Gl X "enumerate") (hm:X.mg "enumerate" = none) (ha:PA X [a] ta) (hs:starEach [a] X.env = [(false,eval a X.env)]:=by rfl):PI X (.Tuple elts k tp) (.Call (.Name "enumerate" p) [a] [] pos) (sf X.K ta):=by
 intro pins s σ H R I h
 refine wpAny_Call_Name_kw (N0 I hg hm ij ?_ (by decide) (by decide))
 refine PyProof.Rows.callWith_type1 (thn (ha pos pins s σ H _ I h) fun us s1 zz78=>?_) hs (by rfl)
 obtain ⟨vs,H1,I1,r1,t,b,xs,e1,hq,q⟩:=zz78
 subst e1
 obtain ⟨u,rfl,ru⟩:=V8 r1
 cases ru
 obtain ⟨its,rv,hsrc⟩:=Sq.src I1 hq
 refine nW (t:=t) (its:=its.toArray) (by unfold SrcAt; unfold Sub.Src at hsrc; exact hsrc) fun h' he hA hk=>wpAny_pyIter_enum he ?_
 have I2:Inv X pins σ H1 { s1 with heap:=h' }:=I1.kept (t':=s1.toks) hk
 have TE:=lC (P:=X.prog) (w:=X.w) (K:=X.K) (elts:=elts) (k:=k) (tp:=tp) (e:=s1.heap.objs.size+1) (u:=⟨t,s1.heap.objs.size,b⟩) (neN (by show s1.heap.objs.size+1≠s1.heap.objs.size; omega))
 refine ⟨_,_,_,_,H1,rfl,I2,TE,⟨⟨_,he⟩,hA⟩,fun c hc=>?_,q⟩
 have hb':s1.heap.objs.size<=c:=by
  simp only [List.mem_cons,List.not_mem_nil,or_false] at hc
  rcases hc with rfl | rfl
  ·omega
  ·exact Nat.le_refl _
 exact I1.fpOk (H':=H1) hb' (I1.hok.fresh hb')
end
def ak:List W->R (List W)
 | [w]=>match u8 w with
  | .ok xs=>.ok (xs.mapIdx fun i x=>W.tup [.int (i:Int),x])
  | _=>.stuck
 | _=>.stuck
section
variable {K:Frag} {EX:EXT} {H0 G H:Hp} {ρ:Rho} {σ:St}
theorem ny {e:Mode} {Z:Hp} {t:Bool} {a:Addr} {xs:List V} {us:List W} (he:e=.V\/e=.U) (s1:Sq K Z t a xs) (r1:Reps K (fz e H0 G) xs us):ax K e H0 Z G (ItE K t a) (us.mapIdx fun i x=>W.tup [.int (i:Int),x]):=by
 have l1:=r1.length
 have hq:∀ H,Same Z H->Sq K H t a xs:=fun H z=>Sq.same z s1
 refine ⟨fun i H hi z=>?_,fun H z=>⟨xs,hq H z,by rw [List.length_mapIdx,l1]⟩,fun i H x H' w hw z y G2 ρ σ I sg=>?_⟩
 ·rw [List.length_mapIdx] at hi
  exact ⟨xs,xs[i]'(by omega),hq H z,by simp⟩
 ·obtain ⟨p,y1,rfl,hp,rfl,hy⟩:=y
  obtain ⟨w1,e1,q1⟩:=Reps.get' r1 (hy xs (hq H z))
  have hw':w=.tup [.int (i:Int),w1]:=by
   rw [List.getElem?_mapIdx,e1] at hw
   cases hw; rfl
  subst hw'
  obtain ⟨x1,x2⟩:=cU (Hs:=H) he I hp (.cons .int (.cons (q1.same (J4 sg)) .nil))
  exact ⟨_,x1,x2⟩
theorem nZ {lp:Bool} {e:Mode} {ma:Rho->R (List W)} {Rr:It->Hp->Prop} (he:e=.V\/e=.U) (h:tIt K EX lp e (fun ρ=>ma ρ>>=ak) σ H Rr):sf K (tA K EX (cR lp e) ma) σ H Rr:=by
 refine bb h (fun H0 G ρ G1 H1 xs ws us I e1 m1 q o=>?_) (fun ws e z=>?_)
 ·have I1:=I.ext e1
  unfold ak at q
  split at q
  ·rename_i w
   cases hw:u8 w with
   | stuck=>rw [hw] at q; cases q
   | ex _=>rw [hw] at q; cases q
   | ok ls=>
    rw [hw] at q
    cases q
    cases m1 with
    | cons a1 m1=>
     cases m1
     obtain ⟨t1,p1,v1,rfl,q1,r1⟩:=Md.src he I1 a1 hw
     exact ⟨t1,p1,v1,rfl,C7 (gM I1) q1,o _ G1 H1 e1 (ny he q1 r1)⟩
  ·cases q
 ·unfold ak at z
  split at z
  ·split at z <;> cases z
  ·cases z
end
section
variable {X:Cx} {K:Frag} {EX:EXT} {a:Expr} {pos:Pos} {mr:Rho->R (List W)}
theorem yd {elts:List Expr} {p tp:Pos} {k:Nat} (hg:Gl X "enumerate") (hm:X.mg "enumerate" = none) (ha:PA X [a] (tA K EX .B mr)) (hK:X.K=K:=by rfl) (hs:starEach [a] X.env = [(false,eval a X.env)]:=by rfl):PI X (.Tuple elts k tp) (.Call (.Name "enumerate" p) [a] [] pos) (tIt K EX false .U (bI ak mr)):=by
 subst hK; exact (iY hg hm ha hs).mono fun _ _ _ q=>nZ (lp:=false) (.inr rfl) q
theorem yc {elts:List Expr} {p tp:Pos} {k:Nat} (hg:Gl X "enumerate") (hm:X.mg "enumerate" = none) (ha:PA X [a] (tA K EX .U mr)) (hK:X.K=K:=by rfl) (hs:starEach [a] X.env = [(false,eval a X.env)]:=by rfl):PI X (.Tuple elts k tp) (.Call (.Name "enumerate" p) [a] [] pos) (tIt K EX true .U (bI ak mr)):=by
 subst hK; exact (iY hg hm ha hs).mono fun _ _ _ q=>nZ (lp:=true) (.inr rfl) q
end
def inW (u:W):W->Option Bool
 | .tup ws=>some ((pds ws).any fun y=>PyData.eqv y (pd u))
 | .lst ws=>some ((pds ws).any fun y=>PyData.eqv y (pd u))
 | .scr ws=>some ((pds ws).any fun y=>PyData.eqv y (pd u))
 | _=>none
def rIn (K:Frag) (neg:Bool):R2:=fun x y H Q=>∃ u v b,Rep K H x u/\Rep K H y v/\shp 8 u=true/\shp 8 v=true/\inW u v=some b/\Q (.bl (if neg then !b else b)) H
section
variable {X:Cx}
theorem yF (hu:X.A.units+64<cLine):OpR X (compareOp .NotIn) (rIn X.K true):=by
 intro pins s σ H x y v u Q I rx ry h
 obtain ⟨a,c,b,ra,rc,sa,sc,e,q⟩:=h
 obtain ⟨as,qa⟩:=Rep.reads I 8 ra sa rx
 obtain ⟨bs,qb⟩:=Rep.reads I 8 rc sc ry
 have la:=bK a 8 sa
 cases c <;> first | (cases e; done) | skip
 all_goals
  rename_i ws
  have lc:=iP ws 7 sc
  have hm:X.A.units+1+min (PyData.depthAll (pds ws)) (pd a).depth<cLine:=by have:=Nat.min_le_left (PyData.depthAll (pds ws)) (pd a).depth; omega
  cases e
 ·exact SeqAt.notIn_tuple_reads qb qa lc.1 la.1 hm ⟨.bl _,H,I,rfl,q⟩
 ·exact SeqAt.notIn_list_reads qb qa lc.1 la.1 hm ⟨.bl _,H,I,rfl,q⟩
 ·exact SeqAt.notIn_list_reads qb qa lc.1 la.1 hm ⟨.bl _,H,I,rfl,q⟩
end
def fIn (neg:Bool) (u v:W):R W:=if shp 8 u&&shp 8 v then (match inW u v with
 | some b=>.ok (.bl (if neg then !b else b))
 | none=>.stuck) else .stuck
theorem Cf {K:Frag} {d:Mode} {neg:Bool}:Op2 K .B d (rIn K neg) (fIn neg):=by
 intro EX H0 Hs G H ρ σ Ha Hb x y u v Q I s mx my o
 unfold fIn at o
 by_cases c:(shp 8 u&&shp 8 v)=true
 ·rw [if_pos c] at o
  have c':shp 8 u=true/\shp 8 v=true:=by simpa using c
  cases hb:inW u v with
  | none=>rw [hb] at o; exact o.elim
  | some b=>
   rw [hb] at o
   exact ⟨u,v,b,mx.whole I,my.whole I,c'.1,c'.2,hb,o _ G H (Ext.refl I.gh) (Md.sca rfl (fun _=>.bl) d)⟩
 ·rw [if_neg c] at o; exact o.elim
end TP
namespace TP
open PySem L2
def lexLt:List Int->List Int->Bool
 | [],[]=>false
 | [],_::_=>true
 | _::_,[]=>false
 | a::as,b::bs=>if a=b then lexLt as bs else decide (a<b)
theorem lex_irr:∀ a,lexLt a a=false
 | []=>rfl
 | x::a=>by unfold lexLt; rw [if_pos rfl]; exact lex_irr a
theorem lex_tr:∀ a b c,lexLt a b=true->lexLt b c=true->lexLt a c=true
 | [],[],_,h,_=>by cases h
 | [],_::_,[],_,h=>by cases h
 | [],_::_,_::_,_,_=>rfl
 | _::_,[],_,h,_=>by cases h
 | _::_,_::_,[],_,h=>by cases h
 | x::a,y::b,z::c,h1,h2=>by
  unfold lexLt at h1 h2 ⊢
  by_cases e1:x=y
  ·subst e1
   rw [if_pos rfl] at h1
   by_cases e2:x=z
   ·subst e2; rw [if_pos rfl] at h2 ⊢; exact lex_tr a b c h1 h2
   ·rw [if_neg e2] at h2 ⊢; exact h2
  ·rw [if_neg e1] at h1
   have h1:=of_decide_eq_true h1
   by_cases e2:y=z
   ·subst e2; rw [if_neg e1]; exact decide_eq_true h1
   ·rw [if_neg e2] at h2
    have h2:=of_decide_eq_true h2
    rw [if_neg (by omega)]; exact decide_eq_true (by omega)
theorem L4:∀ a b,lexLt a b=false->lexLt b a=false->a=b
 | [],[],_,_=>rfl
 | [],_::_,h,_=>by cases h
 | _::_,[],_,h=>by cases h
 | x::a,y::b,h1,h2=>by
  unfold lexLt at h1 h2
  by_cases e:x=y
  ·subst e
   rw [if_pos rfl] at h1 h2
   rw [L4 a b h1 h2]
  ·rw [if_neg e] at h1
   rw [if_neg (fun z=>e z.symm)] at h2
   have h1:=of_decide_eq_false h1
   have h2:=of_decide_eq_false h2
   omega
def O4 (ss:List (List Int)) (i:Nat):Int:=((ss.countP fun x=>lexLt x (ss.getD i [])):Nat)
theorem AJ {α:Type} {p q:α->Bool}:∀ {l:List α},(∀ x∈l,p x=true->q x=true)->(∃ x∈l,q x=true/\p x=false)->l.countP p<l.countP q:=by
 intro l
 induction l with
 | nil=>intro _ h; obtain ⟨_,h,_⟩:=h; exact absurd h List.not_mem_nil
 | cons x l ih=>
  intro h h0
  obtain ⟨y,hy,hq,hp⟩:=h0
  have h':∀ z∈l,p z=true->q z=true:=fun z hz=>h z (List.mem_cons_of_mem _ hz)
  have le:l.countP p<=l.countP q:=List.countP_mono_left h'
  rw [List.countP_cons,List.countP_cons]
  rcases List.mem_cons.mp hy with e | hy
  ·subst e
   rw [if_pos hq,hp,if_neg Bool.false_ne_true]; omega
  ·have:=ih h' ⟨y,hy,hq,hp⟩
   by_cases c:p x=true
   ·rw [if_pos c,if_pos (h x List.mem_cons_self c)]; omega
   ·rw [if_neg c]; split <;> omega
theorem getD_mem {ss:List (List Int)} {i:Nat} (h:i<ss.length):ss.getD i []∈ss:=by
 rw [List.getD_eq_getElem?_getD]; simp [h]
theorem iT {ss:List (List Int)} {i j:Nat} (hi:i<ss.length) (hj:j<ss.length):decide (O4 ss i<O4 ss j)=lexLt (ss.getD i []) (ss.getD j []):=by
 cases h:lexLt (ss.getD i []) (ss.getD j []) with
 | true=>
  apply decide_eq_true
  unfold O4
  have:=AJ (l:=ss) (p:=fun x=>lexLt x (ss.getD i [])) (q:=fun x=>lexLt x (ss.getD j [])) (fun x _ hx=>lex_tr _ _ _ hx h) ⟨_,getD_mem hi,h,lex_irr _⟩
  omega
 | false=>
  apply decide_eq_false
  unfold O4
  have:ss.countP (fun x=>lexLt x (ss.getD j []))<=ss.countP fun x=>lexLt x (ss.getD i []):=by
   apply List.countP_mono_left
   intro x _ hx
   cases h2:lexLt (ss.getD j []) (ss.getD i []) with
   | true=>exact lex_tr _ _ _ hx h2
   | false=>rw [L4 _ _ h h2]; exact hx
  omega
def y9 (ss:List (List Int)):List (List Int):=ss.mergeSort fun a b=>!lexLt b a
theorem mq (ss:List (List Int)):(List.range ss.length).map (fun i=>ss.getD i [])=ss:=by
 apply List.ext_getElem
 ·simp
 ·intro i h1 h2; simp [h2]
theorem J1 (ss:List (List Int)):(y9 ss).Perm ss:=List.mergeSort_perm _ _
theorem aB (ss:List (List Int)):(y9 ss).Pairwise fun a b=>lexLt b a=false:=by
 have h:=List.pairwise_mergeSort (le:=fun a b=>!lexLt b a) (fun a b c h1 h2=>by
  simp only [Bool.not_eq_true'] at h1 h2 ⊢
  cases e:lexLt c a with
  | false=>rfl
  | true=>
   cases f:lexLt a b with
   | true=>rw [lex_tr c a b e f] at h2; cases h2
   | false=>rw [L4 a b f h1] at e; rw [e] at h2; cases h2) (fun a b=>by
  cases e:lexLt b a with
  | false=>rfl
  | true=>
   cases f:lexLt a b with
   | false=>rfl
   | true=>have:=lex_tr a b a f e; rw [lex_irr] at this; cases this) ss
 exact h.imp fun q=>by simpa using q
def allLt (n:Nat) (p:Array Nat):Prop:=∀ x∈p,x<n
section
open PySem.W PyProof.Rows
variable {n:Nat} (h0:0<n)
include h0
end
def bp (fin:Bool):List (Int×Int)->Bool
 | []=>fin
 | (a,b)::r=>if a=b then bp fin r else decide (a<b)
theorem jj:∀ xs ys:List Int,bp (decide (xs.length<ys.length)) (xs.zip ys)=lexLt xs ys
 | [],[]=>rfl
 | [],_::_=>by simp [bp,lexLt]
 | _::_,[]=>by simp [bp,lexLt]
 | x::xs,y::ys=>by
  have:=jj xs ys
  simp only [List.zip_cons_cons,bp,lexLt,List.length_cons,Nat.add_lt_add_iff_right]
  rw [this]
section
open PySem.W PyProof.Rows
variable {prog:Program} {w:World} {A:Around} {E:Value->Shared->Prop} {s:Shared}
theorem nj {fin:Bool} {Q:Bool->Shared->Prop}:∀ (xs ys:List Int) (us vs:List Value) (i:Nat),Vals (xs.map V.int) us->Vals (ys.map V.int) vs->Q (bp fin (xs.zip ys)) s->KatLex prog w A true fin Q (us.zip vs) i s
 | [],_,_,_,_,.nil,_,h=>h
 | _::_,[],_,_,_,.cons _ _,.nil,h=>h
 | x::xs,y::ys,_,_,i,.cons r1 t1,.cons r2 t2,h=>by
  obtain ⟨t,rfl⟩:=r1
  obtain ⟨u,rfl⟩:=r2
  refine kat_cons (wpAny_eqBool_int ?_)
  simp only [List.zip_cons_cons,bp] at h
  by_cases e:x=y
  ·rw [if_pos e] at h
   rw [show (x == y)=true by simpa using e]
   exact kat_yes (nj xs ys _ _ (i+1) t1 t2 h)
  ·rw [if_neg e] at h
   rw [show (x == y)=false by simpa using e]
   refine kat_no ?_
   cases i with
   | zero=>exact oneLt_int h
   | succ i=>exact kat_one _ _ (lt_int h)
def TupI (h:Heap) (v:Value) (xs:List Int):Prop:=∃ (a:Addr) (o:Obj) (its:List Value) (m:Nat),v=.ref a/\h.get? a=some o/\o.cls=.type "tuple" /\ o.data=.seq its.toArray m/\Vals (xs.map V.int) its
theorem vf {v u:Value} {xs ys:List Int} {Q:Bool->Shared->Prop} (hv:TupI s.heap v xs) (hu:TupI s.heap u ys) (h:Q (lexLt xs ys) s):wpAny (model prog w) A (keyLt' (tuples' true) v u) Q E s:=by
 obtain ⟨a,o,its,m,rfl,ho,_,hd,rv⟩:=hv
 obtain ⟨b,o2,its2,m2,rfl,ho2,_,hd2,rv2⟩:=hu
 refine kat_lt ho hd ho2 hd2 ?_
 have l1:=rv.length
 have l2:=rv2.length
 rw [List.length_map] at l1 l2
 refine nj xs ys _ _ 0 rv rv2 ?_
 simp only [List.size_toArray,<- l1,<- l2]
 rw [jj]; exact h
theorem oJ {h:Heap} {v:Value} {xs:List Int} (hv:TupI h v xs) (hne:xs ≠ []):∃ (a:Addr) (o:Obj) (its:Array Value) (m:Nat) (i:Int) (tk:Tok),v=.ref a/\h.get? a=some o/\o.cls=.type "tuple" /\ o.data=.seq its m/\its[0]?=some (.int i tk):=by
 obtain ⟨a,o,its,m,e,ho,hc,hd,rv⟩:=hv
 cases xs with
 | nil=>exact absurd rfl hne
 | cons x xs=>
  cases its with
  | nil=>cases rv
  | cons u its=>
   cases rv with
   | cons r1 _=>
    obtain ⟨tk,rfl⟩:=r1
    exact ⟨a,o,_,m,x,tk,e,ho,hc,hd,rfl⟩
theorem fv {h:Heap}:∀ {vs:List Value} {ss:List (List Int)},Paired (fun v xs=>TupI h v xs/\xs ≠ []) vs ss->∃ fs:List Value,KatTups h vs fs/\fs.length=ss.length/\∀ f∈fs,∃ i t,f=.int i t
 | _,_,.nil=>⟨[],trivial,rfl,fun _ h=>nomatch h⟩
 | _,_,.cons hv t=>by
  obtain ⟨fs,k,hl,hi⟩:=fv t
  obtain ⟨a,o,its,m,i,tk,e,ho,hc,hd,h0⟩:=oJ hv.1 hv.2
  subst e
  refine ⟨.int i tk::fs,KatTups.cons ho hc hd h0 k,by rw [List.length_cons,List.length_cons,hl],fun f hf=>?_⟩
  rcases List.mem_cons.mp hf with q | hf
  ·exact ⟨i,tk,q⟩
  ·exact hi f hf
end
theorem F0 {α β:Type} {F:α->β->Prop} {d:α}:∀ {as:List α} {bs:List β} {i:Nat},Paired F as bs->i<as.length->∃ b,bs[i]?=some b/\F (as.getD i d) b
 | _,_,_,.nil,h=>absurd h (Nat.not_lt_zero _)
 | _,_,0,.cons r _,_=>⟨_,rfl,r⟩
 | _,_,i+1,.cons _ t,h=>by
  obtain ⟨b,e,q⟩:=F0 (d:=d) (i:=i) t (by simpa using h)
  exact ⟨b,by simpa using e,by simpa using q⟩
theorem aM {α β γ:Type} {F:α->β->Prop} {G:α->γ->Prop} {R:β->γ->Prop}:∀ {as:List α} {bs:List β} {cs:List γ},Paired F as bs->Paired G as cs->(∀ a b c,F a b->G a c->R b c)->Paired R bs cs
 | _,_,_,.nil,.nil,_=>.nil
 | _,_,_,.cons a r,.cons b t,h=>.cons (h _ _ _ a b) (aM r t h)
section
open PySem.W PyProof.Rows
variable {prog:Program} {w:World} {A:Around} {E:Value->Shared->Prop} {s:Shared}
end
theorem eD:bootBuiltins "sorted" = some (.builtin "sorted"):=by decide +kernel
section
variable {X:Cx} {K:Frag}
end
def O0:List W->Option (List (List Int))
 | []=>some []
 | .tup ws::r=>match t5 ws,O0 r with
  | some x,some xs=>some (x::xs)
  | _,_=>none
 | _=>none
theorem fu:∀ ss:List (List Int),O0 (ss.map fun x=>W.tup (x.map W.int))=some ss
 | []=>rfl
 | x::ss=>by
  show (match t5 (x.map W.int),O0 (ss.map fun x=>W.tup (x.map W.int)) with | some x,some xs=>_ | _,_=>_)=_
  rw [ints_map,fu ss]
theorem qA:∀ {ws:List W} {x:List Int},t5 ws=some x->ws=x.map W.int:=by
 intro ws
 induction ws with
 | nil=>intro x h; cases h; rfl
 | cons w ws ih=>
  intro x h
  cases w <;> first | (cases h; done) | skip
  rename_i i
  have h':(t5 ws).map (i::·)=some x:=h
  cases hw:t5 ws with
  | none=>rw [hw] at h'; cases h'
  | some bs=>rw [hw] at h'; rw [ih hw,<- Option.some.inj h']; rfl
theorem oI:∀ {ws:List W} {ss:List (List Int)},O0 ws=some ss->ws=ss.map fun x=>W.tup (x.map W.int):=by
 intro ws
 induction ws with
 | nil=>intro ss h; cases h; rfl
 | cons w r ih=>
  intro ss h
  cases w <;> first | (cases h; done) | skip
  rename_i ws
  have h':(match t5 ws,O0 r with | some x,some xs=>some (x::xs) | _,_=>none)=some ss:=h
  cases h1:t5 ws with
  | none=>rw [h1] at h'; cases h'
  | some x=>
   cases h2:O0 r with
   | none=>rw [h1,h2] at h'; cases h'
   | some xs=>rw [h1,h2] at h'; rw [qA h1,ih h2,<- Option.some.inj h']; rfl
theorem dN:∀ ns:List Int,k9 (ns.map W.int)=true
 | []=>rfl
 | n::ns=>by rw [List.map_cons]; simp only [k9,noL,dN ns,Bool.and_self]
theorem gr:∀ ss:List (List Int),k9 (ss.map fun x=>W.tup (x.map W.int))=true
 | []=>rfl
 | x::ss=>by rw [List.map_cons]; simp only [k9,noL,dN x,gr ss,Bool.and_self]
section
variable {K:Frag}
theorem dJ {F:Hp}:∀ {ys:List V} {ss:List (List Int)},Reps K F ys (ss.map fun x=>W.tup (x.map W.int))->(∀ x∈ss,x ≠ [])->Paired (fun v zs=>(∃ a,v=.ref a/\F a=some (.tup (zs.map V.int)))/\zs ≠ []) ys ss
 | _,[],.nil,_=>.nil
 | _,x::ss,.cons r t,hne=>by
  refine .cons ⟨?_,hne x List.mem_cons_self⟩ (dJ t fun y hy=>hne y (List.mem_cons_of_mem _ hy))
  cases r with
  | tup ha hr=>exact ⟨_,rfl,by rw [ha,Reps.ints hr (ints_map x)]⟩
theorem iS {F:Hp}:∀ {ys:List V} {ws:List W} {i:Nat},Reps K F ys ws->i<ys.length->∃ w,ws[i]?=some w/\Rep K F (ys.getD i .non) w
 | _,_,_,.nil,h=>absurd h (Nat.not_lt_zero _)
 | _,_,0,.cons r _,_=>⟨_,rfl,r⟩
 | _,_,i+1,.cons _ t,h=>by
  obtain ⟨b,e,q⟩:=iS (i:=i) t (by simpa using h)
  exact ⟨b,by simpa using e,by simpa using q⟩
theorem fM {F:Hp} {f:Nat->V} {g:Nat->W}:∀ {l:List Nat},(∀ i∈l,Rep K F (f i) (g i))->Reps K F (l.map f) (l.map g)
 | [],_=>.nil
 | _::_,h=>.cons (h _ List.mem_cons_self) (fM fun b hb=>h b (List.mem_cons_of_mem _ hb))
end
end TP
namespace TP
open PySem L2
set_option maxHeartbeats 2000000
section
variable {X:Cx} {K:Frag}
end
section
variable {K:Frag}
end
end TP
namespace L2
open PySem PySem.Spec PyProof.Rows
section
variable {X:Cx} {pins:List (Addr×Obj)} {σ:St} {H:Hp} {s:Shared} {A:Around} {E:Value->Shared->Prop} {Q:Value->Shared->Prop} {b:Bool}
end
end L2
namespace TP
open PySem L2
section
variable {K:Frag} {d:Mode}
end
end TP
namespace HT
open PySem PyProof.Rows
section
variable {prog:Program} {w:World} {A:Around} {E:Value->Shared->Prop} {s:Shared}
theorem getItem_tuple_all {t sl:Addr} {items:Array Value} {vl vu:Value} {lo hi:Option Int} {Q:Value->Shared->Prop} (ht:IsTup s.heap t items) (hs:s.heap.IsSliceOf sl vl vu .none) (pl:IsPart vl lo) (pu:IsPart vu hi)
  (hw:sIx items.size 0 lo=0/\sIx items.size items.size hi=items.size)
  (h:Q (.ref t) s)
  (hsz:items.size<=sizeLine):wpAny (model prog w) A (getItem (.ref t) (.ref sl)) Q E s:=by
 have hj:sIx items.size items.size hi<=items.size:=lW _ _ (Nat.le_refl _) hi
 obtain ⟨os,hos,hcs,hds⟩:=id hs
 have hTs:s.TypeIs (.ref sl) "slice" := ⟨os,hos,hcs⟩
 unfold getItem
 try with_reducible refine wpAny_holding ?_
 first | refine wpAny_bind (wpAny_pure ?_) | skip
 refine wpAny_bind (wpAny_sequenceKey ht.typeIs (by decide) ?_)
 refine wpAny_bind (wpAny_callSpecial?_slot (name:=Str.ofString "__getitem__") ht.typeIs PyProof.Rows.slot_tuple_getitem
  (wpAny_call_entry PyProof.Rows.slot_tuple_getitem ht.typeIs entry_tuple_getitem ?_ (args_tuple_getitem _ _)))
 show wpAny _ _ (Builtin.Tuple.tupleItemsOf (.ref t)>>=_) _ _ s
 refine wpAny_bind (tupleItemsOf_ ht ?_)
 refine wpAny_bind (wpAny_typeOf hTs ?_)
 rw [if_pos (by decide)]
 refine wpAny_bind (P9 hs pl pu ?_)
 have hyes:(((sIx items.size 0 lo:Nat):Int) == 0&&(1:Int) == 1&&(sIx items.size items.size hi-sIx items.size 0 lo) == items.size)=true:=by
  rw [hw.1,hw.2]; simp
 show wpAny _ _ (if (((sIx items.size 0 lo:Nat):Int) == 0&&(1:Int) == 1&&(sIx items.size items.size hi-sIx items.size 0 lo) == items.size)=true then _ else _) _ _ s
 rw [if_pos hyes]
 unfold Builtin.Tuple.tupleIsExact
 wp_walk using wpAny_typeOf ht.typeIs
 exact ⟨_,rfl,wpAny_pure h⟩
end
end HT
namespace TP
open PySem L2
section
variable {X:Cx}
def pD (K:Frag):V->Option Int->Option Int->Hp->VK->Prop:=fun x lo hi H Q=>∃ a xs,x=.ref a/\SqT K H a xs/\(HT.sIx xs.length 0 lo=0/\HT.sIx xs.length xs.length hi=xs.length)/\Q (.ref a) H
theorem tw:L2.SlR X (pD X.K):=by
 intro pins s σ H x v vl vu lo hi sl Q I rx hs pl pu h
 obtain ⟨a,xs,rfl,hx,hw,q⟩:=h
 cases rx
 obtain ⟨its,r,ht,hz⟩:=I.tuple hx
 have hlen:its.toArray.size=xs.length:=by rw [List.size_toArray]; exact r.length.symm
 refine ⟨"tuple",_,PyProof.Rows.slot_tuple_getitem.lookup,ht.typeIs,?_⟩
 exact HT.getItem_tuple_all ht hs pl pu (by rw [hlen]; exact hw) ⟨.ref a,H,I,rfl,q⟩ (by rw [hlen]; exact hz)
def xP (K:Frag):V->Option Int->Option Int->Hp->VK->Prop:=fun x lo hi H Q=>xN K x lo hi H Q\/pD K x lo hi H Q
theorem tu:L2.SlR X (xP X.K):=L2.SlR.or wS tw
end
def Rst (x:R W) (l u:R (Option Int)):R W:=x>>=fun x=>l>>=fun l=>u>>=fun u=>(match x with
 | .tup ws=>if k9 ws=true then .ok (.tup (G9 ws l u)) else .stuck
 | _=>.stuck)
def vSlT (m:Rho->R W) (ml mh:Rho->R (Option Int)):Rho->R W:=fun ρ=>Rst (m ρ) (ml ρ) (mh ρ)
section
variable {K:Frag} {EX:EXT} {H0 G H:Hp} {ρ:Rho} {σ:St} {Q:VK}
end
section
variable {X:Cx} {K:Frag} {EX:EXT} {e:Expr} {pos:Pos} {ma:Rho->R W}
end
theorem iJ (m:Rho->R W) (ml mh:Rho->R (Option Int)) (ρ:Rho):vSlT m ml mh ρ=Rst (m ρ) (ml ρ) (mh ρ):=rfl
theorem Bw {ws:List W} (h:k9 ws=true) (l u:Option Int):Rst (.ok (.tup ws)) (.ok l) (.ok u)=.ok (.tup (G9 ws l u)):=by
 show (if k9 ws=true then _ else _)=_
 rw [if_pos h]
end TP
namespace TP
open PySem L2
def dj:W->Option (List Int)
 | .tup ws=>t5 ws
 | _=>none
theorem gW (ns:List Int):dj (.tup (ns.map W.int))=some ns:=ints_map ns
abbrev Q5 (k:List Int):List Key:=k.map Sum.inl
theorem qB {a b:List Int} (e:Q5 a=Q5 b):a=b:=by
 have:=congrArg (List.map fun x:Key=>match x with | .inl i=>i | .inr _=>0) e
 simpa [Q5,Function.comp_def] using this
section
variable {K:Frag} {EX:EXT} {H0 G H G1 H1 F:Hp} {ρ:Rho} {σ:St} {d:Mode} {D:Ends}
theorem za (k:List Int):(Q5 k).map kV=k.map V.int:=by rw [List.map_map]; rfl
theorem vk {v:V} {w:W} {k:List Int} (r:Rep K F v w) (e:dj w=some k):∃ b,v=.ref b/\F b=some (.tup ((Q5 k).map kV)):=by
 cases r <;> first | cases e | skip
 rename_i a vs ws h r
 refine ⟨a,rfl,?_⟩
 rw [za,<- Reps.ints r e]
 exact h
theorem gU {Hs:Hp} {v:V} {w:W} {k:List Int} (I:PIv K H0 G ρ σ H) (m:Md K H0 Hs G H v w .B) (e:dj w=some k):∃ b,v=.ref b/\H b=some (.tup ((Q5 k).map kV)):=by
 rcases m with r | ⟨a,vs,ws,_,rfl,_⟩
 ·obtain ⟨b,e1,e2⟩:=vk r e
  exact ⟨b,e1,I.join_H _ _ e2⟩
 ·cases e
theorem any_keys {kvs:List (List Key×V)} {ks:List (List Int)} {k:List Int} (hk:kvs.map (·.1)=ks.map fun k=>k.map Sum.inl):(kvs.any fun kv=>decide (kv.1=Q5 k))=decide (k∈ks):=by
 rw [Bool.eq_iff_iff,List.any_eq_true,decide_eq_true_iff]
 constructor
 ·rintro ⟨p,hp,q⟩
  have e:=of_decide_eq_true q
  have:p.1∈ks.map fun k=>k.map Sum.inl:=by rw [<- hk]; exact List.mem_map.mpr ⟨p,hp,rfl⟩
  obtain ⟨j,hj,ej⟩:=List.mem_map.mp this
  rw [<- qB (ej.trans e)]; exact hj
 ·intro h
  have:Q5 k∈kvs.map (·.1):=by rw [hk]; exact List.mem_map.mpr ⟨k,h,rfl⟩
  obtain ⟨p,hp,e⟩:=List.mem_map.mp this
  exact ⟨p,hp,decide_eq_true e⟩
def io (ks:List (List Int)) (k:List Int):List (List Int):=if k∈ks then ks else ks ++ [k]
theorem qu {kvs:List (List Key×V)} {ks:List (List Int)} {k:List Int} {v:V} (hk:kvs.map (·.1)=ks.map fun k=>k.map Sum.inl):(putK kvs (Q5 k) v).map (·.1)=(io ks k).map fun k=>k.map Sum.inl:=by
 unfold putK io
 rw [any_keys hk]
 by_cases h:k∈ks
 ·rw [if_pos (decide_eq_true h),if_pos h,<- hk,List.map_map]
  refine List.map_congr_left fun p _=>?_
  show (if p.1=Q5 k then (p.1,v) else p).1=p.1
  split <;> rfl
 ·rw [if_neg (by simpa using h),if_neg h,List.map_append,List.map_append,hk]; rfl
theorem PIv.updD {a:Addr} {kvs kvs':List (List Key×V)} (I:PIv K H0 G ρ σ H) (ha:H a=some (.dT kvs)) (hg:G a=none) (h0:H0 a=none) (nd:∀ (j:Nat) (ks:List (List Int)),ρ[j]?=some (.dic ks)->σ[j]?≠some (some (.ref a))):PIv K H0 G ρ σ (upd H a (.dT kvs')):=by
 refine ⟨I.g0,I.gl,fun b o q=>by rw [b9 (c9 q hg)]; exact I.gh b o q,fun b o q=>by rw [b9 (c9 q h0)]; exact I.hh b o q,I.len,fun j x o h1 h2=>?_,I.ne⟩
 have:=I.sl j x o h1 h2
 cases x with
 | own us=>
  obtain ⟨b,us',eb,hb,hgb,h0b,rb⟩:=this
  have hne:b≠a:=by
   rintro rfl
   rw [ha] at hb; cases hb
  exact ⟨b,us',eb,by rw [b9 hne]; exact hb,hgb,h0b,rb⟩
 | dic ks=>
  obtain ⟨b,us',eb,hb,hgb,h0b,rb⟩:=this
  subst eb
  have hne:b≠a:=by
   rintro rfl
   exact nd j ks h1 h2
  exact ⟨b,us',rfl,by rw [b9 hne]; exact hb,hgb,h0b,rb⟩
 | dik ks=>
  obtain ⟨b,us',eb,hb,hgb,h0b,rb⟩:=this
  have hne:b≠a:=by
   rintro rfl
   rw [ha] at hb; cases hb
  exact ⟨b,us',eb,by rw [b9 hne]; exact hb,hgb,h0b,rb⟩
 | un=>exact this
 | val _=>exact this
 | par _=>exact this
 | iop _ _=>exact this
 | hz _=>exact this
theorem PIv.setD {i:Nat} {a:Addr} {kvs:List (List Key×V)} {ks:List (List Int)} (I:PIv K H0 G ρ σ H) (ha:H a=some (.dT kvs)) (hg:G a=none) (h0:H0 a=none) (hk:kvs.map (·.1)=ks.map fun k=>k.map Sum.inl):PIv K H0 G (ρ.set i (.dic ks)) (σ.set i (some (.ref a))) H where
 g0:=I.g0
 gl:=I.gl
 gh:=I.gh
 hh:=I.hh
 len:=by rw [List.length_set,List.length_set]; exact I.len
 sl j x o h1 h2:=by
  by_cases hj:i=j
  ·subst hj
   rw [List.getElem?_set] at h1 h2
   simp only [if_true] at h1 h2
   split at h1 <;> split at h2 <;> simp only [Option.some.injEq,reduceCtorEq] at h1 h2
   subst h1; subst h2
   exact ⟨a,kvs,rfl,ha,hg,h0,hk⟩
  ·rw [List.getElem?_set_ne hj] at h1 h2; exact I.sl j x o h1 h2
 ne a b ws us c hab h1 h2 h3 h4:=by
  have na:i≠a:=by
   rintro rfl
   rw [List.getElem?_set] at h1
   simp only [if_true] at h1
   split at h1 <;> simp at h1
  have nb:i≠b:=by
   rintro rfl
   rw [List.getElem?_set] at h2
   simp only [if_true] at h2
   split at h2 <;> simp at h2
  rw [List.getElem?_set_ne na] at h1 h3
  rw [List.getElem?_set_ne nb] at h2 h4
  exact I.ne a b ws us c hab h1 h2 h3 h4
theorem PIv.dic_at {i:Nat} {ks:List (List Int)} (I:PIv K H0 G ρ σ H) (e:ρ[i]?=some (.dic ks)):∃ a kvs,σ[i]?=some (some (.ref a))/\H a=some (.dT kvs)/\G a=none/\H0 a=none/\kvs.map (·.1)=ks.map fun k=>k.map Sum.inl:=by
 have hi:i<σ.length:=by rw [<- I.len]; exact (List.getElem?_eq_some_iff.mp e).1
 have es:σ[i]?=some σ[i]:=by simp
 obtain ⟨a,kvs,ev,r⟩:=I.sl i _ _ e es
 exact ⟨a,kvs,by rw [es,ev],r⟩
def X3:Sl->Bool
 | .dic _=>true
 | _=>false
def eY (ρ:Rho):Bool:=ρ.all fun s=>!X3 s
theorem qc {ρ:Rho} {i j:Nat} {ks:List (List Int)} (h:eY (ρ.set i .un)=true) (hj:i≠j):ρ[j]?≠some (.dic ks):=fun e=>by
 have e':(ρ.set i .un)[j]?=some (.dic ks):=by rw [List.getElem?_set_ne hj]; exact e
 have:=List.all_eq_true.mp h _ (List.mem_of_getElem? e')
 simp [X3] at this
theorem PIv.dic_upd {i:Nat} {a:Addr} {kvs':List (List Key×V)} {ks ks':List (List Int)} (I:PIv K H0 G ρ σ H) (e:ρ[i]?=some (.dic ks)) (es:σ[i]?=some (some (.ref a))) (one:eY (ρ.set i .un)=true) (hk:kvs'.map (·.1)=ks'.map fun k=>k.map Sum.inl) :
  PIv K H0 G (ρ.set i (.dic ks')) σ (upd H a (.dT kvs')):=by
 obtain ⟨a',kvs,ev,ha,hg,h0,_⟩:=I.sl i _ _ e es
 cases ev
 refine ⟨I.g0,I.gl,fun b o q=>by rw [b9 (c9 q hg)]; exact I.gh b o q,fun b o q=>by rw [b9 (c9 q h0)]; exact I.hh b o q,by rw [List.length_set]; exact I.len,fun j x o h1 h2=>?_,fun p q ws1 us c hab h1 h2 h3 h4=>?_⟩
 ·by_cases hj:i=j
  ·subst hj
   rw [List.getElem?_set] at h1
   simp only [if_true] at h1
   split at h1 <;> simp only [Option.some.injEq,reduceCtorEq] at h1
   subst h1
   rw [es] at h2; cases h2
   exact ⟨a,kvs',rfl,g7,hg,h0,hk⟩
  ·rw [List.getElem?_set_ne hj] at h1
   have:=I.sl j x o h1 h2
   cases x with
   | own us=>
    obtain ⟨b,us',eb,hb,hgb,h0b,rb⟩:=this
    have hne:b≠a:=by
     rintro rfl
     rw [ha] at hb; cases hb
    exact ⟨b,us',eb,by rw [b9 hne]; exact hb,hgb,h0b,rb⟩
   | dic ls=>exact absurd h1 (qc one hj)
   | dik ks=>
    obtain ⟨b,us',eb,hb,hgb,h0b,rb⟩:=this
    have hne:b≠a:=by
     rintro rfl
     rw [ha] at hb; cases hb
    exact ⟨b,us',eb,by rw [b9 hne]; exact hb,hgb,h0b,rb⟩
   | un=>exact this
   | val _=>exact this
   | par _=>exact this
   | iop _ _=>exact this
   | hz _=>exact this
 ·have na:i≠p:=by
   rintro rfl
   rw [List.getElem?_set] at h1
   simp only [if_true] at h1
   split at h1 <;> simp at h1
  have nb:i≠q:=by
   rintro rfl
   rw [List.getElem?_set] at h2
   simp only [if_true] at h2
   split at h2 <;> simp at h2
  rw [List.getElem?_set_ne na] at h1
  rw [List.getElem?_set_ne nb] at h2
  exact I.ne p q ws1 us c hab h1 h2 h3 h4
def inD (o:Option Sl) (w:W) (neg:Bool):R Bool:=match o with
 | some (.dic ks)=>(match dj w with
  | some k=>.ok (if neg then !decide (k∈ks) else decide (k∈ks))
  | none=>.stuck)
 | _=>.stuck
def mIn (neg:Bool) (i:Nat) (mk:Rho->R W):Rho->R Bool:=fun ρ=>mk ρ>>=fun w=>inD ρ[i]? w neg
theorem CO {i:Nat} {mk:Rho->R W} {Q:Bool->Hp->Prop} (h:tT K EX (mIn false i mk) σ H Q):tB (wP (tM K EX .B mk) (W0 i)) σ H Q:=by
 obtain ⟨H0,G,ρ,I,o⟩:=h
 refine ⟨H0,G,ρ,I,Out.bind (md:=mdW K .B H0 H) o fun y G1 H1 w e1 m1 o1=>?_⟩
 have I1:=I.ext e1
 unfold inD at o1
 split at o1
 ·rename_i ks e
  split at o1
  ·rename_i k ek
   obtain ⟨a,kvs,es,ha,hg,h0,hk⟩:=I1.dic_at e
   obtain ⟨b,rfl,hb⟩:=gU I1 m1 ek
   refine ⟨.ref a,es,a,_,rfl,DGet.t ha hb,_,rfl,?_⟩
   rw [<- ba,any_keys hk]
   exact o1 _ G1 H1 (Ext.refl I1.gh) rfl
  ·exact o1.elim
 ·exact o1.elim
def putD (ks:List (List Int)) (i:Nat) (w:W) (ρ:Rho):R Fl:=match dj w with
 | some k=>if eY (ρ.set i .un)=true/\ks.length<1000 then .ok (.nx (ρ.set i (.dic (io ks k)))) else .stuck
 | none=>.stuck
def fh (o:Option Sl) (re rk:R W) (i:Nat) (ρ:Rho):R Fl:=match o with
 | some (.dic ks)=>re>>=fun _=>rk>>=fun w=>putD ks i w ρ
 | _=>.stuck
def ci (i:Nat) (mk me:Rho->R W):Rho->R Fl:=fun ρ=>fh ρ[i]? (me ρ) (mk ρ) i ρ
theorem Bf {i:Nat} {mk me:Rho->R W} (h:tSt K EX d (ci i mk me) D σ H):rG (W0 i) (tM K EX .B mk) (tM K EX .B me) D σ H:=by
 obtain ⟨H0,G,ρ,I,o⟩:=h
 unfold ci fh at o
 split at o
 ·rename_i ks e
  refine ⟨H0,G,ρ,I,OutS.bind I o fun v G1 H1 w1 e1 m1 o1=>?_⟩
  have I1:=I.ext e1
  obtain ⟨a,kvs,es,ha,hg,h0,hk⟩:=I1.dic_at e
  refine ⟨.ref a,es,H0,G1,ρ,I1,OutS.bind I1 o1 fun y G2 H2 w e2 m2 o2=>?_⟩
  have I2:=I1.ext e2
  unfold putD at o2
  split at o2
  ·rename_i k ek
   split at o2
   ·rename_i hc
    obtain ⟨b,rfl,hb⟩:=gU I2 m2 ek
    have hl:kvs.length=ks.length:=by have:=congrArg List.length hk; simpa using this
    refine ⟨a,_,rfl,DPut.t (e2.hh a _ ha) hb (Nat.lt_of_lt_of_le (show kvs.length<1000 by omega) (by decide)),?_⟩
    exact o2 G2 σ _ (Same.refl _) (I2.dic_upd e es hc.1 (qu hk))
   ·exact o2.elim
  ·exact o2.elim
 ·exact o.elim
def newD (i:Nat) (w:W) (ρ:Rho):R Fl:=match dj w with
 | some k=>.ok (.nx (ρ.set i (.dic [k])))
 | none=>.stuck
def fb (i:Nat) (mk me:Rho->R W):Rho->R Fl:=fun ρ=>mk ρ>>=fun w=>me ρ>>=fun _=>newD i w ρ
def iN (tk tv:TE):TE:=fun σ H Q=>∀ p,H p=none->tk σ (upd H p (.dT [])) fun x H1=>tv σ H1 fun y H2=>H2 p=some (.dT [])/\∃ b k,x=.ref b/\H2 b=some (.tup (k.map kV))/\Q (.ref p) (upd H2 p (.dT [(k,y)]))
theorem Bg {i:Nat} {mk me:Rho->R W} (h:tSt K EX d (fb i mk me) D σ H):S9 (iN (tM K EX .B mk) (tM K EX .B me)) (C4 i) D σ H:=by
 obtain ⟨H0,G,ρ,I,o⟩:=h
 intro p hp
 have hgp:G p=none:=by
  cases q:G p with
  | none=>rfl
  | some u=>rw [I.gh p u q] at hp; cases hp
 have h0p:H0 p=none:=by
  cases q:H0 p with
  | none=>rfl
  | some u=>rw [I.hh p u q] at hp; cases hp
 have su:Same H (upd H p (.dT [])):=fun b u q=>by rw [b9 (c9 q hp)]; exact q
 have x0:Ext G H G (upd H p (.dT [])):=⟨Same.refl G,su,I.gh.trans su,fun _ _ _ _ e=>e⟩
 have I0:=I.ext x0
 have o':OutS K EX d H0 G (mk ρ>>=fun w=>me ρ>>=fun _=>newD i w ρ) D:=o
 refine ⟨H0,G,ρ,I0,OutS.bind I0 o' fun x G1 H1 w e1 m1 o1=>?_⟩
 have I1:=I0.ext e1
 refine ⟨H0,G1,ρ,I1,OutS.bind I1 o1 fun y G2 H2 w2 e2 m2 o2=>?_⟩
 have I2:=I1.ext e2
 have hp2:H2 p=some (.dT []):=e2.hh p _ (e1.hh p _ g7)
 have hg2:G2 p=none:=e2.keep p _ (e1.hh p _ g7) rfl (e1.keep p _ g7 rfl hgp)
 refine ⟨hp2,?_⟩
 unfold newD at o2
 split at o2
 ·rename_i k ek
  obtain ⟨b,rfl,hb⟩:=gU I1 m1 ek
  refine ⟨b,Q5 k,rfl,e2.hh b _ hb,?_⟩
  refine o2 G2 _ _ (Same.refl _) (PIv.setD (I2.updD hp2 hg2 h0p fun j ks e1 e2=>?_) g7 hg2 h0p rfl)
  obtain ⟨c,kvs,ec,hc,_⟩:=I.sl j _ _ e1 e2
  cases ec
  rw [hp] at hc; cases hc
 ·exact o2.elim
end
section
variable {X:Cx} {K:Frag} {EX:EXT} {d:Mode} {e k v:Expr} {pos:Pos} {mk me:Rho->R W}
theorem mI {tk tv:TE} (hu:X.A.units+1<cLine) (hk:PE X k tk) (hv:PE X v tv):PE X (.Dict [some k] [v] pos) (iN tk tv):=by
 intro pins s σ H Q I q
 have hn:=I.hok.fresh (Nat.le_refl s.heap.objs.size)
 have I1:=I.laid (a:=s.heap.objs.size) (o:=.dT []) (h':=s.heap.push { cls:=.type "dict",data:=.dict #[] }) (t':=s.toks) (fun _ _ q=>Heap.get?_push_of_some _ q) (Nat.le_refl _) (qU s.heap I.big)
 refine wpAny_Dict_any rfl rfl (by simp) (Nat.le_of_ble_eq_true rfl) ?_
 refine pairTrees_cons_walk (thn (hk pins _ σ _ _ I1 (q _ hn)) fun u s1 ⟨x,H1,I2,rx,q1⟩=>thn (hv pins s1 σ H1 _ I2 q1) fun w2 s2 ⟨y,H2,I3,ry,e,b,kk,ex,eb,q2⟩=>pairTrees_nil_walk ?_)
 subst ex
 obtain rfl:u=Value.ref b:=rx
 obtain ⟨z,hd,xs,rel,dd⟩:=so I3.hok e
 cases rel
 unfold storeAll
 rw [List.forIn_cons]
 refine wpAny_bind (wpAny_bind (wpAny_dictSet_heap (knd:=tupleKind (q4 X.prog X.w)) (hsz:=Nat.zero_le _) (show (tupleKind (q4 X.prog X.w)).room X.A from Nat.lt_of_succ_lt hu) (cv I3.hok eb) dd fun h' dd' hs=>wpAny_pure ?_))
 show wpAny _ _ (forIn [] PUnit.unit _) _ _ _
 rw [List.forIn_nil]
 refine wpAny_pure ⟨.ref s.heap.objs.size,_,?_,rfl,q2⟩
 obtain ⟨qo,es,ep,hq,h2,h3,h4,_,h5⟩:=dd'
 refine dz I3 (by rw [e]; exact True.intro) hs ⟨qo,hq⟩ ⟨Nat.succ_le_of_lt (by decide),hd,_,(KT.put (H:=H2) (kvs:=[]) (xs:=[]) .nil kk eb ry).keeps fun c ys ec=>?_,qo,es,ep,hq,h2,h3,h4,h5⟩
 rw [b9 (rT ec e (fun z=>nomatch z))]
 exact ec
theorem yf {i:Nat} {x:Str} {pos' pos2:Pos} (hu:X.A.units+64<cLine) (hN:X.N.Nodup) (hi:X.N[i]?=some x) (hx:Loc X.env.scope x) (hk:PE X k (tM K EX .B mk)) (hv:PE X v (tM K EX .B me))
  (hs:swapsWith (.Dict [some k] [v] pos) (some (.Name x pos')) pos2.line X.env=pure false:=by rfl) (hf:X.fn x=true\/X.env.scope.names.lookup x=some .local:=by first | exact Or.inl rfl | exact Or.inr rfl | assumption) :
  PS X (.Assign [.Name x pos'] (.Dict [some k] [v] pos) pos2) (tSt K EX d (fb i mk me)):=(U3 hN hi hx (mI (by omega) hk hv) hs hf).mono fun _ _ _ q=>Bg q
theorem BO {i:Nat} {x:Str} {p:Pos} (hu:X.A.units+64<cLine) (hN:X.N[i]?=some x) (hv:Vis X.env.scope x) (hk:PE X k (tM K EX .B mk)) (hd:(x == ("__debug__" : Str))=false:=by decide) (hcd:(x == ("__classdict__" : Str))=false:=by decide)
  (hm:behindInMarks .In (.Name x p)=false:=by rfl):PT X (.Compare k [.In] [.Name x p] pos) (tT K EX (mIn false i mk)):=(ym (yD (by omega) hk (M9 hN hv hd hcd)) hm).mono fun _ _ _ q=>CO q
theorem ye {i:Nat} {x:Str} {p p2:Pos} (hu:X.A.units+64<cLine) (hN:X.N[i]?=some x) (hv:Vis X.env.scope x) (hk:PE X k (tM K EX .B mk)) (he:PE X e (tM K EX .B me)) (hd:(x == ("__debug__" : Str))=false:=by decide) (hcd:(x == ("__classdict__" : Str))=false:=by decide)
  (hs:swapsWith e (some (.Subscript (.Name x p) k p2)) pos.line X.env=pure false:=by rfl):PS X (.Assign [.Subscript (.Name x p) k p2] e pos) (tSt K EX d (ci i mk me)):=(uk (by omega) (M9 hN hv hd hcd) hk he hs).mono fun _ _ _ q=>Bf q
end
end TP
namespace TP
open PySem L2
set_option maxHeartbeats 2000000
section
variable {X:Cx} {K:Frag}
end
section
variable {K:Frag}
end
theorem ng (neg:Bool) (i:Nat) (mk:Rho->R W) (ρ:Rho):mIn neg i mk ρ=(mk ρ>>=fun w=>inD ρ[i]? w neg):=rfl
theorem nC (ks:List (List Int)) (k:List Int):inD (some (.dic ks)) (.tup (k.map W.int)) false=.ok (decide (k∈ks)):=by unfold inD; rw [gW]; rfl
theorem gJ (i:Nat) (mk me:Rho->R W) (ρ:Rho):ci i mk me ρ=fh ρ[i]? (me ρ) (mk ρ) i ρ:=rfl
theorem bz (ks:List (List Int)) (w:W) (k:List Int) (i:Nat) (ρ:Rho) (h:eY (ρ.set i .un)=true) (hl:ks.length<1000):fh (some (.dic ks)) (.ok w) (.ok (.tup (k.map W.int))) i ρ=.ok (.nx (ρ.set i (.dic (io ks k)))):=by
 show putD ks i (.tup (k.map W.int)) ρ=_
 unfold putD
 rw [gW]
 exact if_pos ⟨h,hl⟩
theorem ql (i:Nat) (mk me:Rho->R W) (ρ:Rho):fb i mk me ρ=(mk ρ>>=fun w=>me ρ>>=fun _=>newD i w ρ):=rfl
theorem jd (i:Nat) (k:List Int) (ρ:Rho):newD i (.tup (k.map W.int)) ρ=.ok (.nx (ρ.set i (.dic [k]))):=by unfold newD; rw [gW]
end TP
namespace TP
open PySem L2
section
variable {X:Cx} {K:Frag} {EX:EXT} {d:Mode} {p:Pos} {es:List Expr} {mr:Rho->R (List W)}
theorem i9 {i j} (hr:PA X es (tA K EX d mr)):PA X (.Constant (.int i) j p::es) (tA K EX d (aC (mC (.int i)) mr)):=a8 c7 hr (by rfl)
theorem yb {a0 a1 a2 a3 a4 a5} {u0 u1 u2 u3 u4 u5} {p0 p1 p2 p3 p4 p5:Pos} {pos:Pos}:PE X (.List [.Constant (.int a0) u0 p0,.Constant (.int a1) u1 p1,.Constant (.int a2) u2 p2,.Constant (.int a3) u3 p3,.Constant (.int a4) u4 p4,.Constant (.int a5) u5 p5] pos) (tM K EX .F (z8 (aC (mC (.int a0)) (aC (mC (.int a1)) (aC (mC (.int a2)) (aC (mC (.int a3)) (aC (mC (.int a4)) (aC (mC (.int a5)) aN)))))))):=by
 refine w6 ?_
 refine i9 ?_
 refine i9 ?_
 refine i9 ?_
 refine i9 ?_
 refine i9 ?_
 refine i9 ?_
 exact b6
end
end TP
namespace TB
open PySem PySem.W
theorem bits_of {ns:List Int} (h:WData.layableAll [WData.list (ns.map WData.int)]=true):∀ x∈ns,Builtin.Int.intBits x<=1048576:=fun x hx=>by
 have h1:(WData.list (ns.map WData.int)).layable=true:=by simpa [WData.layableAll] using h
 have h2:(WData.list (ns.map WData.int)).weight<=2^20:=(layableW_iff.mp h1).2.2
 have key:∀ ms:List Int,x∈ms->Builtin.Int.intBits x<=WData.weightAll (ms.map WData.int):=by
  intro ms
  induction ms with
  | nil=>intro z; cases z
  | cons m ms ih=>
   intro z
   rw [List.map_cons]
   show _<=WData.weight (.int m)+1+WData.weightAll (ms.map WData.int)
   rcases List.mem_cons.mp z with e | e
   ·subst e
    have:WData.weight (.int x)=Builtin.Int.intBits x:=by rfl
    omega
   ·have:=ih e
    omega
 exact Nat.le_trans (key ns hx) (by simpa [WData.weight] using h2)
end TB
namespace Att
open PySem PySem.W PySem.Calls PyProof.Rows
theorem attach_callB {l:OpenLaw} {n:Nat} {q:Program} {loose:List Str} {XP:(Str->Option Value)->Heap->Prop} {YP:World->Heap->Prop} {d:DefRec}
  (hn:l.most=some n) (hdf:d.params.defaults = [])
  (call:∀ (w:World) (s₀ s₁:Shared) (mg mb:Str->Option Value) (fa:Addr) (o:Obj) (pm cd doc:Value) (a:Addr) (vs:List Value) (ns:List Int),
   Ground q loose [] XP w s₀ mg mb s₁.heap->YP w s₁.heap ->
   s₁.heap.get? fa=some o->o.data=.func (docDef d.name d.params d.body d.scope pm cd doc)->s₁.heap.CodeRec cd d.name->mg d.name=some (.ref fa) ->
   s₁.heap.get? a=some { cls:=.type "list",data:=.seq vs.toArray }->IntsAre vs ns->ns.length<=n->(∀ x∈ns,Builtin.Int.intBits x<=1048576)->s₁.gens=#[] ->
   codeAny (model l.prog w) callerA (.call (.ref fa) ⟨[.ref a],[]⟩) (fun r s'=>r=.ok (.ret (.bool true))/\OldK s₁.heap s'.heap/\s'.os=s₁.os/\AllBare s'.gens) s₁) :
  WalkO q loose XP YP l.row.toRowW d [] (fun f vs=>PySem.call f vs):=by
 intro w s₀ s₁ mg mb G Y fa o pm cd doc dV kV ho hd hcd hD hmg hg args vals as hpre hlay hrd hwl hlo
 obtain rfl:dV=.none:=Dflts.none hD hdf
 obtain rfl:kV=.none:=Dflts.noKw hD
 obtain ⟨a,vs,ns,rfl,rfl,hobj,hints,hlen⟩:=lT hn hpre hwl
 refine enter_call (codeAny_mono (call w s₀ s₁ mg mb fa o pm cd doc a vs ns G Y ho (fd_plain hd) hcd hmg hobj hints hlen (TB.bits_of hlay) hg) fun r s' hq=>?_)
 obtain ⟨rfl,h2,h3,h4⟩:=hq
 exact ⟨.inl ⟨.bool true,.bool true,[],rfl,fun _=>rfl,.bool true,mF l _,fun _=>⟨List.Pairwise.nil,fun _ hm=>(nomatch hm)⟩⟩,h2,h3,h4⟩
end Att
namespace L2
open PySem PySem.Spec PyProof.Rows
theorem oE {l:PySem.W.OpenLaw} {n k:Nat} {q:Program} {loose:List Str} {XP:(Str->Option Value)->Heap->Prop} {YP:World->Heap->Prop} {d:DefRec} {K:Params->Frag} {CX:World->CXT} {sp:World->Sp} {x:Str}
  (hn:l.most=some n) (hn2:n<=sizeLine) (hdf:d.params.defaults = []) (hr:Room k callerA)
  (hY:∀ (w:World) (h:Heap),YP w h->(K w.params).In h)
  (F:∀ (w:World) (mg:Str->Option Value) (fa:Addr) (h:Heap),(K w.params).In h->h.Ns mainGlobals mg->mg d.name=some (.ref fa) ->
   ∃ fd:FuncData,(∀ (s:Shared) (u:Value),BindsTo s fd ⟨[u],[]⟩ [(x,u)]) /\
    ∀ base:Heap,(K w.params).In base->base.Ns mainGlobals mg->FnOk l.prog w (K w.params) mg base (CX w) k fa fd [x] (sp w))
  (hsp:∀ (w:World) (H:Hp) (a:Addr) (ns:List Int),ns.length<=n->(∀ x∈ns,Builtin.Int.intBits x<=1048576)->iu H->SqL (K w.params) H a (ns.map V.int)->sp w [.ref a] H (fun v _=>v=.bl true) fun _ _ _=>False)
  (hCX:∀ (w:World) (H:Hp) (s:Shared) (e:Value) (s':Shared),CX w [] H s (fun _ _ _=>False) e s'->False) :
  PySem.W.WalkO q loose XP YP l.row.toRowW d [] (fun f vs=>PySem.call f vs):=by
 refine Att.attach_callB hn hdf fun w s₀ s₁ mg mb fa o pm cd doc a vs ns G Y ho hd hcd hmg hobj hints hlen hbi hg=>?_
 have KX:=hY w _ Y
 obtain ⟨fd,hb,hF⟩:=F w mg fa _ KX G.T.g hmg
 exact qt KX G.T.g G.T.b G.T.builtins G.T.nolimit hg hobj hints (Nat.le_trans hlen hn2) hr hF hb (fun H hO hS=>hsp w H a ns hlen hbi hO hS) fun H e s'=>hCX w H s₁ e s'
theorem walk_ofKB {l:PySem.W.OpenLaw} {n k:Nat} {q:Program} {loose:List Str} {XP:(Str->Option Value)->Heap->Prop} {YP:World->Heap->Prop} {d:DefRec} {K:Params->Frag} {CX:CXT} {sp:Frag->Sp} {x:Str}
  (hn:l.most=some n) (hn2:n<=sizeLine) (hdf:d.params.defaults = []) (hr:Room k callerA)
  (hY:∀ (w:World) (h:Heap),YP w h->(K w.params).In h)
  (F:∀ (w:World) (mg:Str->Option Value) (fa:Addr) (h:Heap),(K w.params).In h->h.Ns mainGlobals mg->mg d.name=some (.ref fa) ->
   ∃ fd:FuncData,(∀ (s:Shared) (u:Value),BindsTo s fd ⟨[u],[]⟩ [(x,u)]) /\
    ∀ base:Heap,(K w.params).In base->base.Ns mainGlobals mg->FnOk l.prog w (K w.params) mg base CX k fa fd [x] (sp (K w.params)))
  (hsp:∀ (K:Frag) (H:Hp) (a:Addr) (ns:List Int),ns.length<=n->(∀ x∈ns,Builtin.Int.intBits x<=1048576)->iu H->SqL K H a (ns.map V.int)->sp K [.ref a] H (fun v _=>v=.bl true) fun _ _ _=>False)
  (hCX:∀ (H:Hp) (s:Shared) (e:Value) (s':Shared),CX [] H s (fun _ _ _=>False) e s'->False) :
  PySem.W.WalkO q loose XP YP l.row.toRowW d [] (fun f vs=>PySem.call f vs):=
 oE (K:=K) (CX:=fun _=>CX) (sp:=fun w=>sp (K w.params)) hn hn2 hdf hr hY F (fun w H a ns h1 hb h2 h3=>hsp (K w.params) H a ns h1 hb h2 h3) fun _ H s e s'=>hCX H s e s'
end L2
namespace TP
open PySem L2
def CMulB (i j:Int):Prop:=CMul i j\/Builtin.Int.intBits i+Builtin.Int.intBits j<=134217728
instance (i j:Int):Decidable (CMulB i j):=by unfold CMulB; infer_instance
theorem CMulB.ok {i j:Int} (h:CMulB i j):IntMulOk i j:=by
 rcases h with h | h
 ·exact h.ok
 ·exact IntMulOk.of_le (Nat.le_refl _) (Nat.le_refl _) h
section
variable {X:Cx}
theorem C9:OpR X (binaryOp .Mult) (rI CMulB fun i j=>.int (i*j)):=opI fun _ _ _ _ _ _ _ hc q=>PyProof.Rows.mul_int q hc.ok
end
theorem mY {i j:Int} (h:-18446744073709551616<i/\i<18446744073709551616):fI CMulB t9 (.int i) (.int j)=.ok (.int (i*j)):=by
 show (if CMulB i j then _ else _)=_
 exact if_pos (.inl (.inl h))
theorem mX {i j:Int} (h:-18446744073709551616<j/\j<18446744073709551616):fI CMulB t9 (.int i) (.int j)=.ok (.int (i*j)):=by
 show (if CMulB i j then _ else _)=_
 exact if_pos (.inl (.inr h))
theorem mV {i j:Int} (h:Builtin.Int.intBits i+Builtin.Int.intBits j<=134217728):fI CMulB t9 (.int i) (.int j)=.ok (.int (i*j)):=by
 show (if CMulB i j then _ else _)=_
 exact if_pos (.inr h)
end TP
namespace TL
open PySem
theorem yL:typeLookup (.type "list_reverseiterator") "__len__" = pure none:=by rw [typeLookup_type,builtinLookup_eq_fast]; kernel_rfl
theorem qF:typeLookup (.type "list_reverseiterator") "__length_hint__" = pure (some (.builtin "list_reverseiterator.__length_hint__")):=by rw [typeLookup_type,builtinLookup_eq_fast]; kernel_rfl
theorem sub_self:isSubtype (.type "list_reverseiterator") (.type "list_reverseiterator")=pure true:=by rw [isSubtype_type]; kernel_rfl
section
variable {prog:Program} {w:World} {A:Around} {E:Value->Shared->Prop} {s:Shared}
theorem qD {I l:Addr} {i:Int} {Q:Bool->Shared->Prop} (hit:s.heap.IsRevIter I l i) (h:Q false s):wpAny (model prog w) A (Builtin.List.listLengthHint (.ref I)) Q E s:=by
 have hT:=hit.typeIs
 unfold Builtin.List.listLengthHint
 refine wpAny_bind (wpAny_specialOf hT yL ?_)
 show wpAny _ _ (specialOf (Value.ref I) (Str.ofString "__length_hint__")>>=_) _ _ _; refine wpAny_bind (wpAny_specialOf hT qF ?_)
 have hsp:splitId "list_reverseiterator.__length_hint__" = some ("list_reverseiterator", "__length_hint__"):=by decide +kernel
 dsimp only
 rw [hsp]
 dsimp only
 refine wpAny_bind (wpAny_isInstance (T := "list_reverseiterator") (b:=true) hT sub_self ?_)
 rw [if_neg (show ¬ ((!true)=true) by decide)]
 refine wpAny_ite_split (fun _=>?_) (fun hab=>absurd (by decide +kernel) hab)
 rw [if_neg (show ¬ ((Value.builtin "list_reverseiterator.__length_hint__" == Value.builtin "range_iterator.__length_hint__")=true) by decide)]
 exact wpAny_pure h
theorem vQ {R:Result->Shared->Prop} {I l S:Addr} {items:Array Value} {c₀:Nat} (res:Value) (hh:A.handled=none) (hne:l≠I) (hit:s.heap.IsRevIter I l ((items.size:Int)-1)) (hl:s.heap.IsList l items) (hSI:S≠I) (hSl:S≠l) (hn:items.size<=sizeLine)
  (hS:s.heap.get? S=some { cls:=.type "list",data:=.seq #[] c₀ })
  (hR:∀ h' tk acc' c',(∀ b o,b≠S->b≠I->s.heap.get? b=some o->h'.get? b=some o)->h'.get? S=some { cls:=.type "list",dict:=none,data:=.seq acc' c',slots:=#[] }->ItemsOf (fun i v=>items[items.size-1-i]?=some v) acc' items.size->R (.ok (.ret res)) { s with heap:=h',toks:=tk }) :
  wpAny (model prog w) A.in1 (Builtin.List.listExtendWith (.ref S) (.ref I) res)
   (fun fin s'=>match fin with | .done f=>R (.ok f) s' | .again c'=>c'.quiet=true/\codeAny (model prog w) A c' R s') (fun e s'=>R (.error e) s') s:=by
 have W:=(Walks.listRev (prog:=prog) (w:=w) (A:=A.in1) hh I l hne items).toS
 have hSf:S ∉ [I,l]:=by simp [hSI,hSl]
 unfold Builtin.List.listExtendWith; refine wpAny_bind (wpAny_typeOf hit.typeIs ?_)
 have h1:Builtin.List.listSameRef (.ref S) (.ref I)=false:=by simp [Builtin.List.listSameRef,hSI]
 have h2:(Value.type "list_reverseiterator" == Value.type "list")=false/\(Value.type "list_reverseiterator" == Value.type "tuple")=false:=by decide
 rw [h1,h2.1,h2.2]; simp only [Bool.or_false,Bool.false_eq_true,if_false]
 refine wpAny_bind (wpAny_pyIter_revIter hit ?_)
 refine wpAny_bind (wpAny_holding (qD hit ?_))
 refine wpAny_ite_split (fun hab=>absurd hab (by decide +kernel)) (fun _=>?_)
 refine wpAny_pure ⟨plainId_quiet F.plain_extend_loop _,?_⟩
 refine codeAny_extend_loopS W hn S hSf res items.size 0 s #[] c₀ rfl (Nat.zero_le _) ⟨Nat.zero_le _,by simpa using hit,hl⟩ hS (ItemsOf.nil _) fun s' acc' c' hm hS' hacc=>?_
 rw [Moved.eq_with hm]; exact hR s'.heap s'.toks acc' c' (fun b o hb hbI e=>hm.heap b o (by simp [hb,hbI]) e) hS' hacc
theorem call_list_rev {I l:Addr} {items:Array Value} {Q:Value->Shared->Prop} (hh:A.handled=none) (hne:l≠I) (hit:s.heap.IsRevIter I l ((items.size:Int)-1)) (hl:s.heap.IsList l items) (hn:items.size<=sizeLine)
  (hQ:∀ h' tk acc' c',(∀ b o,b≠I->s.heap.get? b=some o->h'.get? b=some o)->h'.get? s.heap.objs.size=some { cls:=.type "list",dict:=none,data:=.seq acc' c',slots:=#[] }->ItemsOf (fun i v=>items[items.size-1-i]?=some v) acc' items.size->Q (.ref s.heap.objs.size) { s with heap:=h',toks:=tk }) :
  wpAny (model prog w) A (call (.type "list") [.ref I]) Q E s:=by
 obtain ⟨oi,hi,hi2⟩:=id hit
 obtain ⟨ol,hol,hol2⟩:=id hl
 have hSI:s.heap.objs.size≠I:=fun e=>absurd (Heap.lt_size hi) (by rw [<- e]; exact Nat.lt_irrefl _)
 have hSl:s.heap.objs.size≠l:=fun e=>absurd (Heap.lt_size hol) (by rw [<- e]; exact Nat.lt_irrefl _)
 refine callType_codes (Q₁:=fun obj s₁=>obj=.ref s.heap.objs.size/\s₁={ s with heap:=s.heap.push { cls:=.type "list",data:=.seq #[] } }) F.called_list (F.typeCall_list_1 _) F.entry_list_init (code_list_new _ ⟨rfl,rfl⟩) fun obj s₁ h₁=>?_
 obtain ⟨rfl,rfl⟩:=h₁
 have hS:(s.heap.push { cls:=.type "list",data:=.seq #[] }).get? s.heap.objs.size=some { cls:=.type "list",data:=.seq #[] }:=Heap.get?_push_size _ rfl
 refine ⟨⟨_,hS,rfl⟩,F.args_list_init_2 _ _,?_⟩
 show wpAny _ _ (do let old <- Builtin.List.listItems (.ref s.heap.objs.size); Builtin.List.listUpdate (.ref s.heap.objs.size) (fun _=>#[]); letGo old.toList.reverse; Builtin.List.listExtendWith (.ref s.heap.objs.size) (.ref I) .none) _ _ _
 refine wpAny_bind ?_; unfold Builtin.List.listItems; refine wpAny_bind (wpAny_seqItems hS rfl (wpAny_pure ?_))
 show wpAny _ _ (updateSeq s.heap.objs.size (fun _=>#[])>>=fun _=>letGo (#[]:Array Value).toList.reverse>>=fun _=>Builtin.List.listExtendWith (.ref s.heap.objs.size) (.ref I) .none) _ _ _
 refine wpAny_bind (wpAny_updateSeq hS rfl ?_)
 have hS₂:=Heap.get?_update_self (Obj.mapSeq (fun _=>(#[]:Array Value))) hS rfl
 have oth:∀ b o,s.heap.get? b=some o->((s.heap.push { cls:=.type "list",data:=.seq #[] }).update s.heap.objs.size (Obj.mapSeq (fun _=>(#[]:Array Value)))).get? b=some o:=fun b o e=>by
  have hb:b≠s.heap.objs.size:=fun z=>absurd (Heap.lt_size e) (by rw [z]; exact Nat.lt_irrefl _)
  exact (Heap.get?_update_other _ _ (Ne.symm hb)).trans (Heap.get?_push_of_some _ e)
 refine wpAny_bind (wpAny_letGo ?_)
 refine vQ (s:={ s with heap:=(s.heap.push { cls:=.type "list",data:=.seq #[] }).update s.heap.objs.size (Obj.mapSeq (fun _=>(#[]:Array Value))) }) .none hh hne ⟨oi,oth _ _ hi,hi2⟩ ⟨ol,oth _ _ hol,hol2⟩ hSI hSl hn hS₂ fun h' tk acc' c' hk hS' hacc=>?_
 refine ⟨rfl,hQ h' tk acc' c' (fun b o hb e=>hk b o (fun z=>absurd (Heap.lt_size e) (by rw [z]; exact Nat.lt_irrefl _)) hb (oth b o e)) hS' hacc⟩
end
end TL
namespace TP
open PySem L2
theorem mj {its:List Value} {acc:Array Value} (h:ItemsOf (fun i v=>its.toArray[its.toArray.size-1-i]?=some v) acc its.toArray.size):acc.toList=its.reverse:=by
 obtain ⟨h1,h2⟩:=h
 have hl:its.toArray.size=its.length:=List.size_toArray
 rw [hl] at h1
 apply List.ext_getElem
 ·rw [Array.length_toList,List.length_reverse,h1]
 ·intro i q1 q2
  have hi:i<acc.size:=by simpa using q1
  have:=h2 i acc[i] (Array.getElem?_eq_getElem hi)
  rw [hl] at this
  rw [List.getElem_reverse,Array.getElem_toList]
  have e:its.toArray[its.length-1-i]?=some (its[its.length-1-i]'(by omega)):=by simp
  rw [e] at this
  exact (Option.some.inj this).symm
section
variable {X:Cx}
def tRv (K:Frag) (f:List V->HO) (ta:TA):TE:=fun σ H Q=>ta σ H fun vs H1=>∃ a xs,vs = [.ref a]/\SqL K H1 a xs/\∀ p,H1 p=none->Q (.ref p) (upd H1 p (f xs.reverse))
theorem uq {a:Expr} {ta:TA} {p pos p2 pos2:Pos} (hc:X.calm=true) (hgl:Gl X "list") (hml:X.mg "list" = none) (hg:Gl X "reversed") (hm:X.mg "reversed" = none) (ha:PA X [a] ta) (hs:starEach [a] X.env = [(false,eval a X.env)]:=by rfl)
  (hs2:starEach [.Call (.Name "reversed" p2) [a] [] pos2] X.env = [(false,eval (.Call (.Name "reversed" p2) [a] [] pos2) X.env)]:=by rfl):PE X (.Call (.Name "list" p) [.Call (.Name "reversed" p2) [a] [] pos2] [] pos) (tRv X.K .lst ta):=by
 intro pins s σ H Q I h
 refine wpAny_Call_Name_kw (N0 I hgl hml P7 ?_ (by decide) (by decide))
 refine PyProof.Rows.callWith_type1 ?_ hs2 (by rfl)
 rw [hs2]
 show wpAny _ _ (spliced [(false,eval (.Call (.Name "reversed" p2) [a] [] pos2) X.env)]) _ _ s
 refine Calls.spliced_cons ?_
 refine wpAny_Call_Name_kw (N0 I hg hm iH ?_ (by decide) (by decide))
 refine PyProof.Rows.callWith_type1 (thn (ha pos2 pins s σ H _ I h) fun us s1 zz81=>?_) hs (by rfl)
 obtain ⟨vs,H1,I1,r1,q1⟩:=zz81
 obtain ⟨b,xs,e,hq,q⟩:=q1
 subst e
 obtain ⟨u,rfl,ru⟩:=V8 r1
 cases ru
 obtain ⟨its,rv,pl,hz⟩:=I1.list hq
 have hl:=rv.length
 have hsz:its.toArray.size<=sizeLine:=by rw [List.size_toArray,<- hl]; exact hz
 obtain ⟨ol,hol,hol2⟩:=id pl.isList
 have hbI:b≠s1.heap.objs.size:=fun z=>absurd (Heap.lt_size hol) (by rw [z]; exact Nat.lt_irrefl _)
 refine call_reversed_list pl.isList (Calls.spliced_nil ?_)
 refine TL.call_list_rev (s:={ s1 with heap:=s1.heap.push (revObj b ((its.toArray.size:Int)-1)) }) (I1.ok.hd hc) hbI ⟨_,Heap.get?_push_size _ rfl,rfl,rfl⟩ ⟨ol,Heap.get?_push_of_some _ hol,hol2⟩ hsz fun h' tk acc' c' hk hS hacc=>?_
 have e1:=mj hacc
 have hkeep:∀ b o,s1.heap.get? b=some o->h'.get? b=some o:=fun b o e=>hk b o (fun z=>absurd (Heap.lt_size e) (by rw [z]; exact Nat.lt_irrefl _)) (Heap.get?_push_of_some _ e)
 have hge:s1.heap.objs.size<=(s1.heap.push (revObj b ((its.toArray.size:Int)-1))).objs.size:=by rw [show (s1.heap.push (revObj b ((its.toArray.size:Int)-1))).objs.size=s1.heap.objs.size+1 from by simp [Heap.push]]; omega
 refine ⟨.ref (s1.heap.push (revObj b ((its.toArray.size:Int)-1))).objs.size,_,I1.laid (t':=tk) hkeep hge (show ObjOk X.prog X.w _ h' _ (.lst xs.reverse) from ⟨by rw [List.length_reverse]; exact hz,its.reverse,c',Vals.reverse rv,?_⟩),rfl,q _ (I1.hok.fresh hge)⟩
 rw [<- e1]; simpa using hS
end
def cC:List W->R W
 | [w]=>match w with
  | .lst ws=>chks false ws.reverse
  | _=>.stuck
 | _=>.stuck
section
variable {K:Frag} {EX:EXT} {σ:St} {H:Hp} {Q:VK}
theorem Be {ma:Rho->R (List W)} (h:tM K EX .F (bA cC ma) σ H Q):tRv K .lst (tA K EX .B ma) σ H Q:=by
 obtain ⟨H0,G,ρ,I,o⟩:=h
 replace o:Out EX G H (mdW K .F H0 H) (ma ρ>>=cC) Q:=o
 refine ⟨H0,G,ρ,I,Out.bind o fun xs G1 H1 ws e1 m1 o1=>?_⟩
 have I1:=I.ext e1
 cases m1 with
 | nil=>exact o1.elim
 | cons a t=>
  cases t with
  | cons _ _=>exact o1.elim
  | nil=>
   rename_i w v
   cases w <;> first | exact o1.elim | skip
   rename_i us
   obtain ⟨p,vs,rfl,hs,r⟩:=a.lstB I1
   exact ⟨p,vs,rfl,SqL.of hs,Out.chks I1 e1.hh (c:=false) (by rw [if_neg Bool.false_ne_true]; exact r.reverse) o1⟩
end
section
variable {X:Cx} {K:Frag} {EX:EXT} {a:Expr} {pos:Pos} {mr:Rho->R (List W)}
theorem ya {p p2 pos2:Pos} (hc:X.calm=true) (hgl:Gl X "list") (hml:X.mg "list" = none) (hg:Gl X "reversed") (hm:X.mg "reversed" = none) (ha:PA X [a] (tA K EX .B mr)) (hK:X.K=K:=by rfl) (hs:starEach [a] X.env = [(false,eval a X.env)]:=by rfl)
  (hs2:starEach [.Call (.Name "reversed" p2) [a] [] pos2] X.env = [(false,eval (.Call (.Name "reversed" p2) [a] [] pos2) X.env)]:=by rfl):PE X (.Call (.Name "list" p) [.Call (.Name "reversed" p2) [a] [] pos2] [] pos) (tM K EX .F (bA cC mr)):=by
 subst hK; exact (uq hc hgl hml hg hm ha hs hs2).mono fun _ _ _ q=>Be q
end
theorem jq (ns:List Int):cC [.lst (ns.map W.int)]=.ok (.lst (ns.reverse.map W.int)):=by
 have hn:∀ l:List Int,k9 (l.map W.int)=true:=fun l=>by induction l with | nil=>rfl | cons a l ih=>simpa [k9,noL] using ih
 show TP.chks false (ns.map W.int).reverse=_
 rw [<- List.map_reverse]
 unfold TP.chks
 rw [hn,Bool.or_true,if_pos rfl]
end TP
namespace TP
open PySem L2
def kG (u:W) (ws:List W):Option Nat:=(pds ws).findIdx? fun y=>PyData.eqv y (pd u)
def fO (K:Frag):V->List V->Hp->VK->Prop:=fun x vs H Q=>∃ u ws y j,vs = [y]/\Rep K H y u/\Rep K H x (.lst ws)/\shp 8 u=true/\shp 8 (.lst ws)=true/\kG u ws=some j/\j<1000/\Q (.int (j:Int)) H
section
variable {X:Cx}
theorem qd (hu:X.A.units+64<cLine):MtR X "list.index" (fO X.K):=by
 intro pins s σ H x vs v us Q I rx rv h
 obtain ⟨u,ws,y,j,rfl,ry,rc,su,sc,hj,hj1,q⟩:=h
 obtain ⟨uy,rfl,rr⟩:=rv.one
 obtain ⟨as,qa⟩:=Rep.reads I 8 ry su rr
 obtain ⟨bs,qb⟩:=Rep.reads I 8 rc sc rx
 have la:=bK u 8 su
 have lc:=iP ws 7 sc
 have hm:X.A.units+1+min (PyData.depthAll (pds ws)) (pd u).depth<cLine:=by have:=Nat.min_le_left (PyData.depthAll (pds ws)) (pd u).depth; omega
 have qb:Reads s.heap v (.list (pds ws)) bs:=qb
 cases qb with
 | list h1 h2 h3 h4=>
  rename_i a o items n as'
  obtain ⟨oc,od,odt,osl⟩:=o
  have h2:oc=.type "list" := h2
  have h3:odt=.seq items n:=h3
  subst h2 h3
  have hmap:=SeqAt.readsAll_map (pds ws) _ _ lc.1 h4
  have heq:=SeqAt.items_eqAt (A:=X.A) h4 qa lc.1 la.1 hm
  unfold kG at hj
  rw [<- hmap,List.findIdx?_map,List.findIdx?_eq_some_iff_getElem] at hj
  obtain ⟨hlt,ht,hno⟩:=hj
  have hlt':j<items.size:=by simpa using hlt
  refine call_meets PySem.F.slot_list_index ⟨_,h1,rfl⟩ PySem.F.entry_list_index (PySem.F.args_list_index_2 _ _) (SeqAt.list_indexAt a items n od osl uy (fun z=>PyData.eqv (SeqAt.readOf s.heap z) (pd u)) j hlt' (by omega) (by simpa using ht) (fun m hm1 hm2=>by simpa using hno m hm2)) ⟨h1,heq,?_⟩
  exact ⟨.int (j:Int),H,I.tok _,⟨_,rfl⟩,q⟩
end
def gX (ws:List W) (u:W):R W:=if (shp 8 u&&shp 8 (.lst ws))=true then (match kG u ws with
 | some j=>if j<1000 then .ok (.int (j:Int)) else .stuck
 | none=>.stuck) else .stuck
def Rix (x:R W) (y:R W):R W:=x>>=fun x=>(match x with
 | .lst ws=>y>>=fun y=>gX ws y
 | _=>.stuck)
def gG (mo me:Rho->R W):Rho->R W:=fun ρ=>Rix (mo ρ) (me ρ)
theorem ji (mo me:Rho->R W) (ρ:Rho):gG mo me ρ=Rix (mo ρ) (me ρ):=rfl
theorem ou (ws:List W) (u:W):Rix (.ok (.lst ws)) (.ok u)=gX ws u:=rfl
section
variable {K:Frag} {EX:EXT} {d:Mode} {σ:St} {H:Hp} {Q:VK}
theorem wb {mo me:Rho->R W} (h:tM K EX d (gG mo me) σ H Q):tBM K "list" (fO K) (tM K EX .B mo) (tA K EX .B (aC me aN)) σ H Q:=by
 obtain ⟨H0,G,ρ,I,o⟩:=h
 unfold gG Rix at o
 refine ⟨H0,G,ρ,I,Out.bind o fun x G1 H1 w e1 m1 o1=>?_⟩
 have I1:=I.ext e1
 cases w <;> first | exact o1.elim | skip
 rename_i ws
 obtain ⟨p,vs,rfl,hs,_⟩:=m1.lstB I1
 refine ⟨.inl ⟨rfl,vs,SqL.of hs⟩,H0,G1,ρ,I1,?_⟩
 have key:Out EX G1 H1 (mdW K .B H0 H1) (me ρ) fun y H2=>fO K (.ref p) [y] H2 Q:=Out.bind (md:=mdW K .B H0 H1) o1 fun y G2 H2 u e2 m2 o2=>by
  have I2:=I1.ext e2
  unfold gX at o2
  by_cases c:(shp 8 u&&shp 8 (.lst ws))=true
  ·rw [if_pos c] at o2
   have c':shp 8 u=true/\shp 8 (.lst ws)=true:=by simpa using c
   cases hj:kG u ws with
   | none=>rw [hj] at o2; exact o2.elim
   | some j=>
    rw [hj] at o2
    by_cases hl:j<1000
    ·dsimp only at o2
     rw [if_pos hl] at o2
     exact ⟨u,ws,y,j,rfl,m2.whole I2,(m1.move e2).whole I2,c'.1,c'.2,hj,hl,o2 _ G2 H2 (Ext.refl I2.gh) (Md.sca rfl (fun _=>.int) d)⟩
    ·dsimp only at o2
     rw [if_neg hl] at o2; exact o2.elim
  ·rw [if_neg c] at o2; exact o2.elim
 show Out EX G1 H1 (mdA K .B H0 H1) (me ρ>>=fun w=>aN ρ>>=fun ws=>.ok (w::ws)) _
 revert key
 cases me ρ with
 | stuck=>exact id
 | ex e=>exact id
 | ok u=>
  intro key v G2 H2 e2 m2
  cases m2 with
  | cons a t=>cases t; exact key _ G2 H2 e2 a
end
section
variable {X:Cx} {K:Frag} {EX:EXT} {d:Mode} {o e:Expr} {apos cpos:Pos} {mo me:Rho->R W}
theorem ug (hu:X.A.units+64<cLine) (ho:PE X o (tM K EX .B mo)) (he:PE X e (tM K EX .B me)) (hK:X.K=K:=by rfl)
  (hbase:attributeBase o "index" X.env (eval o X.env)=eval o X.env:=by rfl)
  (hfew:((backTo cpos (starEach [e] X.env)).all (fun x=>!x.1)&&(backToKw cpos (keywordEach [] X.env)).all (fun x=>x.1.isSome)
   && decide (([e]:List Expr).length+([]:List Keyword).length+(if ([]:List Keyword).isEmpty then 0 else 1)<30))=true:=by rfl)
  (hline:(apos.endLine == cpos.line)=true:=by rfl) (hs:starEach [e] X.env=(false,eval e X.env)::starEach [] X.env:=by rfl) (hplain:(backTo cpos (starEach [] X.env)).any (·.1)=false:=by rfl) :
  PE X (.Call (.Attribute o "index" apos) [e] [] cpos) (tM K EX d (gG mo me)):=by
 subst hK; exact (rS PySem.F.plainAttrs_list PySem.F.slot_list_index PySem.F.type_list_index (qd hu) ho (a8 he b6 hs) hbase hfew hline hs hplain).mono fun _ _ _ q=>wb q
end
end TP
namespace TP
open PySem L2
def OutW (K:Frag) (EX:EXT) (d:Mode) (H0:Hp) (r:R Fl) (D:Ends):Prop:=match r with
 | .ok (.nx ρ)=>∀ G' σ' H',PIv K H0 G' ρ σ' H'->D.nx σ' H'
 | .ok (.bk ρ)=>∀ G' σ' H',PIv K H0 G' ρ σ' H'->D.bk σ' H'
 | .ok (.ct ρ)=>∀ G' σ' H',PIv K H0 G' ρ σ' H'->D.ct σ' H'
 | .ok (.rt w)=>∀ v G' H',Same G' H'->Same H0 H'->(∀ a o,H0 a=some o->isL o=true->G' a=none)->Md K H0 H0 G' H' v w d->D.rt v H'
 | .ex e=>∀ H',Same H0 H'->EX e H'
 | .stuck=>False
def tStW (K:Frag) (EX:EXT) (d:Mode) (m:Rho->R Fl):TS:=fun D σ H=>∃ H0 G ρ,PIv K H0 G ρ σ H/\OutW K EX d H0 (m ρ) D
section
variable {K:Frag} {EX:EXT} {H0 G H G1 H1 G2 H2:Hp} {ρ:Rho} {σ:St} {d:Mode} {D:Ends}
theorem Z2 {H:Hp} {a:Addr} {o:HO}:upd H a o a=some o:=by unfold upd; rw [if_pos rfl]
def clS:Sl->Sl
 | .un=>.un
 | .val w=>if noL w=true then .val w else .un
 | .par w=>if noL w=true then .val w else .un
 | .own ws=>if k9 ws=true then .own ws else .un
 | .dic ks=>.dic ks
 | .dik ks=>.dik ks
 | .iop p ws=>if k9 ws=true then .iop p ws else .un
 | .hz _=>.un
def subS (i j:Nat) (us ws':List W) (ρ:Rho):Rho:=(ρ.map clS).set i (.val (.tup (us.set j (.lst ws'))))
end
section
variable {X:Cx} {K:Frag} {EX:EXT} {d:Mode} {e:Expr} {pos:Pos} {ma:Rho->R W} {m n:Rho->R Fl} {ta:Rho->R Bool} {st:Stmt} {sts:List Stmt}
end
end TP
namespace TP
open PySem L2
set_option maxHeartbeats 2000000
section
variable {X:Cx} {K:Frag}
end
section
variable {K:Frag}
end
end TP
namespace TP
open PySem L2
def Hx (p:Addr) (H0 H1:Hp):Prop:=(∀ a,a≠p->H1 a=H0 a)/\∃ vs,H1 p=some (.lst vs)
def Di (K:Frag) (EX:EXT) (p:Addr) (H0:Hp) (r:R Fl) (D:Ends):Prop:=match r with
 | .ok (.nx ρ)=>∀ H0' G' σ' H',Hx p H0 H0'->PIv K H0' G' ρ σ' H'->D.nx σ' H'
 | .ok (.bk ρ)=>∀ H0' G' σ' H',Hx p H0 H0'->PIv K H0' G' ρ σ' H'->D.rt .non H'
 | .ex e=>∀ H',EX e H'
 | _=>False
def tStI (K:Frag) (EX:EXT) (p:Addr) (m:Rho->R Fl):TS:=fun D σ H=>∃ H0 G ρ,PIv K H0 G ρ σ H/\(∃ vs,H0 p=some (.lst vs))/\Di K EX p H0 (m ρ) D
def nbR:R Fl->R Fl
 | .ok (.nx ρ)=>.ok (.nx ρ)
 | .ex e=>.ex e
 | _=>.stuck
def nb (m:Rho->R Fl):Rho->R Fl:=fun ρ=>nbR (m ρ)
section
variable {K:Frag} {EX:EXT} {H0 H0' G H G1 H1 G2 H2:Hp} {ρ:Rho} {σ:St} {d:Mode} {D:Ends} {p:Addr}
def clI:Sl->Sl
 | .un=>.un
 | .val w=>.val w
 | .par w=>if noL w=true then .val w else .un
 | .own ws=>.own ws
 | .dic ks=>.dic ks
 | .dik ks=>.dik ks
 | .iop _ _=>.un
 | .hz _=>.un
theorem jC {s:Sl} {ws:List W} (h:clI s=.own ws):s=.own ws:=by
 cases s with
 | un=>cases h
 | val w=>cases h
 | par w=>
  by_cases c:noL w=true
  ·rw [clI,if_pos c] at h; cases h
  ·rw [clI,if_neg c] at h; cases h
 | own us=>exact h
 | dic ks=>cases h
 | dik ks=>cases h
 | iop q us=>cases h
 | hz _=>cases h
def ioR (p:Addr) (ρ:Rho):R (List W):=match (ρ[1]?:Option Sl) with
 | some (.iop q cs)=>if q=p then .ok cs else .stuck
 | _=>.stuck
def BK (n N:Nat) (m:Addr->Rho->R Fl) (p:Addr) (w1:W) (cs wr:List W):R (List W):=if wr.length+2=n/\k9 cs=true then (match m p (.par w1::.iop p cs::(wr.map Sl.par++List.replicate (N-n) Sl.un)) with
 | .ok (.nx ρ)=>ioR p ρ
 | .ok (.bk ρ)=>ioR p ρ
 | _=>.stuck) else .stuck
open Classical in
def runIOA (n N:Nat) (m:Addr->Rho->R Fl) (w1:W) (cs wr:List W):R (List W):=if h:∃ cs',∀ p,BK n N m p w1 cs wr=.ok cs' then .ok (Classical.choose h) else .stuck
end
section
variable {X:Cx} {K:Frag} {EX:EXT} {d:Mode} {e:Expr} {es:List Expr} {pos:Pos} {ma:Rho->R W} {m n:Rho->R Fl} {ta:Rho->R Bool} {st:Stmt} {sts:List Stmt} {p:Addr} {mr:Rho->R (List W)}
end
end TP
namespace TP
open PySem L2
section
variable {K:Frag} {EX:EXT} {H0 G H:Hp} {ρ:Rho} {σ:St}
theorem Rep.ofNoL {v:V} {w:W} (r:Rep K H v w) (h:noL w=true):Rep K (v4 H) v w:=Rep.clean (PIv.begin (vs:=[]) (ws:=[]) (k:=0) (k':=0) .nil rfl) (by rw [dU]; exact r) h
theorem yP (K:Frag) (H:Hp):Same (v4 H) H:=(PIv.begin (K:=K) (H:=H) (vs:=[]) (ws:=[]) (k:=0) (k':=0) .nil rfl).gh
end
section
variable {X:Cx} {K:Frag} {e:Expr} {es:List Expr} {pos:Pos} {mr:Rho->R (List W)}
end
end TP
namespace TP
open PySem L2
section
variable {X:Cx}
end
section
variable {K:Frag} {EX:EXT} {H0 G H:Hp} {ρ:Rho} {σ:St} {d:Mode} {D:Ends}
end
section
variable {X:Cx} {K:Frag} {EX:EXT} {d:Mode} {e:Expr} {pos:Pos} {ma:Rho->R W}
end
end TP
namespace TP
open PySem L2
section
open PySem.W PyProof.Rows
variable {prog:Program} {w:World} {A:Around} {E:Value->Shared->Prop} {s:Shared}
theorem items_int:∀ {xs:List Int} {its:List Value},Vals (xs.map V.int) its->ItemsAre (intKind prog w) xs its:=by
 intro xs
 induction xs with
 | nil=>intro its h; cases h; exact .nil
 | cons x xs ih=>
  intro its h
  cases h with
  | cons r t=>
   obtain ⟨tk,rfl⟩:=r
   exact .cons (by simp [intKind,Value.isInt]) (ih t)
end
end TP
namespace TP
open PySem L2
section
variable {X:Cx} {pins:List (Addr×Obj)} {σ:L2.St} {H:Hp} {s:Shared}
end
section
open PySem.W PyProof.Rows
variable {Y:Cx} {K:Frag} {pn:List (Addr×Obj)} {σ:L2.St}
end
end TP
namespace TP
open PySem L2
section
open PySem.W PyProof.Rows
variable {Y:Cx} {K:Frag} {pins:List (Addr×Obj)} {σ:L2.St}
end
section
open PySem.W PyProof.Rows
variable {X:Cx} {K:Frag}
end
section
variable {K:Frag}
end
section
variable {X:Cx} {K:Frag} {EX:EXT} {e:Expr} {pos:Pos} {mr:Rho->R (List W)}
end
end TP
namespace TP
open PySem L2
section
open PySem.W PyProof.Rows
variable {X:Cx} {e:Expr} {te:TE} {st:Expr} {tk:TO} {pos p2:Pos}
end
section
variable {K:Frag} {EX:EXT} {σ:St} {H:Hp} {Q:VK}
end
section
variable {X:Cx} {K:Frag} {EX:EXT} {e:Expr} {pos:Pos} {ma:Rho->R W}
end
end TP
namespace TP
open PySem L2
section
variable {K:Frag} {EX:EXT} {H0 G H:Hp} {ρ:Rho} {σ:St} {d:Mode} {D:Ends}
end
section
variable {X:Cx} {K:Frag} {EX:EXT} {d:Mode} {e:Expr} {pos:Pos} {ma:Rho->R W}
end
end TP
namespace TP
open PySem L2
section
variable {K:Frag} {EX:EXT} {H0 G H G1 H1 F:Hp} {ρ:Rho} {σ:St} {d:Mode} {D:Ends}
end
section
variable {X:Cx} {K:Frag} {EX:EXT} {d:Mode} {e k v:Expr} {pos:Pos} {mk me:Rho->R W}
end
end TP
namespace TP
open PySem PyProof.Rows
def kk (rk:Keyed->Int) (xs:Array Keyed) (i:Nat):Int:=match xs[i]? with
 | some p=>rk p
 | none=>0
theorem kw {l r:Nat} (h:l<=r):l<=(l+r)/2:=(Nat.le_div_iff_mul_le (by decide)).mpr (by rw [Nat.mul_two]; exact Nat.add_le_add_left h _)
theorem eZ {l r:Nat} (h:¬ l≥r):(l+r)/2<r:=(Nat.div_lt_iff_lt_mul (by decide)).mpr (by rw [Nat.mul_two]; exact Nat.add_lt_add_right (Nat.lt_of_not_le h) _)
theorem aG {lo hi:Nat} (h:¬ lo≥hi):lo+(hi-lo)/2<hi:=Nat.add_lt_of_lt_sub' (Nat.div_lt_self (Nat.sub_pos_of_lt (Nat.lt_of_not_le h)) (by decide))
theorem xa {r m l n x:Nat} (h1:l<=m) (hf:r-l<=n-x):r-(m+1)<=n-(x+1):=Nat.le_trans (Nat.sub_le_sub_left (Nat.succ_le_succ h1) r) (Nat.pred_le_pred hf)
theorem xb {r m l n x:Nat} (h1:l<=m) (h2:m<r) (hf:r-l<=n-x):m-l<=n-(x+1):=Nat.le_pred_of_lt (Nat.lt_of_lt_of_le (Nat.sub_lt_sub_right h1 h2) hf)
theorem sb1 {A n:Nat} (h0:0<n) (h:n<=A):A-(n-1)=A-n+1:=by
 cases n with
 | zero=>exact absurd h0 (Nat.lt_irrefl _)
 | succ m=>exact (Nat.succ_pred_eq_of_pos (Nat.sub_pos_of_lt h)).symm
theorem sb2 {A n k:Nat} (h:n<=A) (hk:k<=n):A-k=A-n+(n-k):=(Nat.sub_add_sub_cancel h hk).symm
theorem sb3 {lo x q k:Nat} (hq:q<=x) (h:lo+x-q<=k):x-q<=k-lo:=by rw [Nat.add_sub_assoc hq] at h; exact Nat.le_sub_of_add_le' h
theorem sb4 {lo x q k:Nat} (hq:q<=x) (h:lo+x-q<=k):lo+(k-lo)=k:=Nat.add_sub_cancel' (Nat.le_trans (by rw [Nat.add_sub_assoc hq]; exact Nat.le_add_right _ _) h)
theorem sb5 {lo j:Nat} (h:0<j):lo+(j-1)=lo+j-1:=(Nat.add_sub_assoc h lo).symm
theorem mr1 {lo m i:Nat} (h:i<m):lo+(lo+m)-1-(lo+i)=lo+(m-1-i):=by omega
theorem ms0 {n m x y T:Nat} (h:n+1+m+x+min y 1<=T):n+m+x+1<=T:=Nat.le_trans (Nat.le_trans (Nat.le_of_eq (show n+1+m+x=n+m+x+1 by rw [Nat.add_right_comm n 1 m,Nat.add_right_comm (n+m) 1 x]).symm) (Nat.le_add_right _ _)) h
theorem qe {n m x y T:Nat} (h:n+m+x+min y 1<=T) (h0:0<n):n-1+m+x+1<=T:=by
 cases n with
 | zero=>exact absurd h0 (Nat.lt_irrefl _)
 | succ n=>exact ms0 h
theorem ms1 {n m x y T:Nat} (h:n+m+x+min y 1<=T) (h0:0<n):n-1+m+x+min (y+1) 1<=T:=Nat.le_trans (Nat.add_le_add_left (Nat.min_le_right (y+1) 1) _) (qe h h0)
theorem yQ {n m x y T:Nat} (h:n+m+x+min y 1<=T) (h0:0<m):n+(m-1)+x+1<=T:=by rw [Nat.add_comm n (m-1)]; exact qe (by rw [Nat.add_comm m n]; exact h) h0
theorem ms2 {n m x y T:Nat} (h:n+m+x+min y 1<=T) (h0:0<m):n+(m-1)+x+min (y+1) 1<=T:=Nat.le_trans (Nat.add_le_add_left (Nat.min_le_right (y+1) 1) _) (yQ h h0)
theorem ms3 {x y s:Nat} (h:x+min y 1+1<=s):x+min (y+1) 1+1<=s+1:=Nat.succ_le_succ (Nat.le_trans (Nat.add_le_add_left (Nat.min_le_right (y+1) 1) x) (Nat.le_trans (Nat.succ_le_succ (Nat.le_add_right x _)) h))
theorem yS {i j k:Nat} (h:i<=k/\k<j):i<=i+j-1-k/\i+j-1-k<j:=by
 have hk:k<=j-1:=Nat.le_pred_of_lt h.2
 have e:i+j-1-k=i+(j-1-k):=by rw [Nat.add_sub_assoc (Nat.lt_of_le_of_lt (Nat.zero_le k) h.2),Nat.add_sub_assoc hk]
 rw [e]
 exact ⟨Nat.le_add_right _ _,Nat.lt_of_le_of_lt (Nat.le_trans (Nat.add_le_add_right h.1 _) (Nat.le_of_eq (Nat.add_sub_cancel' hk))) (Nat.sub_lt (Nat.lt_of_le_of_lt (Nat.zero_le k) h.2) (by decide))⟩
theorem sb6 {lo x A:Nat} (hx:0<x) (h:lo+x<=A):lo+x-1<A:=Nat.lt_of_lt_of_le (Nat.sub_lt (Nat.lt_of_lt_of_le hx (Nat.le_add_left _ _)) (by decide)) h
theorem Bp {f g:Nat->Int} {k l:Nat} (hl:l<=k) (hg:∀ i,g i=if i=l then f k else if l<i/\i<=k then f (i-1) else f i) (u:∀ i j,i<=j->j<k->f i<=f j) (hlo:∀ i,i<l->f i<=f k) (hhi:∀ i,l<=i->i<k->f k<f i) (i j:Nat) (hij:i<=j) (hj:j<k+1):g i<=g j:=by
 have lt:∀ i,i<l->g i=f i:=fun i h=>by rw [hg,if_neg (Nat.ne_of_lt h),if_neg fun z=>Nat.lt_asymm z.1 h]
 have eq:g l=f k:=by rw [hg,if_pos rfl]
 have gt:∀ i,l<i->i<=k->g i=f (i-1):=fun i h h2=>by rw [hg,if_neg (Nat.ne_of_gt h),if_pos ⟨h,h2⟩]
 have hj:=Nat.le_of_lt_succ hj
 rcases Nat.lt_trichotomy j l with c | rfl | c
 ·rw [lt j c,lt i (Nat.lt_of_le_of_lt hij c)]; exact u i j hij (Nat.lt_of_lt_of_le c hl)
 ·rcases Nat.lt_or_eq_of_le hij with d | rfl
  ·rw [lt i d,eq]; exact hlo i d
  ·exact Int.le_refl _
 ·rw [gt j c hj]
  cases j with
  | zero=>exact absurd c (Nat.not_lt_zero _)
  | succ j=>
   have cj:=Nat.le_of_lt_succ c
   rcases Nat.lt_trichotomy i l with d | rfl | d
   ·rw [lt i d]; exact u i j (Nat.le_trans (Nat.le_of_lt d) cj) hj
   ·rw [eq]; exact Int.le_of_lt (hhi j cj hj)
   ·rw [gt i d (Nat.le_trans hij hj)]; exact u (i-1) j (Nat.pred_le_pred hij) hj
theorem cu {rk:Keyed->Int} {xs ys:Array Keyed} {i j:Nat} (h:xs[i]?=ys[j]?):kk rk xs i=kk rk ys j:=by unfold kk; rw [h]
theorem S6 {rk:Keyed->Int} {xs:Array Keyed} {i:Nat} {p:Keyed} (h:xs[i]?=some p):kk rk xs i=rk p:=by unfold kk; rw [h]
def Cmp (prog:Program) (w:World) (A:Around) (s:Shared) (κ:SortKind) (rk:Keyed->Int) (a₀:Array Keyed):Prop:=∀ x∈a₀,∀ y∈a₀,∀ Q:Bool->Shared->Prop,Q (decide (rk x<rk y)) s->wpAny (model prog w) A (keyLt' κ x.1 y.1) Q (fun _ _=>False) s
section
variable {prog:Program} {w:World} {A:Around} {E:Value->Shared->Prop} {s:Shared} {a₀:Array Keyed} {κ:SortKind} {rk:Keyed->Int}
theorem bE {st:SortSt} {x y:Keyed} {Q:Option Bool->SortSt->Prop} (hc:Cmp prog w A s κ rk a₀) (hx:x∈a₀) (hy:y∈a₀) (hk:kindOf st=κ) (h:Q (some (decide (rk x<rk y))) st):wpS (model prog w) A E s (lt' x y) Q st:=by
 rw [lt'_eq]
 refine wpS_bind (wpS_get ?_)
 rw [hk]
 refine wpS_bind (wpS_lift (wpAny_attempt (wpAny_mono (hc x hx y hy (fun c s'=>c=decide (rk x<rk y)/\s'=s) ⟨rfl,rfl⟩) (fun c s' hcs=>?_) fun _ _ hF=>hF.elim)))
 obtain ⟨rfl,rfl⟩:=hcs
 exact ⟨rfl,wpS_pure h⟩
theorem j3 {st:SortSt} {arr:Array Keyed} {i:Nat} {x:Keyed} {Q:Keyed->SortSt->Prop} (h:arr[i]?=some x) (q:Q x st):wpS (model prog w) A E s (elem' arr i) Q st:=by
 rw [elem'_eq,h]
 exact wpS_pure q
def vy:Bool->Keyed->Array Keyed->Nat->Nat->Nat->StateT SortSt Sem (Option Nat):=sortPriv% PySem.Builtin.gallop
def bey (left:Bool) (key z:Int):Bool:=if left then decide (z<key) else !decide (key<z)
theorem X9 {left:Bool} {key z y:Int} (h:z<=y) (hb:bey left key y=true):bey left key z=true:=by
 unfold bey at hb ⊢
 cases left
 ·simp at hb ⊢; omega
 ·simp at hb ⊢; omega
theorem aw {left:Bool} {key z y:Int} (h:z<=y) (hb:bey left key z=false):bey left key y=false:=by
 cases q:bey left key y with
 | false=>rfl
 | true=>rw [X9 h q] at hb; cases hb
theorem Z0 {st:SortSt} {left:Bool} {key:Keyed} {arr:Array Keyed} {j:Nat} {Q:Option Bool->SortSt->Prop} (hc:Cmp prog w A s κ rk a₀) (hk:kindOf st=κ) (hkey:key∈a₀) (harr:∃ x∈a₀,arr[j]?=some x)
  (h:Q (some (bey left (rk key) (kk rk arr j))) st):wpS (model prog w) A E s (elem' arr j>>=fun x=>if left=true then lt' x key else lt' key x>>=fun r=>pure (r.map (!·))) Q st:=by
 obtain ⟨x,hx,e⟩:=harr
 rw [S6 e] at h
 refine wpS_bind (j3 e ?_)
 cases left
 ·exact wpS_bind (bE hc hkey hx hk (wpS_pure h))
 ·exact bE hc hx hkey hk h
theorem J0 {st:SortSt} {left:Bool} {key:Keyed} {arr:Array Keyed} {base n hint:Nat} {Q:Option Nat->SortSt->Prop} (hc:Cmp prog w A s κ rk a₀) (hk:kindOf st=κ) (hkey:key∈a₀) (harr:∀ i,i<n->∃ x∈a₀,arr[base+i]?=some x)
  (hs:∀ i j,i<=j->j<n->kk rk arr (base+i)<=kk rk arr (base+j)) (hh:hint<n)
  (h:∀ k,k<=n->(∀ i,i<k->bey left (rk key) (kk rk arr (base+i))=true)->(∀ i,k<=i->i<n->bey left (rk key) (kk rk arr (base+i))=false)->Q (some k) st):wpS (model prog w) A E s (vy left key arr base n hint) Q st:=by
 have last:∀ lo hi,hi<=n->lo<=hi->(∀ i,i<lo->bey left (rk key) (kk rk arr (base+i))=true)->(∀ i,hi<=i->i<n->bey left (rk key) (kk rk arr (base+i))=false) ->
   ∀ {R:Option (Option Nat)×Nat×Nat->SortSt->Prop} {body:Nat->Option (Option Nat)×Nat×Nat->StateT SortSt Sem (ForInStep (Option (Option Nat)×Nat×Nat))},
   (∀ x lo hi R',lo≥hi->R' (.done (none,lo,hi)) st->wpS (model prog w) A E s (body x (none,lo,hi)) R' st) ->
   (∀ x lo hi R',lo<hi->hi<=n->R' (if bey left (rk key) (kk rk arr (base+(lo+(hi-lo)/2)))=true then .yield (none,lo+(hi-lo)/2+1,hi) else .yield (none,lo,lo+(hi-lo)/2)) st->wpS (model prog w) A E s (body x (none,lo,hi)) R' st) ->
   (∀ lo hi,Q (some hi) st->R (none,lo,hi) st)->wpS (model prog w) A E s (forIn [0:n] (none,lo,hi) body) R st:=by
  intro lo hi hn hl h1 h2 R body hb1 hb2 hR
  refine wpS_forRange (fun x c st'=>st'=st/\∃ lo hi,c=(none,lo,hi)/\hi<=n/\lo<=hi/\hi-lo<=n-x/\(∀ i,i<lo->bey left (rk key) (kk rk arr (base+i))=true)/\(∀ i,hi<=i->i<n->bey left (rk key) (kk rk arr (base+i))=false)) ?_ ?_ ⟨rfl,lo,hi,rfl,hn,hl,by omega,h1,h2⟩
  ·rintro x c st' _ hx ⟨rfl,lo,hi,rfl,hn,hl,hd,h1,h2⟩
   by_cases hge:lo≥hi
   ·refine hb1 x lo hi _ hge ?_
    have:lo=hi:=by omega
    subst this
    exact hR _ _ (h lo hn h1 h2)
   ·refine hb2 x lo hi _ (Nat.lt_of_not_le hge) hn ?_
    cases q:bey left (rk key) (kk rk arr (base+(lo+(hi-lo)/2))) with
    | true=>
     rw [if_pos rfl]
     exact ⟨rfl,_,_,rfl,hn,aG hge,xa (Nat.le_add_right _ _) hd,fun i hi'=>X9 (hs i _ (Nat.le_of_lt_succ hi') (Nat.lt_of_lt_of_le (aG hge) hn)) q,h2⟩
    | false=>
     rw [if_neg Bool.false_ne_true]
     exact ⟨rfl,_,_,rfl,Nat.le_of_lt (Nat.lt_of_lt_of_le (aG hge) hn),Nat.le_add_right _ _,xb (Nat.le_add_right _ _) (aG hge) hd,h1,fun i a b=>aw (hs _ i a b) q⟩
  ·rintro c st' ⟨rfl,lo,hi,rfl,hn,hl,hd,h1,h2⟩
   have:lo=hi:=by omega
   subst this
   exact hR _ _ (h lo hn h1 h2)
 refine wpS_bind (Z0 hc hk hkey (harr hint hh) ?_)
 dsimp only
 cases q0:bey left (rk key) (kk rk arr (base+hint)) with
 | true=>
  rw [if_pos rfl]
  refine wpS_bind (wpS_mono (wpS_forRange (fun x c st'=>st'=st/\∃ lo ofs,c=(none,lo,ofs)/\lo<ofs/\x<ofs/\hint+lo<n/\bey left (rk key) (kk rk arr (base+(hint+lo)))=true)
   (Q:=fun c st'=>st'=st/\∃ lo ofs,c=(none,lo,ofs)/\lo<ofs/\hint+lo<n/\bey left (rk key) (kk rk arr (base+(hint+lo)))=true/\(hint+ofs<n->bey left (rk key) (kk rk arr (base+(hint+ofs)))=false)) ?_ ?_ ⟨rfl,0,1,rfl,by omega,by omega,by omega,q0⟩) ?_)
  ·rintro x c st' _ hx ⟨rfl,lo,ofs,rfl,h1,h2,h3,h4⟩
   dsimp only
   by_cases hge:ofs≥n-hint
   ·rw [if_pos hge]
    exact wpS_pure ⟨rfl,lo,ofs,rfl,h1,h3,h4,fun _=>by omega⟩
   ·rw [if_neg hge]
    refine wpS_bind (Z0 hc hk hkey (harr _ (by omega)) ?_)
    dsimp only
    cases q:bey left (rk key) (kk rk arr (base+(hint+ofs))) with
    | true=>exact wpS_pure ⟨rfl,_,_,rfl,by omega,by omega,by omega,q⟩
    | false=>exact wpS_pure ⟨rfl,lo,ofs,rfl,h1,h3,h4,fun _=>q⟩
  ·rintro c st' ⟨rfl,lo,ofs,rfl,h1,h2,h3,h4⟩
   exact ⟨rfl,lo,ofs,rfl,h1,h3,h4,fun _=>by omega⟩
  ·rintro c st' ⟨rfl,lo,ofs,rfl,h1,h3,h4,h5⟩
   dsimp only
   refine wpS_bind (last _ _ (Nat.le_trans (Nat.add_le_add_left (Nat.min_le_right _ _) hint) (Nat.le_of_eq (Nat.add_sub_cancel' (Nat.le_of_lt hh)))) (Nat.add_le_add_left (Nat.le_min.mpr ⟨h1,Nat.lt_sub_iff_add_lt'.mpr h3⟩) hint) (fun i hi=>X9 (hs i (hint+lo) (Nat.le_of_lt_succ hi) h3) h4) (fun i a b=>?_) ?_ ?_ fun lo hi hq=>?_)
   ·have:hint+ofs<n:=by omega
    exact aw (hs (hint+ofs) i (by omega) b) (h5 this)
   ·intro x lo hi R' hge hR
    dsimp only
    rw [if_pos hge]
    exact wpS_pure hR
   ·intro x lo hi R' hge hin hR
    dsimp only
    rw [if_neg (Nat.not_le_of_lt hge)]
    refine wpS_bind (Z0 hc hk hkey (harr _ (Nat.lt_of_lt_of_le (aG (Nat.not_le_of_lt hge)) hin)) ?_)
    dsimp only
    cases q:bey left (rk key) (kk rk arr (base+(lo+(hi-lo)/2))) with
    | true=>rw [q,if_pos rfl] at hR; exact wpS_pure hR
    | false=>rw [q,if_neg Bool.false_ne_true] at hR; exact wpS_pure hR
   ·exact wpS_pure hq
 | false=>
  rw [if_neg Bool.false_ne_true]
  refine wpS_bind (wpS_mono (wpS_forRange (fun x c st'=>st'=st/\∃ lo ofs,c=(none,lo,ofs)/\lo<ofs/\x<ofs/\lo<=hint/\bey left (rk key) (kk rk arr (base+(hint-lo)))=false)
   (Q:=fun c st'=>st'=st/\∃ lo ofs,c=(none,lo,ofs)/\lo<ofs/\lo<=hint/\bey left (rk key) (kk rk arr (base+(hint-lo)))=false/\(ofs<=hint->bey left (rk key) (kk rk arr (base+(hint-ofs)))=true)) ?_ ?_ ⟨rfl,0,1,rfl,by omega,by omega,by omega,q0⟩) ?_)
  ·rintro x c st' _ hx ⟨rfl,lo,ofs,rfl,h1,h2,h3,h4⟩
   dsimp only
   by_cases hge:ofs≥hint+1
   ·rw [if_pos hge]
    exact wpS_pure ⟨rfl,lo,ofs,rfl,h1,h3,h4,fun _=>by omega⟩
   ·rw [if_neg hge]
    refine wpS_bind (Z0 hc hk hkey (harr _ (by omega)) ?_)
    dsimp only
    cases q:bey left (rk key) (kk rk arr (base+(hint-ofs))) with
    | false=>exact wpS_pure ⟨rfl,_,_,rfl,by omega,by omega,by omega,q⟩
    | true=>exact wpS_pure ⟨rfl,lo,ofs,rfl,h1,h3,h4,fun _=>q⟩
  ·rintro c st' ⟨rfl,lo,ofs,rfl,h1,h2,h3,h4⟩
   exact ⟨rfl,lo,ofs,rfl,h1,h3,h4,fun _=>by omega⟩
  ·rintro c st' ⟨rfl,lo,ofs,rfl,h1,h3,h4,h5⟩
   dsimp only
   refine wpS_bind (last _ _ (Nat.le_of_lt (Nat.lt_of_le_of_lt (Nat.sub_le _ _) hh)) (Nat.le_trans (Nat.sub_le_sub_left (Nat.le_min.mpr ⟨h1,Nat.succ_le_succ h3⟩) (hint+1)) (Nat.le_of_eq (Nat.add_sub_add_right hint 1 lo))) (fun i hi=>?_) (fun i a b=>aw (hs (hint-lo) i a b) h4) ?_ ?_ fun lo hi hq=>?_)
   ·have:ofs<=hint:=Nat.le_of_not_lt fun q=>by rw [Nat.min_eq_right q,Nat.sub_self] at hi; exact absurd hi (Nat.not_lt_zero _)
    rw [Nat.min_eq_left (Nat.le_succ_of_le this),Nat.succ_sub this] at hi
    exact X9 (hs i (hint-ofs) (Nat.le_of_lt_succ hi) (Nat.lt_of_le_of_lt (Nat.sub_le _ _) hh)) (h5 this)
   ·intro x lo hi R' hge hR
    dsimp only
    rw [if_pos hge]
    exact wpS_pure hR
   ·intro x lo hi R' hge hin hR
    dsimp only
    rw [if_neg (Nat.not_le_of_lt hge)]
    refine wpS_bind (Z0 hc hk hkey (harr _ (Nat.lt_of_lt_of_le (aG (Nat.not_le_of_lt hge)) hin)) ?_)
    dsimp only
    cases q:bey left (rk key) (kk rk arr (base+(lo+(hi-lo)/2))) with
    | true=>rw [q,if_pos rfl] at hR; exact wpS_pure hR
    | false=>rw [q,if_neg Bool.false_ne_true] at hR; exact wpS_pure hR
   ·exact wpS_pure hq
end
def upL (rk:Keyed->Int) (l:List Keyed):Prop:=l.Pairwise fun x y=>rk x<=rk y
structure Mg (rk:Keyed->Int) (t:List Keyed) (out ra rb:List Keyed):Prop where
 perm:(out++(ra++rb)).Perm t
 up:upL rk out
 le:∀ x∈out,∀ y∈ra++rb,rk x<=rk y
def Gd (rk:Keyed->Int) (t res:List Keyed):Prop:=res.Perm t/\upL rk res
section
variable {rk:Keyed->Int} {t out p ra rb:List Keyed}
theorem Mg.a (h:Mg rk t out (p++ra) rb) (hu:upL rk (p++ra)) (hl:∀ x∈p,∀ y∈rb,rk x<=rk y):Mg rk t (out++p) ra rb where
 perm:=by
  have:=h.perm
  rw [List.append_assoc] at this ⊢
  exact this
 up:=by
  rw [upL,List.pairwise_append]
  exact ⟨h.up,(List.pairwise_append.mp hu).1,fun x hx y hy=>h.le x hx y (by simp [hy])⟩
 le x hx y hy:=by
  rcases List.mem_append.mp hx with q | q
  ·refine h.le x q y ?_
   rcases List.mem_append.mp hy with r | r <;> simp [r]
  ·rcases List.mem_append.mp hy with r | r
   ·exact (List.pairwise_append.mp hu).2.2 x q y r
   ·exact hl x q y r
theorem Mg.swap (h:Mg rk t out ra rb):Mg rk t out rb ra where
 perm:=(List.Perm.append_left out List.perm_append_comm).trans h.perm
 up:=h.up
 le x hx y hy:=h.le x hx y (by rcases List.mem_append.mp hy with r | r <;> simp [r])
theorem Mg.fin (h:Mg rk t out ra rb) (ha:upL rk ra) (hb:upL rk rb) (hl:∀ x∈ra,∀ y∈rb,rk x<=rk y):Gd rk t (out++ra++rb):=by
 rw [List.append_assoc]
 refine ⟨h.perm,?_⟩
 rw [upL,List.pairwise_append]
 exact ⟨h.up,List.pairwise_append.mpr ⟨ha,hb,hl⟩,h.le⟩
theorem Mg.finB (h:Mg rk t out ra rb) (ha:upL rk ra) (hb:upL rk rb) (hl:∀ x∈rb,∀ y∈ra,rk x<=rk y):Gd rk t (out++rb++ra):=h.swap.fin hb ha hl
end
section
variable {prog:Program} {w:World} {A:Around} {E:Value->Shared->Prop} {s:Shared} {a₀:Array Keyed} {κ:SortKind} {rk:Keyed->Int}
theorem kZ {α:Type} {c:Prop} [Decidable c] {X T:StateT SortSt Sem α} {Q:α->SortSt->Prop} {st:SortSt} {M:Model} (P:SortSt->Prop) (key:∀ st',P st'->wpS M A E s T Q st') (h1:c->(∀ st',P st'->wpS M A E s T Q st')->wpS M A E s X Q st) (h2:¬c->P st):wpS M A E s (if c then X else T) Q st:=by
 by_cases q:c
 ·rw [if_pos q]; exact h1 q key
 ·rw [if_neg q]; exact key _ (h2 q)
theorem lg {α:Type} {c c1:Prop} [Decidable c] [Decidable c1] {R1 T T':StateT SortSt Sem α} {Q:α->SortSt->Prop} {st:SortSt} {M:Model} (hT:¬c->T'=T) (h1:c->c1->wpS M A E s R1 Q st) (h3:(c->¬c1)->wpS M A E s T Q st):wpS M A E s (if c then (if c1 then R1 else T) else T') Q st:=by
 by_cases q:c
 ·rw [if_pos q]
  by_cases q1:c1
  ·rw [if_pos q1]; exact h1 q q1
  ·rw [if_neg q1]; exact h3 fun _=>q1
 ·rw [if_neg q,hT q]; exact h3 fun r=>absurd r q
theorem lf {α:Type} {c c1 c2:Prop} [Decidable c] [Decidable c1] [Decidable c2] {R1 R2 T T':StateT SortSt Sem α} {Q:α->SortSt->Prop} {st:SortSt} {M:Model} (hT:¬c->T'=T) (h1:c->c1->wpS M A E s R1 Q st) (h2:c->¬c1->c2->wpS M A E s R2 Q st) (h3:(c->¬c1/\¬c2)->wpS M A E s T Q st):wpS M A E s (if c then (if c1 then R1 else if c2 then R2 else T) else T') Q st:=by
 by_cases q:c
 ·rw [if_pos q]
  by_cases q1:c1
  ·rw [if_pos q1]; exact h1 q q1
  ·rw [if_neg q1]
   by_cases q2:c2
   ·rw [if_pos q2]; exact h2 q q1 q2
   ·rw [if_neg q2]; exact h3 fun _=>⟨q1,q2⟩
 ·rw [if_neg q,hT q]; exact h3 fun r=>absurd r q
theorem Aw (out a:Array Keyed) (i:Nat):out++(a.extract i i).reverse=out:=by
 have:a.extract i i=#[]:=by simp; omega
 rw [this]; simp
theorem Av (out a:Array Keyed) (i:Nat):out++a.extract i i=out:=by
 have:a.extract i i=#[]:=by simp; omega
 rw [this]; simp
def qi:Array Keyed->Array Keyed->StateT SortSt Sem (Array Keyed):=sortPriv% PySem.Builtin.mergeLo
def qj:Array Keyed->Array Keyed->StateT SortSt Sem (Array Keyed):=sortPriv% PySem.Builtin.mergeHi
theorem ju {l:List Keyed} {i:Nat} {x:Keyed} (h:l[i]?=some x):l.drop i = [x]++l.drop (i+1):=by
 obtain ⟨hi,e⟩:=List.getElem?_eq_some_iff.mp h
 rw [List.drop_eq_getElem_cons hi,e]; rfl
theorem V2 (l:List Keyed) (i k:Nat):l.drop i=(l.drop i).take k++l.drop (i+k):=by rw [<- List.drop_drop,List.take_append_drop]
theorem A9 {l:List Keyed} (h:upL rk l) (i:Nat):upL rk (l.drop i):=List.Pairwise.sublist (List.drop_sublist i l) h
theorem ft {l:List Keyed} {i:Nat} {x:Keyed} (hu:upL rk l) (h:l[i]?=some x):∀ y∈l.drop i,rk x<=rk y:=fun y hy=>by
 have:=A9 hu i
 rw [ju h] at this hy
 rcases List.mem_append.mp hy with q | q
 ·rw [List.mem_singleton.mp q]; exact Int.le_refl _
 ·exact (List.pairwise_append.mp this).2.2 x (List.mem_singleton.mpr rfl) y q
theorem P6 {l:List Keyed} {i k:Nat} {x:Keyed} (h:x∈(l.drop i).take k):∃ j,j<k/\l[i+j]?=some x:=by
 obtain ⟨j,hj⟩:=List.mem_iff_getElem?.mp h
 by_cases c:j<k
 ·rw [List.getElem?_take_of_lt c,List.getElem?_drop] at hj
  exact ⟨j,c,hj⟩
 ·rw [List.getElem?_take_eq_none (by omega)] at hj; cases hj
theorem Mg.pa {t out l rb:List Keyed} {i:Nat} {x:Keyed} (m:Mg rk t out (l.drop i) rb) (hu:upL rk l) (h:l[i]?=some x) (hl:∀ y∈rb,rk x<=rk y):Mg rk t (out ++ [x]) (l.drop (i+1)) rb:=by
 have u:=A9 hu i
 rw [ju h] at m u
 exact m.a u fun z hz y hy=>by rw [List.mem_singleton.mp hz]; exact hl y hy
theorem Mg.pb {t out l ra:List Keyed} {i:Nat} {x:Keyed} (m:Mg rk t out ra (l.drop i)) (hu:upL rk l) (h:l[i]?=some x) (hl:∀ y∈ra,rk x<=rk y):Mg rk t (out ++ [x]) ra (l.drop (i+1)):=(m.swap.pa hu h hl).swap
theorem Mg.ka {t out l rb:List Keyed} {i k:Nat} (m:Mg rk t out (l.drop i) rb) (hu:upL rk l) (hl:∀ x∈(l.drop i).take k,∀ y∈rb,rk x<=rk y):Mg rk t (out++(l.drop i).take k) (l.drop (i+k)) rb:=by
 have u:=A9 hu i
 have m2:Mg rk t out ((l.drop i).take k++l.drop (i+k)) rb:=by rw [<- V2]; exact m
 exact m2.a (by rw [<- V2]; exact u) hl
theorem Mg.kb {t out l ra:List Keyed} {i k:Nat} (m:Mg rk t out ra (l.drop i)) (hu:upL rk l) (hl:∀ x∈(l.drop i).take k,∀ y∈ra,rk x<=rk y):Mg rk t (out++(l.drop i).take k) ra (l.drop (i+k)):=(m.swap.ka hu hl).swap
theorem V0 (a:Array Keyed) (i k:Nat):(a.extract i (i+k)).toList=(a.toList.drop i).take k:=by
 rw [Array.toList_extract,List.extract_eq_take_drop]; congr 1; omega
theorem U9 (a:Array Keyed) (i:Nat):(a.extract i a.size).toList=a.toList.drop i:=by
 rw [Array.toList_extract,List.extract_eq_take_drop,List.take_of_length_le (by simp)]
theorem R7 {a:Array Keyed} {i:Nat} (h:i<a.size):∃ x,x∈a.toList/\a[i]?=some x/\a.toList[i]?=some x:=⟨a[i],by simp,by simp,by simp [h]⟩
theorem n9 {a:Array Keyed} {i:Nat} {x:Keyed} (h:a.toList[i]?=some x):kk rk a i=rk x:=S6 (by rw [<- Array.getElem?_toList]; exact h)
theorem aA {a:Array Keyed} (hu:upL rk a.toList) {i j:Nat} (h:i<=j) (hj:j<a.size):kk rk a i<=kk rk a j:=by
 obtain ⟨x,hx,ex,lx⟩:=R7 (a:=a) (i:=i) (by omega)
 obtain ⟨y,hy,ey,ly⟩:=R7 (a:=a) (i:=j) hj
 rw [S6 ex,S6 ey]
 refine ft hu lx y (List.mem_iff_getElem?.mpr ⟨j-i,?_⟩)
 rw [List.getElem?_drop,show i+(j-i)=j by omega]; exact ly
theorem Q6 {a:Array Keyed} (hu:upL rk a.toList) {i:Nat} {x:Keyed} (hx:x∈a.toList.drop i):kk rk a i<=rk x:=by
 obtain ⟨j,hj⟩:=List.mem_iff_getElem?.mp hx
 rw [List.getElem?_drop] at hj
 have hl:=(List.getElem?_eq_some_iff.mp hj).1
 rw [<- n9 (rk:=rk) hj]
 exact aA hu (by omega) (by simp at hl; omega)
structure Js (rk:Keyed->Int) (a b:Array Keyed) (out:Array Keyed) (ia ib:Nat):Prop where
 mg:Mg rk (a.toList++b.toList) out.toList (a.toList.drop ia) (b.toList.drop ib)
 ha:ia+1<a.size
 hb:ib<b.size
abbrev gS (st:SortSt) (g:Nat):SortSt:=SortSt.mk' (kindOf st) (arrOf st) (pendingOf st) g (failedOf st)
theorem ff {a b out:Array Keyed} {ia ib:Nat} (m:Mg rk (a.toList++b.toList) out.toList (a.toList.drop ia) (b.toList.drop ib)) (ua:upL rk a.toList) (h:ib=b.size):Gd rk (a.toList++b.toList) (out++a.extract ia a.size++b.extract ib b.size).toList:=by
 rw [Array.toList_append,Array.toList_append,U9,U9]
 have e:b.toList.drop ib = []:=List.drop_eq_nil_of_le (by simp; omega)
 rw [e] at m ⊢
 exact m.fin (A9 ua _) .nil fun x hx y hy=>nomatch hy
theorem Cq {a b out:Array Keyed} {ia ib:Nat} (m:Mg rk (a.toList++b.toList) out.toList (a.toList.drop ia) (b.toList.drop ib)) (ub:upL rk b.toList) (h:ia=a.size):Gd rk (a.toList++b.toList) (out++a.extract ia a.size++b.extract ib b.size).toList:=by
 rw [Array.toList_append,Array.toList_append,U9,U9]
 have e:a.toList.drop ia = []:=List.drop_eq_nil_of_le (by simp; omega)
 rw [e] at m ⊢
 exact m.fin .nil (A9 ub _) fun x hx y hy=>nomatch hx
theorem fc {a b out:Array Keyed} {ia ib:Nat} (m:Mg rk (a.toList++b.toList) out.toList (a.toList.drop ia) (b.toList.drop ib)) (ua:upL rk a.toList) (ub:upL rk b.toList) (hl:∀ x∈b.toList,rk x<=kk rk a (a.size-1)) (h:ia+1=a.size):Gd rk (a.toList++b.toList) (out++b.extract ib b.size++a.extract ia a.size).toList:=by
 rw [Array.toList_append,Array.toList_append,U9,U9]
 refine m.finB (A9 ua _) (A9 ub _) fun x hx y hy=>?_
 have h1:=hl x (List.mem_of_mem_drop hx)
 have h2:=Q6 ua hy
 rw [show a.size-1=ia by omega] at h1
 omega
@[elab_as_elim] theorem kO {A1 A2 A3 A4 A5 C S:Type} {f:A1->A2->A3->A4->A5->C} {k:A1->A2->A3->A4->A5->S} {J:A1->A2->A3->A4->A5->Prop} {G:C->S->Prop} {c:C} {t:S} (h:∃ x1 x2 x3 x4 x5,c=f x1 x2 x3 x4 x5/\t=k x1 x2 x3 x4 x5/\J x1 x2 x3 x4 x5) (g:∀ x1 x2 x3 x4 x5,J x1 x2 x3 x4 x5->G (f x1 x2 x3 x4 x5) (k x1 x2 x3 x4 x5)):G c t:=by
 obtain ⟨_,_,_,_,_,rfl,rfl,j⟩:=h
 exact g _ _ _ _ _ j
@[elab_as_elim] theorem AI {A1 A2 A3 A4 A5 A6 A7 C S:Type} {f:A1->A2->A3->A4->A5->A6->A7->C} {k:A1->A2->A3->A4->A5->A6->A7->S} {J:A1->A2->A3->A4->A5->A6->A7->Prop} {G:C->S->Prop} {c:C} {t:S} (h:∃ x1 x2 x3 x4 x5 x6 x7,c=f x1 x2 x3 x4 x5 x6 x7/\t=k x1 x2 x3 x4 x5 x6 x7/\J x1 x2 x3 x4 x5 x6 x7) (g:∀ x1 x2 x3 x4 x5 x6 x7,J x1 x2 x3 x4 x5 x6 x7->G (f x1 x2 x3 x4 x5 x6 x7) (k x1 x2 x3 x4 x5 x6 x7)):G c t:=by
 obtain ⟨_,_,_,_,_,_,_,rfl,rfl,j⟩:=h
 exact g _ _ _ _ _ _ _ j
@[elab_as_elim] theorem AF {A1 A2 A3 A4 A5 R D S:Type} {f:A1->A2->A3->A4->A5->Option R×D} {J:A1->A2->A3->A4->A5->Prop} {L:R->Prop} {G:Option R×D->S->Prop} {c:Option R×D} {t t0:S} (h:t=t0/\((∃ r,c.1=some r/\L r)\/∃ x1 x2 x3 x4 x5,c=f x1 x2 x3 x4 x5/\J x1 x2 x3 x4 x5)) (g1:∀ r d,L r->G (some r,d) t0) (g2:∀ x1 x2 x3 x4 x5,J x1 x2 x3 x4 x5->G (f x1 x2 x3 x4 x5) t0):G c t:=by
 obtain ⟨c1,c2⟩:=c
 obtain ⟨rfl,⟨r,e,l⟩ | ⟨_,_,_,_,_,e,j⟩⟩:=h
 ·cases e; exact g1 _ _ l
 ·rw [e]; exact g2 _ _ _ _ _ j
@[elab_as_elim] theorem AG {A1 A2 A3 A4 A5 A6 R D S N:Type} {k:N->S} {f:A1->A2->A3->A4->A5->A6->Option R×D} {J:A1->A2->A3->A4->A5->A6->Prop} {L:R->Prop} {G:Option R×D->S->Prop} {c:Option R×D} {t:S} (h:∃ g,t=k g/\((∃ r,c.1=some r/\L r)\/∃ x1 x2 x3 x4 x5 x6,c=f x1 x2 x3 x4 x5 x6/\J x1 x2 x3 x4 x5 x6)) (g1:∀ g r d,L r->G (some r,d) (k g)) (g2:∀ g x1 x2 x3 x4 x5 x6,J x1 x2 x3 x4 x5 x6->G (f x1 x2 x3 x4 x5 x6) (k g)):G c t:=by
 obtain ⟨c1,c2⟩:=c
 obtain ⟨g,rfl,⟨r,e,l⟩ | ⟨_,_,_,_,_,_,e,j⟩⟩:=h
 ·cases e; exact g1 _ _ _ l
 ·rw [e]; exact g2 _ _ _ _ _ _ _ j
theorem K5 {G:Prop} {a:Array Keyed} {i:Nat} (h:i<a.size) (g:∀ x,x∈a.toList->a[i]?=some x->a.toList[i]?=some x->G):G:=let ⟨x,h1,h2,h3⟩:=R7 h; g x h1 h2 h3
theorem ld {α β:Type} {c:Prop} [Decidable c] {jp:Unit->β->StateT SortSt Sem α} {x y:β} {Q:α->SortSt->Prop} {st:SortSt} {M:Model} (h:∀ z,wpS M A E s (jp () z) Q st):wpS M A E s (if c then jp () x else jp () y) Q st:=by
 split
 ·exact h _
 ·exact h _
theorem D8 {α:Type} {m n:Nat} {X Y:StateT SortSt Sem α} {Q:α->SortSt->Prop} {st:SortSt} {M:Model} (h1:m=n->wpS M A E s X Q st) (h2:¬ m=n->wpS M A E s Y Q st):wpS M A E s (if (m == n)=true then X else Y) Q st:=by
 by_cases c:m=n
 ·rw [if_pos (by simpa using c)]; exact h1 c
 ·rw [if_neg (by simpa using c)]; exact h2 c
theorem M7 {α:Type} {c:Prop} [Decidable c] {X Y:StateT SortSt Sem α} {Q:α->SortSt->Prop} {st:SortSt} {M:Model} (h1:c->wpS M A E s X Q st) (h2:¬ c->wpS M A E s Y Q st):wpS M A E s (if decide c=true then X else Y) Q st:=by
 by_cases q:c
 ·rw [if_pos (by simpa using q)]; exact h1 q
 ·rw [if_neg (by simpa using q)]; exact h2 q
@[elab_as_elim] theorem cpsA {A1 C S:Type} {f:A1->C} {J:A1->Prop} {G:C->S->Prop} {c:C} {t t0:S} (h:t=t0/\∃ x,c=f x/\J x) (g:∀ x,J x->G (f x) t0):G c t:=by
 obtain ⟨rfl,_,rfl,j⟩:=h
 exact g _ j
@[elab_as_elim] theorem Cz {A1 A2 C S:Type} {f:A1->A2->C} {J:A1->A2->Prop} {G:C->S->Prop} {c:C} {t t0:S} (h:t=t0/\∃ x y,c=f x y/\J x y) (g:∀ x y,J x y->G (f x y) t0):G c t:=by
 obtain ⟨rfl,_,_,rfl,j⟩:=h
 exact g _ _ j
@[elab_as_elim] theorem AH {A1 S:Type} {k:A1->S} {J:A1->Prop} {G:S->Prop} {t:S} (h:∃ x,t=k x/\J x) (g:∀ x,J x->G (k x)):G t:=by
 obtain ⟨_,rfl,j⟩:=h
 exact g _ j
@[elab_as_elim] theorem cpsC {A1 A2 C S:Type} {k:A1->A2->S} {f:A1->A2->C} {J:A1->A2->Prop} {G:C->S->Prop} {c:C} {t:S} (h:∃ x y,t=k x y/\c=f x y/\J x y) (g:∀ x y,J x y->G (f x y) (k x y)):G c t:=by
 obtain ⟨_,_,rfl,rfl,j⟩:=h
 exact g _ _ j
@[elab_as_elim] theorem cpsD {A1 A2 A3 C S:Type} {k:A1->A2->A3->S} {f:A1->A2->A3->C} {J:A1->A2->A3->Prop} {G:C->S->Prop} {c:C} {t:S} (h:∃ x y z,t=k x y z/\c=f x y z/\J x y z) (g:∀ x y z,J x y z->G (f x y z) (k x y z)):G c t:=by
 obtain ⟨_,_,_,rfl,rfl,j⟩:=h
 exact g _ _ _ j
@[elab_as_elim] theorem Cy {A1 C S:Type} {k:A1->S} {c0:C} {J:A1->Prop} {G:C->S->Prop} {c:C} {t:S} (h:∃ x,t=k x/\c=c0/\J x) (g:∀ x,J x->G c0 (k x)):G c t:=by
 obtain ⟨_,rfl,rfl,j⟩:=h
 exact g _ j
theorem jI {st:SortSt} {a b:Array Keyed} {Q:Array Keyed->SortSt->Prop} (hc:Cmp prog w A s κ rk a₀) (hk:kindOf st=κ) (ha:∀ x∈a.toList,x∈a₀) (hb:∀ x∈b.toList,x∈a₀) (ua:upL rk a.toList) (ub:upL rk b.toList)
  (ha0:0<a.size) (hb0:0<b.size) (hf:∀ x∈a.toList,kk rk b 0<=rk x) (hl:∀ x∈b.toList,rk x<=kk rk a (a.size-1))
  (h:∀ res g,Gd rk (a.toList++b.toList) res.toList->Q res (gS st g)):wpS (model prog w) A E s (qi a b) Q st:=by
 refine wpS_bind (wpS_lift (wpAny_rule ⟨rfl,?_⟩))
 refine K5 hb0 fun y0 hy0 ey0 ly0=>?_
 refine wpS_bind (j3 ey0 ?_)
 dsimp (zeta:=false) only
 have m0:Mg rk (a.toList++b.toList) #[y0].toList (a.toList.drop 0) (b.toList.drop 1):=by
  have:Mg rk (a.toList++b.toList) [] (a.toList.drop 0) (b.toList.drop 0):=⟨by simp,.nil,fun x hx=>nomatch hx⟩
  exact this.pb ub ly0 fun y hy=>by rw [<- n9 (rk:=rk) ly0]; exact hf y (List.mem_of_mem_drop hy)
 refine D8 (fun c1=>wpS_pure (h _ (gallopOf st) (ff m0 ua c1))) fun c1=>?_
 by_cases c2:0+1=a.size
 ·rw [if_pos (by simpa using c2)]
  exact wpS_pure (h _ (gallopOf st) (fc m0 ua ub hl c2))
 rw [if_neg (by simpa using c2)]
 refine wpS_bind (wpS_get ?_)
 have j0:Js rk a b #[y0] 0 1:=⟨m0,by omega,by omega⟩
 refine wpS_bind (wpS_mono (wpS_forRange (fun x c st'=>∃ out ia ib g g',c=(none,out,ia,ib,g)/\st'=gS st g'/\Js rk a b out ia ib/\x+1<=ia+ib)
  (Q:=fun c st'=>∃ res g,c.1=some res/\st'=gS st g/\Gd rk (a.toList++b.toList) res.toList) ?step ?fin ⟨_,_,_,_,gallopOf st,rfl,rfl,j0,by omega⟩) ?post)
 case fin=>
  rintro c st' ⟨out,ia,ib,g,g',rfl,rfl,j,hm⟩
  have:=j.ha
  have:=j.hb
  omega
 case post=>
  rintro ⟨c1,c2⟩ st' ⟨res,g,e,rfl,hg⟩
  cases e
  exact wpS_pure (h res g hg)
 case step=>
  intro x c st' _ _ hI
  refine kO (c:=c) (t:=st') hI fun out ia ib g g' jm=>?_
  have j:=jm.1
  have hm:=jm.2
  clear hI jm c st'
  clear c1 c2 j0 m0
  dsimp (zeta:=false) only
  refine wpS_bind (wpS_mono (wpS_forRange (fun y c st'=>∃ out ia ib ac bc,c=(none,out,ia,ib,ac,bc)/\st'=gS st g'/\Js rk a b out ia ib/\x+min y 1+1<=ia+ib)
   (Q:=fun c st'=>st'=gS st g'/\((∃ res,c.1=some res/\Gd rk (a.toList++b.toList) res.toList)\/∃ out ia ib ac bc,c=(none,out,ia,ib,ac,bc)/\Js rk a b out ia ib/\x+2<=ia+ib)) ?istep ?ifin ⟨out,ia,ib,0,0,rfl,rfl,j,by omega⟩) ?ipost)
  case ifin=>
   rintro c st' ⟨out,ia,ib,ac,bc,rfl,rfl,j,hm⟩
   have:=j.ha
   exact ⟨rfl,.inr ⟨_,_,_,_,_,rfl,j,by omega⟩⟩
  case istep=>
   clear j hm
   intro y c st' _ _ hI
   refine kO (c:=c) (t:=st') hI fun out ia ib ac bc jm=>?_
   have j:=jm.1
   have hm:=jm.2
   clear hI jm c st'
   dsimp only
   have jha:=j.ha
   have jhb:=j.hb
   refine K5 (a:=b) (i:=ib) j.hb fun u hu eu lu=>?_
   refine K5 (a:=a) (i:=ia) (by omega) fun v hv ev lv=>?_
   refine wpS_bind (j3 eu (wpS_bind (j3 ev (wpS_bind (bE hc (hb u hu) (ha v hv) hk ?_)))))
   dsimp only
   refine M7 (fun q=>?_) fun q=>?_
   ·skip
    refine wpS_bind (j3 eu ?_)
    have m:=j.mg.pb ub lu fun z hz=>by
     have:=Q6 ua hz
     rw [n9 (rk:=rk) lv] at this
     omega
    rw [<- Array.toList_push] at m
    refine D8 (fun c=>wpS_pure ⟨rfl,.inl ⟨_,rfl,ff m ua c⟩⟩) fun c=>?_
    ·skip
     have j2:Js rk a b (out.push u) ia (ib+1):=⟨m,jha,by omega⟩
     have hm2:x+2<=ia+ib+1:=Nat.succ_le_succ (Nat.le_trans (Nat.succ_le_succ (Nat.le_add_right x _)) hm)
     split
     ·exact wpS_pure ⟨rfl,.inr ⟨_,_,_,_,_,rfl,j2,hm2⟩⟩
     ·exact wpS_pure ⟨_,_,_,_,_,rfl,rfl,j2,ms3 hm⟩
   ·skip
    refine wpS_bind (j3 ev ?_)
    have m:=j.mg.pa ua lv fun z hz=>by
     have:=Q6 ub hz
     rw [n9 (rk:=rk) lu] at this
     omega
    rw [<- Array.toList_push] at m
    refine D8 (fun c=>wpS_pure ⟨rfl,.inl ⟨_,rfl,fc m ua ub hl c⟩⟩) fun c=>?_
    ·skip
     have j2:Js rk a b (out.push v) (ia+1) ib:=⟨m,by omega,jhb⟩
     have hm2:x+2<=ia+ib+1:=Nat.succ_le_succ (Nat.le_trans (Nat.succ_le_succ (Nat.le_add_right x _)) hm)
     split
     ·exact wpS_pure ⟨rfl,.inr ⟨_,_,_,_,_,rfl,j2,Nat.add_right_comm ia ib 1 ▸ hm2⟩⟩
     ·exact wpS_pure ⟨_,_,_,_,_,rfl,rfl,j2,Nat.add_right_comm ia ib 1 ▸ ms3 hm⟩
  case ipost=>
   clear j hm
   intro c st' hI
   refine AF (c:=c) (t:=st') hI (fun res _ hg=>wpS_pure ⟨res,g',rfl,rfl,hg⟩) fun out ia ib ac bc jm=>?_
   have j:=jm.1
   have hm:=jm.2
   clear hI jm c st'
   dsimp (zeta:=false) only
   refine wpS_bind (wpS_lift (wpAny_rule ⟨rfl,?_⟩))
   refine wpS_bind (wpS_mono (wpS_forRange (fun y c st'=>∃ out ia ib mg ac bc g,c=(none,out,ia,ib,mg,ac,bc)/\st'=gS st g/\Js rk a b out ia ib/\x+2<=ia+ib)
    (Q:=fun c st'=>∃ g,st'=gS st g/\((∃ res,c.1=some res/\Gd rk (a.toList++b.toList) res.toList)\/∃ out ia ib mg ac bc,c=(none,out,ia,ib,mg,ac,bc)/\Js rk a b out ia ib/\x+2<=ia+ib)) ?gstep ?gfin ⟨out,ia,ib,_,ac,bc,g',rfl,rfl,j,hm⟩) ?gpost)
   case gfin=>
    rintro c st' ⟨out,ia,ib,mg,ac,bc,g,rfl,rfl,j,hm⟩
    exact ⟨g,rfl,.inr ⟨_,_,_,_,_,_,rfl,j,hm⟩⟩
   case gpost=>
    clear j hm
    intro c st' hI
    refine AG (c:=c) (t:=st') hI (fun g res _ hg=>wpS_pure ⟨res,g,rfl,rfl,hg⟩) fun g out ia ib mg ac bc jm=>?_
    have j:=jm.1
    have hm:=jm.2
    clear hI jm c st'
    try dsimp (zeta:=false) only
    exact wpS_bind (wpS_modify (wpS_pure ⟨_,_,_,_,_,rfl,rfl,j,by omega⟩))
   case gstep=>
    clear j hm
    intro y c st' _ _ hI
    refine AI (c:=c) (t:=st') hI fun out ia ib mg ac bc g jm=>?_
    have j:=jm.1
    have hm:=jm.2
    clear hI jm c st'
    try dsimp (zeta:=false) only
    have jha:=j.ha
    have jhb:=j.hb
    refine K5 (a:=b) (i:=ib) j.hb fun u hu eu lu=>?_
    extract_lets s0 o0 s1 i0 s2 i1 s3 m0 s4 a0 b0 ib1 jp mg1
    refine ld (jp:=jp) fun mg2=>?_
    dsimp (zeta:=false) only [jp]
    clear jp
    subst s0 o0 s1 i0 s2 i1 s3 m0 s4 a0 b0 ib1 mg1
    try dsimp (zeta:=false) only
    refine wpS_bind (wpS_modify ?_)
    refine wpS_bind (j3 eu (wpS_bind (J0 hc hk (hb u hu) (fun i hi=>?ga) (fun i j hij hj=>aA ua (by omega) (by omega)) (by omega) fun k k1 k2 k3=>?_)))
    case ga=>
     refine K5 (a:=a) (i:=ia+i) (by omega) fun v hv ev lv=>?_
     exact ⟨v,ha v hv,ev⟩
    try dsimp (zeta:=false) only
    extract_lets acnt jp2 out1 ia1
    subst acnt out1 ia1
    have hia:ia<=ia+k/\ia+k<=a.size:=by omega
    have m1:Mg rk (a.toList++b.toList) (out++a.extract ia (ia+k)).toList (a.toList.drop (ia+k)) (b.toList.drop ib):=by
     rw [Array.toList_append,V0]
     refine j.mg.ka ua fun z hz y hy=>?_
     obtain ⟨i,hi,li⟩:=P6 hz
     have h1:=k2 i hi
     rw [n9 (rk:=rk) li] at h1
     have h2:=Q6 ub hy
     rw [n9 (rk:=rk) lu] at h2
     simp [bey] at h1
     omega
    have b1:∀ z∈a.toList.drop (ia+k),rk u<=rk z:=fun z hz=>by
     by_cases c:ia+k<a.size
     ·have h1:=k3 k (Nat.le_refl _) (by omega)
      have h2:=Q6 ua hz
      simp [bey] at h1
      omega
     ·rw [List.drop_eq_nil_of_le (by simp; omega)] at hz; cases hz
    refine lf (fun q=>?e1) (fun _ c=>wpS_pure ⟨_,rfl,.inl ⟨_,rfl,fc m1 ua ub hl (by simpa using c)⟩⟩) (fun _ _ c=>wpS_pure ⟨_,rfl,.inl ⟨_,rfl,Cq m1 ub (by simpa using c)⟩⟩) fun q0=>?_
    case e1=>
     have k0:k=0:=by omega
     rw [k0,Nat.add_zero,Av]
    have q1:ia+k+1<a.size:=by
     by_cases kz:k>0
     ·have:=q0 kz
      simp at this
      omega
     ·omega
    generalize out++a.extract ia (ia+k)=out1 at m1 ⊢
    generalize ia+k=ia1 at m1 b1 hia q1 ⊢
    dsimp (zeta:=false) only [jp2]
    clear jp2
    refine wpS_bind (j3 eu ?_)
    extract_lets out3
    have m2:=m1.pb ub lu b1
    rw [<- Array.toList_push] at m2
    refine D8 (fun c3=>wpS_pure ⟨_,rfl,.inl ⟨_,rfl,ff m2 ua c3⟩⟩) fun c3=>?_
    refine K5 (a:=a) (i:=ia1) (by omega) fun v hv ev lv=>?_
    refine wpS_bind (j3 ev (wpS_bind (J0 hc hk (ha v hv) (fun i hi=>?gb) (fun i j hij hj=>aA ub (by omega) (by omega)) (by omega) fun l l1 l2 l3=>?_)))
    case gb=>
     refine K5 (a:=b) (i:=ib+1+i) (Nat.add_lt_of_lt_sub' hi) fun v hv ev lv=>?_
     exact ⟨v,hb v hv,ev⟩
    try dsimp (zeta:=false) only
    extract_lets bcnt jp3 out4 ib4
    subst out3 bcnt out4 ib4
    have hib:ib+1<=ib+1+l/\ib+1+l<=b.size:=⟨Nat.le_add_right _ _,Nat.le_trans (Nat.add_le_add_left l1 _) (Nat.le_of_eq (Nat.add_sub_cancel' jhb))⟩
    have m3:Mg rk (a.toList++b.toList) (out1.push u++b.extract (ib+1) (ib+1+l)).toList (a.toList.drop ia1) (b.toList.drop (ib+1+l)):=by
     rw [Array.toList_append,V0]
     refine m2.kb ub fun z hz y hy=>?_
     obtain ⟨i,hi,li⟩:=P6 hz
     have h1:=l2 i hi
     rw [n9 (rk:=rk) li] at h1
     have h2:=Q6 ua hy
     rw [n9 (rk:=rk) lv] at h2
     simp [bey] at h1
     omega
    have b2:∀ z∈b.toList.drop (ib+1+l),rk v<=rk z:=fun z hz=>by
     by_cases c:ib+1+l<b.size
     ·have h1:=l3 l (Nat.le_refl _) (Nat.lt_sub_iff_add_lt'.mpr c)
      have h2:=Q6 ub hz
      simp [bey] at h1
      omega
     ·rw [List.drop_eq_nil_of_le (by simp; omega)] at hz; cases hz
    refine lg (fun q=>?e2) (fun _ c=>wpS_pure ⟨_,rfl,.inl ⟨_,rfl,ff m3 ua (by simpa using c)⟩⟩) fun q0=>?_
    case e2=>
     have k0:l=0:=by omega
     rw [k0,Nat.add_zero,Av]
    have q2:ib+1+l<b.size:=by
     by_cases kz:l>0
     ·have:=q0 kz
      simp at this
      omega
     ·omega
    generalize out1.push u++b.extract (ib+1) (ib+1+l)=out2 at m3 ⊢
    generalize ib+1+l=ib2 at m3 b2 hib q2 ⊢
    dsimp (zeta:=false) only [jp3]
    clear jp3
    refine wpS_bind (j3 ev ?_)
    dsimp only
    have m4:=m3.pa ua lv b2
    rw [<- Array.toList_push] at m4
    refine D8 (fun c4=>wpS_pure ⟨_,rfl,.inl ⟨_,rfl,fc m4 ua ub hl c4⟩⟩) fun c4=>?_
    have j4:Js rk a b (out2.push v) (ia1+1) ib2:=⟨m4,by omega,q2⟩
    split
    ·exact wpS_pure ⟨_,rfl,.inr ⟨_,_,_,_,_,_,rfl,j4,by omega⟩⟩
    ·exact wpS_pure ⟨_,_,_,_,_,_,_,rfl,rfl,j4,by omega⟩
end
section
variable {prog:Program} {w:World} {A:Around} {E:Value->Shared->Prop} {s:Shared} {a₀:Array Keyed} {κ:SortKind} {rk:Keyed->Int}
abbrev rn (rk:Keyed->Int) (x:Keyed):Int:=-rk x
abbrev rv (a:Array Keyed):List Keyed:=a.toList.reverse
theorem az {l:List Keyed} (h:upL rk l):upL (rn rk) l.reverse:=by
 unfold upL at h ⊢
 rw [List.pairwise_reverse]
 exact h.imp fun q=>by show -_ <= -_; omega
theorem rJ {a:Array Keyed} {k:Nat} {x:Keyed} (h0:0<k) (hk:k<=a.size) (h:a.toList[k-1]?=some x):(rv a)[a.size-k]?=some x:=by
 cases k with
 | zero=>exact absurd h0 (Nat.lt_irrefl _)
 | succ m=>
  have e:a.toList.length-1-(a.size-(m+1))=m:=by rw [Array.length_toList,show a.size-(m+1)=a.size-1-m by rw [Nat.sub_sub,Nat.add_comm],Nat.sub_sub_self (show m<=a.size-1 from Nat.le_pred_of_lt hk)]
  rw [List.getElem?_reverse (by rw [Array.length_toList]; exact Nat.sub_lt (Nat.lt_of_lt_of_le h0 hk) h0),e,<- h]; rfl
theorem P5 {a:Array Keyed} {k:Nat}:(rv a).drop (a.size-k)=(a.toList.take k).reverse:=by
 rw [List.reverse_take]; simp
theorem W6 {a:Array Keyed} (hu:upL rk a.toList) {k:Nat} {x:Keyed} (h0:k<=a.size) (hx:x∈(rv a).drop (a.size-k)):rk x<=kk rk a (k-1):=by
 rw [P5,List.mem_reverse] at hx
 obtain ⟨j,hj,lj⟩:=P6 (i:=0) (k:=k) (l:=a.toList) (by simpa using hx)
 rw [Nat.zero_add] at lj
 rw [<- n9 (rk:=rk) lj]
 exact aA hu (by omega) (by omega)
theorem bM {a:Array Keyed} {i k:Nat} (h:i<=k) (hk:k<=a.size):(a.extract i k).reverse.toList=((rv a).drop (a.size-k)).take (k-i):=by
 rw [P5,Array.toList_reverse,Array.toList_extract,List.extract_eq_take_drop,List.take_reverse,List.length_take]
 congr 1
 rw [List.drop_take]
 simp
 have:min k a.size-(k-i)=i:=by omega
 rw [this]
theorem Gd.rv {a b:Array Keyed} {res:List Keyed} (h:Gd (rn rk) (rv a++rv b) res.reverse):Gd rk (a.toList++b.toList) res:=by
 refine ⟨?_,?_⟩
 ·refine (List.reverse_perm res).symm.trans (h.1.trans ?_)
  exact List.Perm.append (List.reverse_perm _) (List.reverse_perm _)
 ·have:=h.2
  unfold upL at this ⊢
  rw [List.pairwise_reverse] at this
  exact this.imp fun q=>by
   have q:-_ <= -_:=q
   omega
theorem gY {a b out:Array Keyed} {na nb:Nat} (h:Gd (rn rk) (rv a++rv b) (out.toList++(rv b).drop (b.size-nb)++(rv a).drop (a.size-na))):Gd rk (a.toList++b.toList) (a.extract 0 na++b.extract 0 nb++out.reverse).toList:=by
 refine Gd.rv ?_
 rw [P5,P5] at h
 have e:(a.extract 0 na++b.extract 0 nb++out.reverse).toList.reverse=out.toList++(b.toList.take nb).reverse++(a.toList.take na).reverse:=by
  simp [List.extract_eq_take_drop]
 rw [e]; exact h
theorem cy {a b out:Array Keyed} {na nb:Nat} (m:Mg (rn rk) (rv a++rv b) out.toList ((rv a).drop (a.size-na)) ((rv b).drop (b.size-nb))) (ub:upL rk b.toList) (h:na=0):Gd rk (a.toList++b.toList) (a.extract 0 na++b.extract 0 nb++out.reverse).toList:=by
 refine gY ?_
 have e:(rv a).drop (a.size-na) = []:=List.drop_eq_nil_of_le (by simp; omega)
 rw [e] at m ⊢
 exact m.finB .nil (A9 (az ub) _) fun x hx y hy=>nomatch hy
theorem zP {a b out:Array Keyed} {na nb:Nat} (m:Mg (rn rk) (rv a++rv b) out.toList ((rv a).drop (a.size-na)) ((rv b).drop (b.size-nb))) (ua:upL rk a.toList) (h:nb=0):Gd rk (a.toList++b.toList) (a.extract 0 na++b.extract 0 nb++out.reverse).toList:=by
 refine gY ?_
 have e:(rv b).drop (b.size-nb) = []:=List.drop_eq_nil_of_le (by simp; omega)
 rw [e] at m ⊢
 exact m.finB (A9 (az ua) _) .nil fun x hx y hy=>nomatch hx
theorem cx {a b out:Array Keyed} {na nb:Nat} (m:Mg (rn rk) (rv a++rv b) out.toList ((rv a).drop (a.size-na)) ((rv b).drop (b.size-nb))) (ua:upL rk a.toList) (ub:upL rk b.toList) (hf:∀ x∈a.toList,kk rk b 0<=rk x) (hn:nb<=b.size) (h:nb=1):Gd rk (a.toList++b.toList) (b.extract 0 nb++a.extract 0 na++out.reverse).toList:=by
 refine Gd.rv ?_
 have e:(b.extract 0 nb++a.extract 0 na++out.reverse).toList.reverse=out.toList++(rv a).drop (a.size-na)++(rv b).drop (b.size-nb):=by
  rw [P5,P5]
  simp [List.extract_eq_take_drop]
 rw [e]
 refine m.fin (A9 (az ua) _) (A9 (az ub) _) fun x hx y hy=>?_
 have h1:=hf x (List.mem_reverse.mp (List.mem_of_mem_drop hx))
 have h2:=W6 ub hn hy
 rw [h] at h2
 show -_ <= -_
 have h2:rk y<=kk rk b 0:=h2
 omega
structure Jh (rk:Keyed->Int) (a b:Array Keyed) (out:Array Keyed) (na nb:Nat):Prop where
 mg:Mg (rn rk) (rv a++rv b) out.toList ((rv a).drop (a.size-na)) ((rv b).drop (b.size-nb))
 ha:0<na
 hb:1<nb
 la:na<=a.size
 lb:nb<=b.size
theorem jJ {st:SortSt} {a b:Array Keyed} {Q:Array Keyed->SortSt->Prop} (hc:Cmp prog w A s κ rk a₀) (hk:kindOf st=κ) (ha:∀ x∈a.toList,x∈a₀) (hb:∀ x∈b.toList,x∈a₀) (ua:upL rk a.toList) (ub:upL rk b.toList)
  (ha0:0<a.size) (hb0:0<b.size) (hf:∀ x∈a.toList,kk rk b 0<=rk x) (hl:∀ x∈b.toList,rk x<=kk rk a (a.size-1))
  (h:∀ res g,Gd rk (a.toList++b.toList) res.toList->Q res (gS st g)):wpS (model prog w) A E s (qj a b) Q st:=by
 have uA:=az ua
 have uB:=az ub
 refine wpS_bind (wpS_lift (wpAny_rule ⟨rfl,?_⟩))
 refine K5 (a:=a) (i:=a.size-1) (by omega) fun y0 hy0 ey0 ly0=>?_
 refine wpS_bind (j3 ey0 ?_)
 dsimp (zeta:=false) only
 have push_a:∀ {out:Array Keyed} {na nb:Nat} {x:Keyed},Mg (rn rk) (rv a++rv b) out.toList ((rv a).drop (a.size-na)) ((rv b).drop (b.size-nb))->0<na->na<=a.size->nb<=b.size->a.toList[na-1]?=some x->(∀ y∈(rv b).drop (b.size-nb),rk y<=rk x) ->
   Mg (rn rk) (rv a++rv b) (out.push x).toList ((rv a).drop (a.size-(na-1))) ((rv b).drop (b.size-nb)):=fun {out na nb x} m h1 h2 h3 lx hle=>by
  have:=m.pa uA (rJ h1 h2 lx) fun y hy=>by show -_ <= -_; have:=hle y hy; omega
  rw [Array.toList_push,sb1 h1 h2]
  exact this
 have push_b:∀ {out:Array Keyed} {na nb:Nat} {x:Keyed},Mg (rn rk) (rv a++rv b) out.toList ((rv a).drop (a.size-na)) ((rv b).drop (b.size-nb))->0<nb->nb<=b.size->b.toList[nb-1]?=some x->(∀ y∈(rv a).drop (a.size-na),rk y<=rk x) ->
   Mg (rn rk) (rv a++rv b) (out.push x).toList ((rv a).drop (a.size-na)) ((rv b).drop (b.size-(nb-1))):=fun {out na nb x} m h1 h2 lx hle=>by
  have:=m.pb uB (rJ h1 h2 lx) fun y hy=>by show -_ <= -_; have:=hle y hy; omega
  rw [Array.toList_push,sb1 h1 h2]
  exact this
 have m0:Mg (rn rk) (rv a++rv b) #[y0].toList ((rv a).drop (a.size-(a.size-1))) ((rv b).drop (b.size-b.size)):=by
  have m:Mg (rn rk) (rv a++rv b) (#[]:Array Keyed).toList ((rv a).drop (a.size-a.size)) ((rv b).drop (b.size-b.size)):=⟨by simp,.nil,fun x hx=>nomatch hx⟩
  exact push_a m ha0 (Nat.le_refl _) (Nat.le_refl _) ly0 fun y hy=>by
   rw [<- n9 (rk:=rk) ly0]; exact hl y (List.mem_reverse.mp (List.mem_of_mem_drop hy))
 refine D8 (fun c1=>wpS_pure (h _ (gallopOf st) (cy m0 ub c1))) fun c1=>?_
 by_cases c2:b.size=1
 ·rw [if_pos (by simpa using c2)]
  exact wpS_pure (h _ (gallopOf st) (cx m0 ua ub hf (Nat.le_refl _) c2))
 rw [if_neg (by simpa using c2)]
 refine wpS_bind (wpS_get ?_)
 have j0:Jh rk a b #[y0] (a.size-1) b.size:=⟨m0,by omega,by omega,by omega,by omega⟩
 refine wpS_bind (wpS_mono (wpS_forRange (fun x c st'=>∃ out na nb g g',c=(none,na,nb,out,g)/\st'=gS st g'/\Jh rk a b out na nb/\na+nb+x<=a.size+b.size)
  (Q:=fun c st'=>∃ res g,c.1=some res/\st'=gS st g/\Gd rk (a.toList++b.toList) res.toList) ?step ?fin ⟨_,_,_,_,gallopOf st,rfl,rfl,j0,by omega⟩) ?post)
 case fin=>
  rintro c st' ⟨out,na,nb,g,g',rfl,rfl,j,hm⟩
  have:=j.ha
  omega
 case post=>
  rintro ⟨c1,c2⟩ st' ⟨res,g,e,rfl,hg⟩
  cases e
  exact wpS_pure (h res g hg)
 case step=>
  intro x c st' _ _ hI
  refine kO (c:=c) (t:=st') hI fun out na nb g g' jm=>?_
  have j:=jm.1
  have hm:=jm.2
  clear hI jm c st'
  clear c1 c2 j0 m0
  dsimp (zeta:=false) only
  refine wpS_bind (wpS_mono (wpS_forRange (fun y c st'=>∃ out na nb ac bc,c=(none,na,nb,out,ac,bc)/\st'=gS st g'/\Jh rk a b out na nb/\na+nb+x+min y 1<=a.size+b.size)
   (Q:=fun c st'=>st'=gS st g'/\((∃ res,c.1=some res/\Gd rk (a.toList++b.toList) res.toList)\/∃ out na nb ac bc,c=(none,na,nb,out,ac,bc)/\Jh rk a b out na nb/\na+nb+x+1<=a.size+b.size)) ?istep ?ifin ⟨out,na,nb,0,0,rfl,rfl,j,by omega⟩) ?ipost)
  case ifin=>
   rintro c st' ⟨out,na,nb,ac,bc,rfl,rfl,j,hm⟩
   have:=j.ha
   exact ⟨rfl,.inr ⟨_,_,_,_,_,rfl,j,by omega⟩⟩
  case istep=>
   clear j hm
   intro y c st' _ _ hI
   refine kO (c:=c) (t:=st') hI fun out na nb ac bc jm=>?_
   have j:=jm.1
   have hm:=jm.2
   clear hI jm c st'
   dsimp only
   have jha:=j.ha
   have jhb:=j.hb
   have jla:=j.la
   have jlb:=j.lb
   refine K5 (a:=b) (i:=nb-1) (by omega) fun u hu eu lu=>?_
   refine K5 (a:=a) (i:=na-1) (by omega) fun v hv ev lv=>?_
   refine wpS_bind (j3 eu (wpS_bind (j3 ev (wpS_bind (bE hc (hb u hu) (ha v hv) hk ?_)))))
   dsimp only
   refine M7 (fun q=>?_) fun q=>?_
   ·skip
    refine wpS_bind (j3 ev ?_)
    have m:=push_a j.mg jha jla jlb lv fun z hz=>by
     have:=W6 ub jlb hz
     rw [n9 (rk:=rk) lu] at this
     omega
    refine D8 (fun c=>wpS_pure ⟨rfl,.inl ⟨_,rfl,cy m ub c⟩⟩) fun c=>?_
    ·skip
     have j2:Jh rk a b (out.push v) (na-1) nb:=⟨m,by omega,jhb,Nat.le_trans (Nat.sub_le _ _) jla,jlb⟩
     split
     ·exact wpS_pure ⟨rfl,.inr ⟨_,_,_,_,_,rfl,j2,qe hm jha⟩⟩
     ·exact wpS_pure ⟨_,_,_,_,_,rfl,rfl,j2,ms1 hm jha⟩
   ·skip
    refine wpS_bind (j3 eu ?_)
    have m:=push_b j.mg (by omega) jlb lu fun z hz=>by
     have:=W6 ua jla hz
     rw [n9 (rk:=rk) lv] at this
     omega
    refine D8 (fun c=>wpS_pure ⟨rfl,.inl ⟨_,rfl,cx m ua ub hf (by omega) c⟩⟩) fun c=>?_
    ·skip
     have j2:Jh rk a b (out.push u) na (nb-1):=⟨m,jha,by omega,jla,Nat.le_trans (Nat.sub_le _ _) jlb⟩
     split
     ·exact wpS_pure ⟨rfl,.inr ⟨_,_,_,_,_,rfl,j2,yQ hm (Nat.lt_of_succ_lt jhb)⟩⟩
     ·exact wpS_pure ⟨_,_,_,_,_,rfl,rfl,j2,ms2 hm (Nat.lt_of_succ_lt jhb)⟩
  case ipost=>
   clear j hm
   intro c st' hI
   refine AF (c:=c) (t:=st') hI (fun res _ hg=>wpS_pure ⟨res,g',rfl,rfl,hg⟩) fun out na nb ac bc jm=>?_
   have j:=jm.1
   have hm:=jm.2
   clear hI jm c st'
   dsimp (zeta:=false) only
   refine wpS_bind (wpS_lift (wpAny_rule ⟨rfl,?_⟩))
   refine wpS_bind (wpS_mono (wpS_forRange (fun y c st'=>∃ out na nb mg ac bc g,c=(none,na,nb,out,mg,ac,bc)/\st'=gS st g/\Jh rk a b out na nb/\na+nb+x+1<=a.size+b.size)
    (Q:=fun c st'=>∃ g,st'=gS st g/\((∃ res,c.1=some res/\Gd rk (a.toList++b.toList) res.toList)\/∃ out na nb mg ac bc,c=(none,na,nb,out,mg,ac,bc)/\Jh rk a b out na nb/\na+nb+x+1<=a.size+b.size)) ?gstep ?gfin ⟨out,na,nb,_,ac,bc,g',rfl,rfl,j,hm⟩) ?gpost)
   case gfin=>
    rintro c st' ⟨out,na,nb,mg,ac,bc,g,rfl,rfl,j,hm⟩
    exact ⟨g,rfl,.inr ⟨_,_,_,_,_,_,rfl,j,hm⟩⟩
   case gpost=>
    clear j hm
    intro c st' hI
    refine AG (c:=c) (t:=st') hI (fun g res _ hg=>wpS_pure ⟨res,g,rfl,rfl,hg⟩) fun g out na nb mg ac bc jm=>?_
    have j:=jm.1
    have hm:=jm.2
    clear hI jm c st'
    try dsimp (zeta:=false) only
    exact wpS_bind (wpS_modify (wpS_pure ⟨_,_,_,_,_,rfl,rfl,j,by omega⟩))
   case gstep=>
    clear j hm
    intro y c st' _ _ hI
    refine AI (c:=c) (t:=st') hI fun out na nb mg ac bc g jm=>?_
    have j:=jm.1
    have hm:=jm.2
    clear hI jm c st'
    try dsimp (zeta:=false) only
    have jha:=j.ha
    have jhb:=j.hb
    have jla:=j.la
    have jlb:=j.lb
    refine K5 (a:=b) (i:=nb-1) (by omega) fun u hu eu lu=>?_
    extract_lets s0 o0 s1 i0 s2 i1 s3 m0 s4 a0 b0 ib1 jp mg1
    refine ld (jp:=jp) fun mg2=>?_
    dsimp (zeta:=false) only [jp]
    clear jp
    subst s0 o0 s1 i0 s2 i1 s3 m0 s4 a0 b0 ib1 mg1
    try dsimp (zeta:=false) only
    refine wpS_bind (wpS_modify ?_)
    refine wpS_bind (j3 eu (wpS_bind (J0 hc hk (hb u hu) (fun i hi=>?ga) (fun i j hij hj=>aA ua (by omega) (by omega)) (by omega) fun k k1 k2 k3=>?_)))
    case ga=>
     refine K5 (a:=a) (i:=0+i) (by omega) fun v hv ev lv=>?_
     exact ⟨v,ha v hv,ev⟩
    try dsimp (zeta:=false) only
    simp only [Nat.zero_add] at k2 k3
    extract_lets kc acnt jp2 out1 na1
    subst kc acnt out1 na1
    have m1:Mg (rn rk) (rv a++rv b) (out++(a.extract k na).reverse).toList ((rv a).drop (a.size-k)) ((rv b).drop (b.size-nb)):=by
     rw [Array.toList_append,bM k1 jla]
     have:a.size-k=a.size-na+(na-k):=sb2 jla k1
     rw [this]
     refine j.mg.ka uA fun z hz y hy=>?_
     rw [<- bM k1 jla] at hz
     have hz:z∈(a.extract k na).toList:=by simpa using hz
     rw [show na=k+(na-k) from (Nat.add_sub_cancel' k1).symm,V0] at hz
     obtain ⟨i,hi,li⟩:=P6 hz
     have h1:=k3 (k+i) (Nat.le_add_right _ _) (Nat.add_lt_of_lt_sub' hi)
     rw [n9 (rk:=rk) li] at h1
     have h2:=W6 ub jlb hy
     rw [n9 (rk:=rk) lu] at h2
     simp [bey] at h1
     show -_ <= -_
     omega
    have b1:∀ z∈(rv a).drop (a.size-k),rk z<=rk u:=fun z hz=>by
     by_cases c:0<k
     ·have h1:=k2 (k-1) (Nat.sub_lt c (by decide))
      have h2:=W6 ua (Nat.le_trans k1 jla) hz
      simp [bey] at h1
      omega
     ·rw [List.drop_eq_nil_of_le (by simp; omega)] at hz; cases hz
    refine lg (fun q=>?e1) (fun _ c=>wpS_pure ⟨_,rfl,.inl ⟨_,rfl,cy m1 ub (by simpa using c)⟩⟩) fun q0=>?_
    case e1=>
     have k0:k=na:=Nat.le_antisymm k1 (Nat.le_of_sub_eq_zero (Nat.eq_zero_of_not_pos q))
     rw [k0,Aw]
    have q1:0<k:=by
     by_cases kz:na-k>0
     ·have:=q0 kz
      simp at this
      omega
     ·omega
    generalize out++(a.extract k na).reverse=out1 at m1 ⊢
    dsimp (zeta:=false) only [jp2]
    clear jp2
    refine wpS_bind (j3 eu ?_)
    extract_lets out3
    have m2:=push_b m1 (Nat.lt_of_succ_lt jhb) jlb lu b1
    refine D8 (fun c3=>wpS_pure ⟨_,rfl,.inl ⟨_,rfl,cx m2 ua ub hf (by omega) c3⟩⟩) fun c3=>?_
    refine K5 (a:=a) (i:=k-1) (Nat.lt_of_le_of_lt (Nat.sub_le_sub_right (Nat.le_trans k1 jla) 1) (Nat.sub_lt ha0 (by decide))) fun v hv ev lv=>?_
    refine wpS_bind (j3 ev (wpS_bind (J0 hc hk (ha v hv) (fun i hi=>?gb) (fun i j hij hj=>aA ub (by omega) (by omega)) (by omega) fun l l1 l2 l3=>?_)))
    case gb=>
     refine K5 (a:=b) (i:=0+i) (by omega) fun v hv ev lv=>?_
     exact ⟨v,hb v hv,ev⟩
    try dsimp (zeta:=false) only
    simp only [Nat.zero_add] at l2 l3
    extract_lets lc bcnt jp3 out4 nb4
    subst out3 lc bcnt out4 nb4
    have m3:Mg (rn rk) (rv a++rv b) (out1.push u++(b.extract l (nb-1)).reverse).toList ((rv a).drop (a.size-k)) ((rv b).drop (b.size-l)):=by
     rw [Array.toList_append,bM l1 (Nat.le_trans (Nat.sub_le _ _) jlb)]
     have:b.size-l=b.size-(nb-1)+(nb-1-l):=sb2 (Nat.le_trans (Nat.sub_le _ _) jlb) l1
     rw [this]
     refine m2.kb uB fun z hz y hy=>?_
     rw [<- bM l1 (Nat.le_trans (Nat.sub_le _ _) jlb)] at hz
     have hz:z∈(b.extract l (nb-1)).toList:=by simpa using hz
     rw [show nb-1=l+(nb-1-l) from (Nat.add_sub_cancel' l1).symm,V0] at hz
     obtain ⟨i,hi,li⟩:=P6 hz
     have h1:=l3 (l+i) (Nat.le_add_right _ _) (Nat.add_lt_of_lt_sub' hi)
     rw [n9 (rk:=rk) li] at h1
     have h2:=W6 ua (Nat.le_trans k1 jla) hy
     rw [n9 (rk:=rk) lv] at h2
     simp [bey] at h1
     show -_ <= -_
     omega
    have b2:∀ z∈(rv b).drop (b.size-l),rk z<=rk v:=fun z hz=>by
     by_cases c:0<l
     ·have h1:=l2 (l-1) (Nat.sub_lt c (by decide))
      have h2:=W6 ub (Nat.le_trans l1 (Nat.le_trans (Nat.sub_le _ _) jlb)) hz
      simp [bey] at h1
      omega
     ·rw [List.drop_eq_nil_of_le (by simp; omega)] at hz; cases hz
    refine lf (fun q=>?e2) (fun _ c=>wpS_pure ⟨_,rfl,.inl ⟨_,rfl,cx m3 ua ub hf (by omega) (by simpa using c)⟩⟩) (fun _ _ c=>wpS_pure ⟨_,rfl,.inl ⟨_,rfl,zP m3 ua (by simpa using c)⟩⟩) fun q0=>?_
    case e2=>
     have k0:l=nb-1:=Nat.le_antisymm l1 (Nat.le_of_sub_eq_zero (Nat.eq_zero_of_not_pos q))
     rw [k0,Aw]
    have q2:1<l:=by
     by_cases kz:nb-1-l>0
     ·have:=q0 kz
      simp at this
      omega
     ·omega
    generalize out1.push u++(b.extract l (nb-1)).reverse=out2 at m3 ⊢
    dsimp only [jp3]
    clear jp3
    refine wpS_bind (j3 ev ?_)
    try dsimp only
    have hkA:=Nat.le_trans k1 jla
    have hlB:=Nat.le_trans l1 (Nat.le_trans (Nat.sub_le _ _) jlb)
    have m4:=push_a m3 q1 hkA hlB lv b2
    refine D8 (fun c4=>wpS_pure ⟨_,rfl,.inl ⟨_,rfl,cy m4 ub c4⟩⟩) fun c4=>?_
    have j4:Jh rk a b (out2.push v) (k-1) l:=⟨m4,by omega,q2,Nat.le_trans (Nat.sub_le _ _) hkA,hlB⟩
    have hm4:k-1+l+x+1<=a.size+b.size:=Nat.le_trans (Nat.succ_le_succ (Nat.add_le_add_right (Nat.add_le_add (Nat.le_trans (Nat.sub_le _ _) k1) (Nat.le_trans l1 (Nat.sub_le _ _))) x)) hm
    split
    ·exact wpS_pure ⟨_,rfl,.inr ⟨_,_,_,_,_,_,rfl,j4,hm4⟩⟩
    ·exact wpS_pure ⟨_,_,_,_,_,_,_,rfl,rfl,j4,hm4⟩
end
section
variable {prog:Program} {w:World} {A:Around} {E:Value->Shared->Prop} {s:Shared} {a₀:Array Keyed} {κ:SortKind} {rk:Keyed->Int}
theorem iI (sa:Nat):∀ (ms:List Keyed) (j:Nat) (arr:Array Keyed),sa+j+ms.length<=arr.size->((ms.zipIdx j).foldl (fun a x=>a.setIfInBounds (sa+x.2) x.1) arr).toList=arr.toList.take (sa+j)++ms++arr.toList.drop (sa+j+ms.length)
 | [],j,arr,_=>by simp
 | m::ms,j,arr,h=>by
  rw [List.zipIdx_cons,List.foldl_cons]
  rw [List.length_cons] at h
  have hj:sa+j<arr.toList.length:=by simp; omega
  rw [iI sa ms (j+1) _ (by simp; omega),Array.toList_setIfInBounds]
  have e1:(arr.toList.set (sa+j) m).take (sa+(j+1))=arr.toList.take (sa+j) ++ [m]:=by
   rw [<- Nat.add_assoc,List.take_succ,List.take_set_of_le (Nat.le_refl _),List.getElem?_set_self hj]; rfl
  rw [e1,List.drop_set_of_lt (by omega),List.length_cons,show sa+(j+1)+ms.length=sa+j+(ms.length+1) by omega]
  simp
abbrev rn_ (L:List Keyed) (i n:Nat):List Keyed:=(L.drop i).take n
theorem AE {L:List Keyed} {i n m:Nat}:L=L.take i++(rn_ L i n++rn_ L (i+n) m)++L.drop (i+n+m):=by
 have e1:L.drop i=rn_ L i n++L.drop (i+n):=V2 L i n
 have e2:L.drop (i+n)=rn_ L (i+n) m++L.drop (i+n+m):=V2 L (i+n) m
 rw [List.append_assoc,List.append_assoc,<- e2,<- e1,List.take_append_drop]
theorem aD {L:List Keyed} {i n j:Nat} (h:j<n):(rn_ L i n)[j]?=L[i+j]?:=by
 rw [List.getElem?_take_of_lt h,List.getElem?_drop]
theorem rK {a:Array Keyed} {i n:Nat} (hu:upL rk (rn_ a.toList i n)) (hn:i+n<=a.size):∀ u v,u<=v->v<n->kk rk a (i+u)<=kk rk a (i+v):=fun u v huv hv=>by
 have h1:u<(rn_ a.toList i n).length:=by simp; omega
 obtain ⟨x,hx,ex,lx⟩:=R7 (a:=a) (i:=i+u) (by omega)
 obtain ⟨y,hy,ey,ly⟩:=R7 (a:=a) (i:=i+v) (by omega)
 rw [S6 ex,S6 ey]
 refine ft hu (i:=u) (by rw [aD (by omega)]; exact lx) y (List.mem_iff_getElem?.mpr ⟨v-u,?_⟩)
 rw [List.getElem?_drop,show u+(v-u)=v by omega,aD hv]; exact ly
theorem fJ (L:List Keyed) (i n k:Nat) (h:k<=n):rn_ L i n=rn_ L i k++rn_ L (i+k) (n-k):=by
 unfold rn_
 rw [show n=k+(n-k) from (Nat.add_sub_cancel' h).symm,List.take_add,List.drop_drop,Nat.add_sub_cancel_left]
theorem sQ {σ:Type} {M:Model} {x:σ} {Q:PUnit->σ->Prop} {st:σ} (h:Q ⟨⟩ x):wpS M A E s (set x:StateT σ Sem PUnit) Q st:=by
 unfold wpS; rw [StateT.run_set]; exact wpAny_pure ⟨rfl,h⟩
abbrev sS (κ:SortKind) (arr:Array Keyed) (pd:Array (Nat×Nat×Nat)) (g:Nat):SortSt:=SortSt.mk' κ arr pd g none
theorem jK {arr:Array Keyed} {pd:Array (Nat×Nat×Nat)} {g0 i sa na pw sb nb pw2:Nat} {Q:Bool->SortSt->Prop} (hc:Cmp prog w A s κ rk a₀) (hin:∀ x∈arr.toList,x∈a₀) (e1:pd[i]?=some (sa,na,pw)) (e2:pd[i+1]?=some (sb,nb,pw2))
  (hsb:sb=sa+na) (hz:sb+nb<=arr.size) (na0:0<na) (nb0:0<nb) (ux:upL rk (rn_ arr.toList sa na)) (uy:upL rk (rn_ arr.toList sb nb))
  (h:∀ M g,Gd rk (rn_ arr.toList sa na++rn_ arr.toList sb nb) M->Q true (sS κ (arr.toList.take sa++M++arr.toList.drop (sb+nb)).toArray ((pd.setIfInBounds i (sa,na+nb,pw)).eraseIdxIfInBounds (i+1)) g)) :
  wpS (model prog w) A E s (mergeAt' i) Q (sS κ arr pd g0):=by
 refine wpS_bind (wpS_get ?_)
 dsimp only
 rw [e1,e2]
 dsimp only
 refine wpS_bind (sQ ?_)
 obtain ⟨u,hu,eu,lu⟩:=R7 (a:=arr) (i:=sb) (by omega)
 have kx:=rK ux (by omega)
 have ky:=rK uy (by omega)
 have asis:∀ g,upL rk (rn_ arr.toList sa na++rn_ arr.toList sb nb)->Q true (sS κ arr ((pd.setIfInBounds i (sa,na+nb,pw)).eraseIdxIfInBounds (i+1)) g):=fun g hu=>by
  have:=h _ g ⟨List.Perm.refl _,hu⟩
  have e:=AE (L:=arr.toList) (i:=sa) (n:=na) (m:=nb)
  rw [<- hsb] at e
  rw [<- e] at this
  exact this
 have mx:∀ {x:Keyed} {i n:Nat},x∈rn_ arr.toList i n->∃ j,j<n/\arr.toList[i+j]?=some x:=fun h=>P6 h
 have pw_app:∀ {p q:List Keyed},upL rk p->upL rk q->(∀ x∈p,∀ y∈q,rk x<=rk y)->upL rk (p++q):=fun a b c=>List.pairwise_append.mpr ⟨a,b,c⟩
 refine wpS_bind (j3 eu (wpS_bind (J0 hc rfl (hin u hu) (fun i hi=>?ga) kx na0 fun k k1 k2 k3=>?_)))
 case ga=>
  obtain ⟨v,hv,ev,lv⟩:=R7 (a:=arr) (i:=sa+i) (by omega)
  exact ⟨v,hin v hv,ev⟩
 dsimp only
 have yfirst:∀ y∈rn_ arr.toList sb nb,rk u<=rk y:=fun y hy=>by
  obtain ⟨j,hj,lj⟩:=mx hy
  have:=ky 0 j (by omega) hj
  rw [Nat.add_zero,n9 (rk:=rk) lu,n9 (rk:=rk) lj] at this
  exact this
 by_cases c1:na-k=0
 ·rw [if_pos (by simpa using c1)]
  refine wpS_pure (asis _ (pw_app ux uy fun x hx y hy=>?_))
  obtain ⟨j,hj,lj⟩:=mx hx
  have h1:=k2 j (by omega)
  rw [n9 (rk:=rk) lj] at h1
  have h2:=yfirst y hy
  simp [bey] at h1
  omega
 rw [if_neg (by simpa using c1)]
 rw [show sa+k+(na-k)-1=sa+na-1 by rw [Nat.add_assoc,Nat.add_sub_cancel' k1]]
 obtain ⟨v,hv,ev,lv⟩:=R7 (a:=arr) (i:=sa+na-1) (Nat.lt_of_lt_of_le (Nat.sub_lt (Nat.lt_of_lt_of_le na0 (Nat.le_add_left _ _)) (by decide)) (Nat.le_trans (Nat.le_of_eq hsb.symm) (Nat.le_trans (Nat.le_add_right _ _) hz)))
 refine wpS_bind (j3 ev (wpS_bind (J0 hc rfl (hin v hv) (fun i hi=>?gb) ky (by omega) fun l l1 l2 l3=>?_)))
 case gb=>
  obtain ⟨v,hv,ev,lv⟩:=R7 (a:=arr) (i:=sb+i) (by omega)
  exact ⟨v,hin v hv,ev⟩
 dsimp only
 have xlast:∀ x∈rn_ arr.toList sa na,rk x<=rk v:=fun x hx=>by
  obtain ⟨j,hj,lj⟩:=mx hx
  have:=kx j (na-1) (Nat.le_pred_of_lt hj) (Nat.sub_lt na0 (by decide))
  rw [sb5 na0,n9 (rk:=rk) lv,n9 (rk:=rk) lj] at this
  exact this
 by_cases c2:l=0
 ·rw [if_pos (by simpa using c2)]
  refine wpS_pure (asis _ (pw_app ux uy fun x hx y hy=>?_))
  obtain ⟨j,hj,lj⟩:=mx hy
  have h1:=l3 j (by omega) (by omega)
  rw [n9 (rk:=rk) lj] at h1
  have h2:=xlast x hx
  simp [bey] at h1
  omega
 rw [if_neg (by simpa using c2)]
 have sx:=fJ arr.toList sa na k k1
 have sy:=fJ arr.toList sb nb l l1
 have ex:(arr.extract (sa+k) sb).toList=rn_ arr.toList (sa+k) (na-k):=by
  rw [show sb=sa+k+(na-k) by rw [Nat.add_assoc,Nat.add_sub_cancel' k1]; exact hsb,V0]
 have ey:(arr.extract sb (sb+l)).toList=rn_ arr.toList sb l:=V0 _ _ _
 have zx:(arr.extract (sa+k) sb).size=na-k:=by rw [Array.size_extract,Nat.min_eq_left (Nat.le_trans (Nat.le_add_right _ _) hz),hsb,Nat.add_sub_add_left]
 have zy:(arr.extract sb (sb+l)).size=l:=by rw [Array.size_extract,Nat.min_eq_left (Nat.le_trans (Nat.add_le_add_left l1 sb) hz),Nat.add_sub_cancel_left]
 rw [sx] at ux xlast
 rw [sy] at uy yfirst
 have ux2:=(List.pairwise_append.mp ux)
 have uy2:=(List.pairwise_append.mp uy)
 have k0x:kk rk (arr.extract (sa+k) sb) ((arr.extract (sa+k) sb).size-1)=rk v:=by
  refine n9 ?_
  rw [ex,zx,aD (Nat.sub_lt (Nat.pos_of_ne_zero c1) (by decide)),sb5 (Nat.pos_of_ne_zero c1),Nat.add_assoc,Nat.add_sub_cancel' k1]; exact lv
 have k0y:kk rk (arr.extract sb (sb+l)) 0=rk u:=by
  refine n9 ?_
  rw [ey,aD (Nat.pos_of_ne_zero c2)]; exact lu
 have p1:∀ x∈(arr.extract (sa+k) sb).toList,kk rk (arr.extract sb (sb+l)) 0<=rk x:=fun x hx=>by
  rw [k0y]
  rw [ex] at hx
  obtain ⟨j,hj,lj⟩:=mx hx
  have h1:=k3 (k+j) (by omega) (by omega)
  rw [<- Nat.add_assoc,n9 (rk:=rk) lj] at h1
  simp [bey] at h1
  omega
 have p2:∀ x∈(arr.extract sb (sb+l)).toList,rk x<=kk rk (arr.extract (sa+k) sb) ((arr.extract (sa+k) sb).size-1):=fun x hx=>by
  rw [k0x]
  rw [ey] at hx
  obtain ⟨j,hj,lj⟩:=mx hx
  have h1:=l2 j hj
  rw [n9 (rk:=rk) lj] at h1
  simp [bey] at h1
  omega
 have i1:∀ x∈(arr.extract (sa+k) sb).toList,x∈a₀:=fun x hx=>by
  rw [ex] at hx; exact hin x (List.mem_of_mem_drop (List.mem_of_mem_take hx))
 have i2:∀ x∈(arr.extract sb (sb+l)).toList,x∈a₀:=fun x hx=>by
  rw [ey] at hx; exact hin x (List.mem_of_mem_drop (List.mem_of_mem_take hx))
 have fin:∀ (res:Array Keyed) (g:Nat),Gd rk ((arr.extract (sa+k) sb).toList++(arr.extract sb (sb+l)).toList) res.toList->Q true (sS κ (res.toList.zipIdx.foldl (fun a x=>a.setIfInBounds (sa+k+x.2) x.1) arr) ((pd.setIfInBounds i (sa,na+nb,pw)).eraseIdxIfInBounds (i+1)) g):=fun res g hg=>by
  have hlen:res.toList.length=(na-k)+l:=by
   rw [hg.1.length_eq,List.length_append,Array.length_toList,Array.length_toList,zx,zy]
  have e:=iI (sa+k) res.toList 0 arr (by omega)
  rw [hlen,Nat.add_zero] at e
  have e':res.toList.zipIdx.foldl (fun a x=>a.setIfInBounds (sa+k+x.2) x.1) arr=(arr.toList.take sa++(rn_ arr.toList sa k++res.toList++rn_ arr.toList (sb+l) (nb-l))++arr.toList.drop (sb+nb)).toArray:=by
   apply Array.toList_inj.mp
   rw [e]
   have t1:arr.toList.take (sa+k)=arr.toList.take sa++rn_ arr.toList sa k:=List.take_add
   have t2:arr.toList.drop (sb+l)=rn_ arr.toList (sb+l) (nb-l)++arr.toList.drop (sb+l+(nb-l)):=V2 _ _ _
   rw [t1,show sa+k+(na-k+l)=sb+l by rw [<- Nat.add_assoc,Nat.add_assoc sa,Nat.add_sub_cancel' k1,hsb],t2,show sb+l+(nb-l)=sb+nb by rw [Nat.add_assoc,Nat.add_sub_cancel' l1]]
   simp
  rw [e']
  refine h _ g ⟨?_,?_⟩
  ·rw [sx,sy]
   have:=hg.1
   rw [ex,ey] at this
   rw [List.append_assoc,List.append_assoc (rn_ arr.toList sa k)]
   refine List.Perm.append_left _ ?_
   rw [<- List.append_assoc]
   exact List.Perm.append_right _ this
  ·have hm:∀ x∈res.toList,x∈rn_ arr.toList (sa+k) (na-k)\/x∈rn_ arr.toList sb l:=fun x hx=>by
    have:=hg.1.mem_iff.mp hx
    rw [ex,ey] at this
    exact List.mem_append.mp this
   refine pw_app (pw_app ux2.1 hg.2 fun x hx y hy=>?_) uy2.2.1 fun x hx y hy=>?_
   ·rcases hm y hy with q | q
    ·exact ux2.2.2 x hx y q
    ·obtain ⟨j,hj,lj⟩:=mx hx
     have h1:=k2 j hj
     rw [n9 (rk:=rk) lj] at h1
     have h2:=yfirst y (List.mem_append_left _ q)
     simp [bey] at h1
     omega
   ·have hv':∀ z,z∈rn_ arr.toList sa k++rn_ arr.toList (sa+k) (na-k)->rk z<=rk y:=fun z hz=>by
     obtain ⟨j,hj,lj⟩:=mx hy
     have h1:=l3 (l+j) (Nat.le_add_right _ _) (Nat.add_lt_of_lt_sub' hj)
     rw [<- Nat.add_assoc,n9 (rk:=rk) lj] at h1
     have h2:=xlast z hz
     simp [bey] at h1
     omega
    rcases List.mem_append.mp hx with q | q
    ·exact hv' x (List.mem_append_left _ q)
    ·rcases hm x q with r | r
     ·exact hv' x (List.mem_append_right _ r)
     ·exact uy2.2.2 x r y hy
 by_cases c3:na-k<=l
 ·rw [if_pos c3]
  refine wpS_bind (jI hc rfl i1 i2 (by rw [ex]; exact ux2.2.1) (by rw [ey]; exact uy2.1) (by omega) (by omega) p1 p2 fun res g hg=>?_)
  refine wpS_bind (wpS_modify (wpS_bind (wpS_get (wpS_pure (fin res g hg)))))
 ·rw [if_neg c3]
  refine wpS_bind (jJ hc rfl i1 i2 (by rw [ex]; exact ux2.2.1) (by rw [ey]; exact uy2.1) (by omega) (by omega) p1 p2 fun res g hg=>?_)
  refine wpS_bind (wpS_modify (wpS_bind (wpS_get (wpS_pure (fin res g hg)))))
end
section
variable {prog:Program} {w:World} {A:Around} {E:Value->Shared->Prop} {s:Shared} {a₀:Array Keyed} {κ:SortKind} {rk:Keyed->Int} {arr:Array Keyed} {pd:Array (Nat×Nat×Nat)} {g lo:Nat}
theorem gQ {xs:Array Keyed} {i j:Nat} (hj:j<=xs.size) (k:Nat):kk rk (mirror xs i j ((j-i)/2)) k=if i<=k/\k<j then kk rk xs (i+j-1-k) else kk rk xs k:=by
 have e:=getElem?_mirror_all (i:=i) hj k
 split
 ·rename_i h; rw [if_pos h] at e; exact cu e
 ·rename_i h; rw [if_neg h] at e; exact cu e
theorem di {xs:Array Keyed} {i j:Nat} (hj:j<=xs.size) (heq:∀ k,i<=k->k<j->kk rk xs k=kk rk xs (j-1)) (k:Nat):kk rk (mirror xs i j ((j-i)/2)) k=kk rk xs k:=by
 rw [gQ hj]
 by_cases c:i<=k/\k<j
 ·rw [if_pos c,heq _ (yS c).1 (yS c).2,heq k c.1 c.2]
 ·rw [if_neg c]
theorem yV {xs:Array Keyed} {src d:Nat} (hs:src<xs.size) (hd:d<=src) (k:Nat):kk rk (bubble xs src d) k=if k=src-d then kk rk xs src else if src-d<k/\k<=src then kk rk xs (k-1) else kk rk xs k:=by
 have e:=getElem?_bubble hs d hd k
 split
 ·rename_i h; rw [if_pos h] at e; exact cu e
 ·rename_i h
  rw [if_neg h] at e
  split
  ·rename_i h2; rw [if_pos h2] at e; exact cu e
  ·rename_i h2; rw [if_neg h2] at e; exact cu e
structure Rl (lo:Nat) (arr arr':Array Keyed):Prop where
 perm:arr'.toList.Perm arr.toList
 same:∀ k,k<lo->arr'[k]?=arr[k]?
theorem Rl.refl:Rl lo arr arr:=⟨.refl _,fun _ _=>rfl⟩
theorem Rl.trans {a b c:Array Keyed} (h1:Rl lo a b) (h2:Rl lo b c):Rl lo a c:=⟨h2.perm.trans h1.perm,fun k hk=>(h2.same k hk).trans (h1.same k hk)⟩
theorem Rl.size {a b:Array Keyed} (h:Rl lo a b):b.size=a.size:=by
 have:=h.perm.length_eq
 simpa using this
theorem Rl.mem {a b:Array Keyed} (h:Rl lo a b) (hin:∀ x∈a.toList,x∈a₀):∀ x∈b.toList,x∈a₀:=fun x hx=>hin x (h.perm.mem_iff.mp hx)
theorem Rl.mir {i j:Nat} (hi:lo<=i) (hj:j<=arr.size):Rl lo arr (mirror arr i j ((j-i)/2)):=⟨Array.perm_iff_toList_perm.mp (mirror_perm _ _ _ _),fun k hk=>by
 rw [getElem?_mirror_all hj,if_neg (by omega)]⟩
theorem Rl.bub {src d:Nat} (hs:src<arr.size) (hd:lo+d<=src):Rl lo arr (bubble arr src d):=⟨Array.perm_iff_toList_perm.mp (bubble_perm _ _ _),fun k hk=>by
 rw [getElem?_bubble hs d (by omega),if_neg (by omega),if_neg (by omega)]⟩
def upA (rk:Keyed->Int) (xs:Array Keyed) (lo m:Nat):Prop:=∀ i j,i<=j->j<m->kk rk xs (lo+i)<=kk rk xs (lo+j)
def dnA (rk:Keyed->Int) (xs:Array Keyed) (lo m:Nat):Prop:=∀ i j,i<=j->j<m->kk rk xs (lo+j)<=kk rk xs (lo+i)
theorem P3 {i j:Nat} {Q:Option Bool->SortSt->Prop} (hc:Cmp prog w A s κ rk a₀) (hin:∀ x∈arr.toList,x∈a₀) (hi:i<arr.size) (hj:j<arr.size) (h:Q (some (decide (kk rk arr i<kk rk arr j))) (sS κ arr pd g)):wpS (model prog w) A E s (ltAt' i j) Q (sS κ arr pd g):=by
 obtain ⟨x,hx,ex,lx⟩:=R7 hi
 obtain ⟨y,hy,ey,ly⟩:=R7 hj
 rw [S6 ex,S6 ey] at h
 rw [ltAt'_eq]
 exact wpS_bind (wpS_get (wpS_bind (j3 ex (wpS_bind (j3 ey (bE hc (hin x hx) (hin y hy) rfl h))))))
theorem lr {m:Nat} (h:upA rk arr lo m) (hm:¬ kk rk arr (lo+m)<kk rk arr (lo+m-1)) (h0:0<m):upA rk arr lo (m+1):=fun i j hij hj=>by
 by_cases hjx:j<m
 ·exact h i j hij hjx
 ·have hj':j=m:=by omega
  subst hj'
  by_cases hi':i=j
  ·subst hi'; exact Int.le_refl _
  ·have:=h i (j-1) (Nat.le_pred_of_lt (Nat.lt_of_le_of_ne hij hi')) (Nat.sub_lt h0 (by decide))
   rw [sb5 h0] at this
   exact Int.le_trans this (Int.not_lt.mp hm)
theorem oD {nrem:Nat} {Q:Option Nat->SortSt->Prop} (hc:Cmp prog w A s κ rk a₀) (hin:∀ x∈arr.toList,x∈a₀) (h1:1<=nrem) (hz:lo+nrem<=arr.size)
  (h:∀ m arr',Rl lo arr arr'->1<=m->m<=nrem->upA rk arr' lo m->Q (some m) (sS κ arr' pd g)):wpS (model prog w) A E s (countRun' lo nrem) Q (sS κ arr pd g):=by
 refine wpS_bind (wpS_mono (wpS_forRange (fun x c st'=>st'=sS κ arr pd g/\c=(none,x)/\upA rk arr lo x)
  (Q:=fun c st'=>st'=sS κ arr pd g/\∃ n,c=(none,n)/\1<=n/\n<=nrem/\upA rk arr lo n/\(n=nrem\/kk rk arr (lo+n)<kk rk arr (lo+n-1))) ?step ?fin ⟨rfl,rfl,fun i j a b=>by rw [show i=j by omega]; exact Int.le_refl _⟩) ?post)
 case fin=>
  rintro c st' ⟨rfl,rfl,hu⟩
  rw [show max 1 nrem=nrem by omega] at hu ⊢
  exact ⟨rfl,nrem,rfl,h1,Nat.le_refl _,hu,.inl rfl⟩
 case step=>
  rintro x c st' hx1 hx ⟨rfl,rfl,hu⟩
  dsimp only
  refine wpS_bind (P3 hc hin (Nat.lt_of_lt_of_le (Nat.add_lt_add_left hx lo) hz) (sb6 hx1 (Nat.le_trans (Nat.add_le_add_left (Nat.le_of_lt hx) lo) hz)) ?_)
  refine M7 (fun q=>?_) fun q=>?_
  ·skip
   exact wpS_pure ⟨rfl,x,rfl,hx1,by omega,hu,.inr q⟩
  ·skip
   exact wpS_pure ⟨rfl,rfl,lr hu q (by omega)⟩
 case post=>
  intro c st' hI
  refine cpsA (c:=c) (t:=st') hI fun n jn=>?_
  have n1:=jn.1
  have n2:=jn.2.1
  have hu:=jn.2.2.1
  have hor:=jn.2.2.2
  clear hI jn c st'
  dsimp only
  refine D8 (fun cn=>wpS_pure (h n arr .refl n1 n2 hu)) fun cn=>?_
  have hlt:=hor.resolve_left cn
  refine kZ (fun st'=>∃ arr1,st'=sS κ arr1 pd g/\Rl lo arr arr1/\dnA rk arr1 lo (n+1)) ?key (fun cg key=>?pos) (fun cg=>⟨arr,rfl,.refl,?neg⟩)
  case pos=>
   refine wpS_bind (P3 hc hin (by omega) (by omega) ?_)
   refine M7 (fun q=>wpS_pure (h n arr .refl n1 n2 hu)) fun q=>?_
   have hall:∀ k,lo<=k->k<lo+n->kk rk arr k=kk rk arr (lo+n-1):=fun k a b=>by
    have a1:=hu 0 (k-lo) (Nat.zero_le _) (Nat.sub_lt_left_of_lt_add a b)
    have a2:=hu (k-lo) (n-1) (Nat.le_pred_of_lt (Nat.sub_lt_left_of_lt_add a b)) (Nat.sub_lt n1 (by decide))
    rw [Nat.add_sub_cancel' a] at a1 a2
    rw [sb5 n1] at a2
    rw [Nat.add_zero] at a1
    omega
   refine wpS_bind (wpS_modify ?_)
   have kE:=di (rk:=rk) (xs:=arr) (i:=lo) (j:=lo+n) (by omega) hall
   refine key _ ⟨mirror arr lo (lo+n) ((lo+n-lo)/2),rfl,Rl.mir (Nat.le_refl _) (by omega),fun i j hij hj=>?_⟩
   rw [kE,kE]
   by_cases hjn:j<n
   ·rw [hall (lo+i) (by omega) (by omega),hall (lo+j) (by omega) (by omega)]; exact Int.le_refl _
   ·have hj':j=n:=by omega
    subst hj'
    by_cases hi':i=j
    ·subst hi'; exact Int.le_refl _
    ·rw [hall (lo+i) (by omega) (by omega)]; exact Int.le_of_lt hlt
  case neg=>
   intro i j hij hj
   by_cases hi':i=j
   ·subst hi'; exact Int.le_refl _
   ·have hi0:i=0:=by omega
    have hj1:j=n:=by omega
    subst hi0; subst hj1
    rw [show lo+j-1=lo+0 by omega] at hlt
    exact Int.le_of_lt hlt
  intro st' hI
  refine AH (t:=st') hI fun arr1 jn=>?_
  have r1:=jn.1
  have d1:=jn.2
  clear hI jn st'
  refine wpS_bind (wpS_lift (wpAny_rule ⟨rfl,?_⟩))
  have z1:arr1.size=arr.size:=r1.size
  refine wpS_bind (wpS_mono (wpS_forRange (fun x c st'=>∃ arr2 neq,st'=sS κ arr2 pd g/\c=(none,x,neq)/\Rl lo arr arr2/\dnA rk arr2 lo x/\neq+1<=x/\∀ i,x-(neq+1)<=i->i<x->kk rk arr2 (lo+i)=kk rk arr2 (lo+x-1))
   (Q:=fun c st'=>∃ arr2 m neq,st'=sS κ arr2 pd g/\c=(none,m,neq)/\n+1<=m/\m<=nrem/\Rl lo arr arr2/\dnA rk arr2 lo m/\neq+1<=m/\∀ i,m-(neq+1)<=i->i<m->kk rk arr2 (lo+i)=kk rk arr2 (lo+m-1)) ?dstep ?dfin ⟨arr1,0,rfl,rfl,r1,d1,by omega,fun i a b=>by congr 1; omega⟩) ?dpost)
  case dfin=>
   rintro c st' ⟨arr2,neq,rfl,rfl,r2,d2,q2,e2⟩
   rw [show max (n+1) nrem=nrem by omega] at d2 q2 e2 ⊢
   exact ⟨arr2,nrem,neq,rfl,rfl,by omega,Nat.le_refl _,r2,d2,q2,e2⟩
  case dstep=>
   intro x c st' hx1 hx hI
   refine cpsC (c:=c) (t:=st') hI fun arr2 neq jn=>?_
   have r2:=jn.1
   have d2:=jn.2.1
   have q2:=jn.2.2.1
   have e2:=jn.2.2.2
   clear hI jn c st'
   dsimp only
   have z2:=r2.size
   have hin2:=r2.mem hin
   have e2':∀ k,lo+x-(neq+1)<=k->k<lo+x->kk rk arr2 k=kk rk arr2 (lo+x-1):=fun k a b=>by
    have:=e2 (k-lo) (sb3 q2 a) (Nat.sub_lt_left_of_lt_add (Nat.le_trans (by rw [Nat.add_sub_assoc q2]; exact Nat.le_add_right _ _) a) b)
    rw [sb4 q2 a] at this; exact this
   refine wpS_bind (P3 hc hin2 (by omega) (by omega) ?_)
   refine M7 (fun q=>?_) fun q=>?_
   ·skip
    have step1:∀ xs:Array Keyed,(∀ k,kk rk xs k=kk rk arr2 k)->dnA rk xs lo (x+1):=by
     intro xs hk i j hij hj
     rw [hk,hk]
     by_cases hjx:j<x
     ·exact d2 i j hij hjx
     ·have hj':j=x:=by omega
      subst hj'
      by_cases hi':i=j
      ·subst hi'; exact Int.le_refl _
      ·have:=d2 i (j-1) (by omega) (by omega)
       rw [sb5 (by omega)] at this
       omega
    by_cases hneq:neq>0
    ·rw [if_pos hneq]
     refine wpS_bind (wpS_modify (wpS_pure ⟨mirror arr2 (lo+x-(neq+1)) (lo+x) ((lo+x-(lo+x-(neq+1)))/2),0,rfl,rfl,r2.trans (Rl.mir (arr:=arr2) (by omega) (by omega)),step1 _ (di (xs:=arr2) (by omega) e2'),by omega,fun i a b=>by congr 1; omega⟩))
    ·rw [if_neg hneq]
     exact wpS_pure ⟨_,0,rfl,rfl,r2,step1 _ (fun _=>rfl),by omega,fun i a b=>by congr 1; omega⟩
   ·skip
    refine wpS_bind (P3 hc hin2 (by omega) (by omega) ?_)
    refine M7 (fun q'=>?_) fun q'=>?_
    ·skip
     exact wpS_pure ⟨arr2,x,neq,rfl,rfl,hx1,by omega,r2,d2,q2,e2⟩
    ·skip
     have heqx:kk rk arr2 (lo+x)=kk rk arr2 (lo+x-1):=by omega
     refine wpS_pure ⟨arr2,neq+1,rfl,rfl,r2,fun i j hij hj=>?_,by omega,fun i a b=>?_⟩
     ·by_cases hjx:j<x
      ·exact d2 i j hij hjx
      ·have hj':j=x:=by omega
       subst hj'
       by_cases hi':i=j
       ·subst hi'; exact Int.le_refl _
       ·have:=d2 i (j-1) (by omega) (by omega)
        rw [sb5 (by omega)] at this
        omega
     ·rw [show lo+(x+1)-1=lo+x by omega]
      by_cases hix:i=x
      ·subst hix; rfl
      ·rw [heqx]; exact e2 i (by omega) (by omega)
  case dpost=>
   intro c st' hI
   refine cpsD (c:=c) (t:=st') hI fun arr2 m neq jn=>?_
   have m1:=jn.1
   have m2:=jn.2.1
   have r2:=jn.2.2.1
   have d2:=jn.2.2.2.1
   have q2:=jn.2.2.2.2.1
   have e2:=jn.2.2.2.2.2
   clear hI jn c st'
   dsimp only
   have z2:=r2.size
   have e2':∀ k,lo+m-(neq+1)<=k->k<lo+m->kk rk arr2 k=kk rk arr2 (lo+m-1):=fun k a b=>by
    have:=e2 (k-lo) (sb3 q2 a) (Nat.sub_lt_left_of_lt_add (Nat.le_trans (by rw [Nat.add_sub_assoc q2]; exact Nat.le_add_right _ _) a) b)
    rw [sb4 q2 a] at this; exact this
   refine kZ (fun st'=>∃ arr3,st'=sS κ arr3 pd g/\Rl lo arr arr3/\dnA rk arr3 lo m) ?key2 (fun _ key=>?pos2) (fun _=>⟨arr2,rfl,r2,d2⟩)
   case pos2=>
    refine wpS_bind (wpS_modify ?_)
    have kE:=di (rk:=rk) (xs:=arr2) (i:=lo+m-(neq+1)) (j:=lo+m) (by omega) e2'
    exact key _ ⟨mirror arr2 (lo+m-(neq+1)) (lo+m) ((lo+m-(lo+m-(neq+1)))/2),rfl,r2.trans (Rl.mir (arr:=arr2) (by omega) (by omega)),fun i j hij hj=>by rw [kE,kE]; exact d2 i j hij hj⟩
   intro st' hI
   refine AH (t:=st') hI fun arr3 jn=>?_
   have r3:=jn.1
   have d3:=jn.2
   clear hI jn st'
   have z3:=r3.size
   refine wpS_bind (wpS_modify ?_)
   have r4:Rl lo arr (mirror arr3 lo (lo+m) ((lo+m-lo)/2)):=r3.trans (Rl.mir (Nat.le_refl _) (by omega))
   have u4:upA rk (mirror arr3 lo (lo+m) ((lo+m-lo)/2)) lo m:=fun i j hij hj=>by
    rw [gQ (by omega),gQ (by omega),if_pos (by omega),if_pos (by omega)]
    have:=d3 (m-1-j) (m-1-i) (Nat.sub_le_sub_left hij _) (Nat.lt_of_le_of_lt (Nat.sub_le _ _) (Nat.sub_lt (Nat.lt_of_le_of_lt (Nat.zero_le j) hj) (by decide)))
    rw [mr1 (Nat.lt_of_le_of_lt hij hj),mr1 hj]
    exact this
   show wpS _ _ _ _ _ _ (sS κ (mirror arr3 lo (lo+m) ((lo+m-lo)/2)) pd g)
   generalize mirror arr3 lo (lo+m) ((lo+m-lo)/2)=arr4 at r4 u4 ⊢
   have z4:=r4.size
   have hin4:=r4.mem hin
   refine wpS_bind (wpS_mono (wpS_forRange (fun x c st'=>st'=sS κ arr4 pd g/\c=(none,x)/\upA rk arr4 lo x)
    (Q:=fun c st'=>st'=sS κ arr4 pd g/\∃ n,c=(none,n)/\1<=n/\n<=nrem/\upA rk arr4 lo n) ?ustep ?ufin ⟨rfl,rfl,u4⟩) ?upost)
   case ufin=>
    rintro c st' ⟨rfl,rfl,hu⟩
    rw [show max m nrem=nrem by omega] at hu ⊢
    exact ⟨rfl,nrem,rfl,h1,Nat.le_refl _,hu⟩
   case ustep=>
    rintro x c st' hx1 hx ⟨rfl,rfl,hu⟩
    dsimp only
    refine wpS_bind (P3 hc hin4 (by omega) (by omega) ?_)
    refine M7 (fun q=>?_) fun q=>?_
    ·skip
     exact wpS_pure ⟨rfl,x,rfl,by omega,by omega,hu⟩
    ·skip
     exact wpS_pure ⟨rfl,rfl,lr hu q (by omega)⟩
   case upost=>
    rintro c st' ⟨rfl,k,rfl,k1,k2,hu⟩
    exact wpS_pure (h k arr4 r4 k1 k2 hu)
theorem wA {n ok:Nat} {Q:Bool->SortSt->Prop} (hc:Cmp prog w A s κ rk a₀) (hin:∀ x∈arr.toList,x∈a₀) (hok:ok<=n) (hz:lo+n<=arr.size) (hu:upA rk arr lo ok)
  (h:∀ arr',Rl lo arr arr'->upA rk arr' lo n->Q true (sS κ arr' pd g)):wpS (model prog w) A E s (binarySort' lo n ok) Q (sS κ arr pd g):=by
 refine wpS_bind (wpS_mono (wpS_forRange (fun k c st'=>∃ arr1,st'=sS κ arr1 pd g/\c=(none,())/\Rl lo arr arr1/\upA rk arr1 lo (min k n))
  (Q:=fun c st'=>∃ arr1,st'=sS κ arr1 pd g/\c=(none,())/\Rl lo arr arr1/\upA rk arr1 lo n) ?step ?fin ⟨arr,rfl,rfl,.refl,?init⟩) ?post)
 case init=>
  intro i j hij hj
  by_cases h1:ok=0
  ·rw [show i=j by omega]; exact Int.le_refl _
  ·exact hu i j hij (by omega)
 case post=>
  rintro c st' ⟨arr1,rfl,rfl,r1,u1⟩
  exact wpS_pure (h arr1 r1 u1)
 case fin=>
  rintro c st' ⟨arr1,rfl,rfl,r1,u1⟩
  rw [show min (max (max ok 1) n) n=n by omega] at u1
  exact ⟨arr1,rfl,rfl,r1,u1⟩
 case step=>
  intro k c st' hk1 hk hI
  refine Cy (c:=c) (t:=st') hI fun arr1 jn=>?_
  have r1:=jn.1
  have u1:=jn.2
  clear hI jn c st'
  rw [show min k n=k by omega] at u1
  have z1:=r1.size
  have hin1:=r1.mem hin
  dsimp only
  refine wpS_bind (wpS_mono (wpS_forRange (fun x c st'=>st'=sS κ arr1 pd g/\∃ l r,c=(none,l,r)/\l<=r/\r<=k/\r-l<=k-x/\(∀ i,i<l->kk rk arr1 (lo+i)<=kk rk arr1 (lo+k))/\(∀ i,r<=i->i<k->kk rk arr1 (lo+k)<kk rk arr1 (lo+i)))
   (Q:=fun c st'=>st'=sS κ arr1 pd g/\∃ l r,c=(none,l,r)/\l<=k/\(∀ i,i<l->kk rk arr1 (lo+i)<=kk rk arr1 (lo+k))/\(∀ i,l<=i->i<k->kk rk arr1 (lo+k)<kk rk arr1 (lo+i))) ?istep ?ifin ⟨rfl,0,k,rfl,by omega,by omega,by omega,fun i hi=>by omega,fun i h1 h2=>by omega⟩) ?ipost)
  case ifin=>
   rintro c st' ⟨rfl,l,r,rfl,hlr,hrk,hm,hlo,hhi⟩
   have:l=r:=by omega
   subst this
   exact ⟨rfl,l,l,rfl,hrk,hlo,hhi⟩
  case istep=>
   intro x c st' _ hx hI
   refine Cz (c:=c) (t:=st') hI fun l r jn=>?_
   have hlr:=jn.1
   have hrk:=jn.2.1
   have hm:=jn.2.2.1
   have hlo:=jn.2.2.2.1
   have hhi:=jn.2.2.2.2
   clear hI jn c st'
   dsimp only
   by_cases hge:l≥r
   ·rw [if_pos hge]
    have:l=r:=by omega
    subst this
    exact wpS_pure ⟨rfl,l,l,rfl,hrk,hlo,hhi⟩
   ·rw [if_neg hge]
    refine wpS_bind (P3 hc hin1 (by omega) (by omega) ?_)
    refine M7 (fun hless=>?_) fun hless=>?_
    ·skip
     refine wpS_pure ⟨rfl,l,(l+r)/2,rfl,kw hlr,Nat.le_of_lt (Nat.lt_of_lt_of_le (eZ hge) hrk),xb (kw hlr) (eZ hge) hm,hlo,fun i h1 h2=>?_⟩
     exact Int.lt_of_lt_of_le hless (u1 _ _ h1 h2)
    ·skip
     refine wpS_pure ⟨rfl,(l+r)/2+1,r,rfl,eZ hge,hrk,xa (kw hlr) hm,fun i h1=>?_,hhi⟩
     exact Int.le_trans (u1 i ((l+r)/2) (Nat.le_of_lt_succ h1) (Nat.lt_of_lt_of_le (eZ hge) hrk)) (Int.not_lt.mp hless)
  case ipost=>
   rintro c st' ⟨rfl,l,r,rfl,hlk,hlo,hhi⟩
   refine wpS_bind (wpS_modify (wpS_pure ⟨bubble arr1 (lo+k) (lo+k-(lo+l)),rfl,rfl,r1.trans (Rl.bub (arr:=arr1) (by omega) (by omega)),?_⟩))
   rw [show min (k+1) n=k+1 by omega]
   have hlk':lo+l<=lo+k:=Nat.add_le_add_left hlk lo
   have hz1:lo+k<arr1.size:=by omega
   refine Bp (f:=fun i=>kk rk arr1 (lo+i)) hlk (fun i=>?_) u1 hlo hhi
   show kk rk _ (lo+i)=_
   rw [yV hz1 (Nat.sub_le _ _),Nat.sub_sub_self hlk']
   by_cases c1:i=l
   ·rw [if_pos (by rw [c1]),if_pos c1]
   ·rw [if_neg fun z=>c1 (Nat.add_left_cancel z),if_neg c1]
    by_cases c2:l<i/\i<=k
    ·rw [if_pos ⟨Nat.add_lt_add_left c2.1 lo,Nat.add_le_add_left c2.2 lo⟩,if_pos c2,Nat.add_sub_assoc (Nat.lt_of_le_of_lt (Nat.zero_le l) c2.1)]
    ·rw [if_neg fun z=>c2 ⟨Nat.lt_of_add_lt_add_left z.1,Nat.le_of_add_le_add_left z.2⟩,if_neg c2]
end
section
variable {prog:Program} {w:World} {A:Around} {E:Value->Shared->Prop} {s:Shared} {a₀:Array Keyed} {κ:SortKind} {rk:Keyed->Int} {arr:Array Keyed} {pd:Array (Nat×Nat×Nat)} {g lo:Nat}
def Chn (rk:Keyed->Int) (L:List Keyed):List (Nat×Nat×Nat)->Nat->Nat->Prop
 | [],a,b=>a=b
 | r::rs,a,b=>r.1=a/\0<r.2.1/\upL rk (rn_ L a r.2.1)/\Chn rk L rs (a+r.2.1) b
theorem av {L:List Keyed}:∀ {rs:List (Nat×Nat×Nat)} {a b:Nat},Chn rk L rs a b->a+rs.length<=b
 | [],a,b,h=>by have h:a=b:=h; simp [h]
 | r::rs,a,b,h=>by
  have:=av h.2.2.2
  have:=h.2.1
  rw [List.length_cons]; omega
theorem chn_app {L:List Keyed}:∀ {r1 r2:List (Nat×Nat×Nat)} {a c:Nat},Chn rk L (r1++r2) a c↔∃ b,Chn rk L r1 a b/\Chn rk L r2 b c
 | [],r2,a,c=>⟨fun h=>⟨a,rfl,h⟩,fun zz82=>by obtain ⟨b,h1,h2⟩:=zz82; have h1:a=b:=h1; subst h1; exact h2⟩
 | r::r1,r2,a,c=>by
  constructor
  ·rintro ⟨h1,h2,h3,h4⟩
   obtain ⟨b,q1,q2⟩:=chn_app.mp h4
   exact ⟨b,⟨h1,h2,h3,q1⟩,q2⟩
  ·rintro ⟨b,⟨h1,h2,h3,h4⟩,q2⟩
   exact ⟨h1,h2,h3,chn_app.mpr ⟨b,h4,q2⟩⟩
theorem cJ {L L':List Keyed}:∀ {rs:List (Nat×Nat×Nat)} {a b:Nat},(∀ i n,a<=i->i+n<=b->rn_ L' i n=rn_ L i n)->Chn rk L rs a b->Chn rk L' rs a b
 | [],a,b,_,h=>h
 | r::rs,a,b,he,h=>by
  have:=av h.2.2.2
  refine ⟨h.1,h.2.1,?_,cJ (fun i n h1 h2=>he i n (by omega) h2) h.2.2.2⟩
  rw [he a r.2.1 (Nat.le_refl _) (by omega)]; exact h.2.2.1
theorem jD {L:List Keyed} {pw:Nat}:∀ {rs:List (Nat×Nat×Nat)} {k a b:Nat},Chn rk L rs a b->Chn rk L (rs.modify k fun r=>(r.1,r.2.1,pw)) a b
 | [],k,a,b,h=>by rw [List.modify_nil]; exact h
 | r::rs,0,a,b,h=>h
 | r::rs,k+1,a,b,h=>by rw [List.modify_succ_cons]; exact ⟨h.1,h.2.1,h.2.2.1,jD h.2.2.2⟩
theorem yC {i:Nat} {x y z:Nat×Nat×Nat} (e1:pd[i]?=some x) (e2:pd[i+1]?=some y):∃ r1 r2,pd.toList=r1++x::y::r2/\((pd.setIfInBounds i z).eraseIdxIfInBounds (i+1)).toList=r1++z::r2:=by
 rw [<- Array.getElem?_toList] at e1 e2
 have hi:=(List.getElem?_eq_some_iff.mp e2).1
 have hsz:i+1<pd.size:=by simpa using hi
 refine ⟨pd.toList.take i,pd.toList.drop (i+2),?_,?_⟩
 ·have t1:pd.toList.drop i=x::pd.toList.drop (i+1):=by
   obtain ⟨h1,h2⟩:=List.getElem?_eq_some_iff.mp e1
   rw [List.drop_eq_getElem_cons h1,h2]
  have t2:pd.toList.drop (i+1)=y::pd.toList.drop (i+2):=by
   obtain ⟨h1,h2⟩:=List.getElem?_eq_some_iff.mp e2
   rw [List.drop_eq_getElem_cons h1,h2]
  rw [<- t2,<- t1,List.take_append_drop]
 ·rw [Array.eraseIdxIfInBounds,dif_pos (by simpa using hsz),Array.toList_eraseIdx,Array.toList_setIfInBounds,List.eraseIdx_eq_take_drop_succ,List.drop_set_of_lt (by omega)]
  have:(pd.toList.set i z).take (i+1)=pd.toList.take i ++ [z]:=by
   rw [List.take_succ,List.take_set_of_le (Nat.le_refl _),List.getElem?_set_self (by omega)]; rfl
  rw [this]; simp
theorem xw {P M S:List Keyed} {n:Nat} (h:M.length=n):rn_ (P++M++S) P.length n=M:=by
 unfold rn_
 rw [List.append_assoc,List.drop_left,<- h,List.take_left]
theorem rC {i:Nat} {Q:Bool->SortSt->Prop} (hc:Cmp prog w A s κ rk a₀) (hin:∀ x∈arr.toList,x∈a₀) (C:Chn rk arr.toList pd.toList 0 lo) (hlo:lo<=arr.size) (hi:i+1<pd.size)
  (h:∀ arr' pd' g',arr'.toList.Perm arr.toList->arr'.toList.drop lo=arr.toList.drop lo->pd'.size+1=pd.size->Chn rk arr'.toList pd'.toList 0 lo->Q true (sS κ arr' pd' g')):wpS (model prog w) A E s (mergeAt' i) Q (sS κ arr pd g):=by
 obtain ⟨⟨sa,na,pw⟩,ex⟩:∃ x,pd[i]?=some x:=⟨pd[i],by simp⟩
 obtain ⟨⟨sb,nb,pw2⟩,ey⟩:∃ y,pd[i+1]?=some y:=⟨pd[i+1],by simp⟩
 obtain ⟨r1,r2,el,em⟩:=yC (z:=(sa,na+nb,pw)) ex ey
 rw [el] at C
 obtain ⟨b1,C1,hs1,hn1,u1,hs2,hn2,u2,C2⟩:=chn_app.mp C
 have hs1:sa=b1:=hs1
 have hs2:sb=b1+na:=hs2
 have hn1:0<na:=hn1
 have hn2:0<nb:=hn2
 subst hs1
 have hle:=av C2
 have hle1:=av C1
 refine jK hc hin ex ey hs2 (by show _<=arr.size; simp at hle; omega) hn1 hn2 u1 (by rw [hs2]; exact u2) fun M g' hg=>?_
 have hM:M.length=na+nb:=by
  rw [hg.1.length_eq,List.length_append,List.length_take,List.length_take,List.length_drop,List.length_drop,Array.length_toList]
  simp at hle; omega
 have ct:=AE (L:=arr.toList) (i:=sa) (n:=na) (m:=nb)
 rw [<- hs2] at ct
 have zt:(arr.toList.take sa).length=sa:=by rw [List.length_take,Array.length_toList]; simp at hle; omega
 have dr:∀ k,sb+nb<=k->(arr.toList.take sa++M++arr.toList.drop (sb+nb)).drop k=arr.toList.drop k:=fun k hk=>by
  rw [List.drop_append,List.drop_eq_nil_of_le (by rw [List.length_append,zt,hM]; omega),List.nil_append,List.length_append,zt,hM,List.drop_drop]
  congr 1; omega
 have tk:∀ i n,i+n<=sa->rn_ (arr.toList.take sa++M++arr.toList.drop (sb+nb)) i n=rn_ arr.toList i n:=fun i n hk=>by
  unfold rn_
  rw [List.append_assoc,List.take_drop,List.take_drop,List.take_append_of_le_length (by omega),List.take_take,Nat.min_eq_left (by omega)]
 refine h _ _ g' ?_ ?_ ?_ ?_
 ·show (arr.toList.take sa++M++arr.toList.drop (sb+nb)).Perm arr.toList
  refine List.Perm.trans (List.Perm.append_right _ (List.Perm.append_left _ hg.1)) ?_
  rw [<- ct]
 ·exact dr lo (by simp at hle; omega)
 ·have:=congrArg List.length em
  have q:=congrArg List.length el
  rw [Array.length_toList] at this q
  rw [this,q]; simp; omega
 ·rw [em]
  refine chn_app.mpr ⟨sa,cJ (fun i n h1 h2=>tk i n h2) C1,rfl,by show 0<na+nb; omega,?_,?_⟩
  ·show upL rk (rn_ (arr.toList.take sa++M++arr.toList.drop (sb+nb)) sa (na+nb))
   have:=xw (P:=arr.toList.take sa) (S:=arr.toList.drop (sb+nb)) hM
   rw [zt] at this
   rw [this]; exact hg.2
  ·show Chn rk _ r2 (sa+(na+nb)) lo
   rw [<- Nat.add_assoc]
   refine cJ (fun i n h1 h2=>?_) C2
   show rn_ (arr.toList.take sa++M++arr.toList.drop (sb+nb)) i n=_
   unfold rn_
   rw [dr i (by omega)]
theorem iw {Q:Unit->SortSt->Prop} (hc:Cmp prog w A s κ rk a₀) (h2:2<=a₀.size)
  (h:∀ st',(arrOf st').toList.Perm a₀.toList->failedOf st'=none->upL rk (arrOf st').toList->Q () st'):wpS (model prog w) A E s sortRuns' Q (sS κ a₀ #[] 7):=by
 refine wpS_bind (wpS_get ?_)
 dsimp only
 generalize (sortPriv% PySem.Builtin.minRun) a₀.size a₀.size 0=mr
 have same:∀ {L L':List Keyed} {i n:Nat},L'.drop i=L.drop i->rn_ L' i n=rn_ L i n:=fun e=>by unfold rn_; rw [e]
 refine wpS_bind (wpS_mono (wpS_forRange (fun x c st'=>∃ arr pd g lo,st'=sS κ arr pd g/\c=(none,lo)/\arr.toList.Perm a₀.toList/\Chn rk arr.toList pd.toList 0 lo/\lo<=a₀.size/\x<=lo)
  (Q:=fun c st'=>∃ arr pd g lo,st'=sS κ arr pd g/\c=(none,lo)/\arr.toList.Perm a₀.toList/\Chn rk arr.toList pd.toList 0 a₀.size) ?step ?fin ⟨a₀,#[],7,0,rfl,rfl,.refl _,rfl,by omega,by omega⟩) ?post)
 case fin=>
  rintro c st' ⟨arr,pd,g,lo,rfl,rfl,hp,C,h1,h2⟩
  have:lo=a₀.size:=by omega
  subst this
  exact ⟨arr,pd,g,_,rfl,rfl,hp,C⟩
 case step=>
  rintro x c st' _ hx ⟨arr,pd,g,lo,rfl,rfl,hp,C,h1,h2⟩
  dsimp only
  by_cases cl:lo≥a₀.size
  ·rw [if_pos cl]
   have:lo=a₀.size:=by omega
   subst this
   exact wpS_pure ⟨arr,pd,g,_,rfl,rfl,hp,C⟩
  rw [if_neg cl]
  have zz:arr.size=a₀.size:=by have:=hp.length_eq; simpa using this
  have hin:∀ x∈arr.toList,x∈a₀:=fun x hx=>by have:=hp.mem_iff.mp hx; simpa using this
  refine wpS_bind (oD hc hin (by omega) (by omega) fun n arr1 r1 n1 n2 u1=>?_)
  dsimp only
  have key:∀ (n:Nat) (arr2:Array Keyed),Rl lo arr arr2->0<n->lo+n<=a₀.size->upA rk arr2 lo n->arr2.toList.Perm a₀.toList/\Chn rk arr2.toList pd.toList 0 lo/\upL rk (rn_ arr2.toList lo n):=fun n arr2 r2 hn hz u=>by
   refine ⟨r2.perm.trans hp,cJ (fun i m _ hm=>?_) C,?_⟩
   ·unfold rn_
    apply List.ext_getElem?
    intro k
    by_cases ck:k<m
    ·rw [List.getElem?_take_of_lt ck,List.getElem?_take_of_lt ck,List.getElem?_drop,List.getElem?_drop,Array.getElem?_toList,Array.getElem?_toList,r2.same _ (by omega)]
    ·rw [List.getElem?_take_eq_none (by omega),List.getElem?_take_eq_none (by omega)]
   ·unfold upL
    rw [List.pairwise_iff_getElem]
    intro i j hi hj hij
    have z2:=r2.size
    simp at hi hj
    have:=u i j (by omega) (by omega)
    rw [n9 (rk:=rk) (x:=(rn_ arr2.toList lo n)[i]) (by rw [<- aD (n:=n) (by omega)]; exact List.getElem?_eq_getElem _),n9 (rk:=rk) (x:=(rn_ arr2.toList lo n)[j]) (by rw [<- aD (n:=n) (by omega)]; exact List.getElem?_eq_getElem _)] at this
    exact this
  by_cases cm:n<mr
  case' pos=>
   rw [if_pos cm]
   refine wpS_bind (wpS_lift (wpAny_rule ⟨rfl,?_⟩))
   have z1:=r1.size
   have fz:lo+min (a₀.size-lo) mr<=a₀.size:=Nat.le_trans (Nat.add_le_add_left (Nat.min_le_left _ _) lo) (Nat.le_of_eq (Nat.add_sub_cancel' h1))
   have fp:0<min (a₀.size-lo) mr:=Nat.lt_min.mpr ⟨Nat.sub_pos_of_lt (Nat.lt_of_not_le cl),Nat.lt_of_le_of_lt (Nat.zero_le n) cm⟩
   refine wpS_bind (wA hc (r1.mem hin) (n:=min (a₀.size-lo) mr) (Nat.le_min.mpr ⟨n2,Nat.le_of_lt cm⟩) (by rw [z1,zz]; exact fz) u1 fun arr2 r2 u2=>?_)
   have K:=key _ arr2 (r1.trans r2) fp fz u2
   have f0:0<min (a₀.size-lo) mr/\lo+min (a₀.size-lo) mr<=a₀.size:=⟨fp,fz⟩
   clear fp fz
   rw [if_neg (by simp)]
   generalize min (a₀.size-lo) mr=m at K f0 ⊢
  case' neg=>
   rw [if_neg cm]
   have f0:0<n/\lo+n<=a₀.size:=⟨n1,Nat.le_trans (Nat.add_le_add_left n2 lo) (Nat.le_of_eq (Nat.add_sub_cancel' h1))⟩
   have K:=key n arr1 r1 f0.1 f0.2 u1
   obtain ⟨arr2,ea⟩:∃ o,o=arr1:=⟨_,rfl⟩
   obtain ⟨m,em⟩:∃ o,o=n:=⟨_,rfl⟩
   rw [<- ea,<- em] at K
   rw [<- ea,<- em]
   rw [<- em] at f0
  all_goals
   obtain ⟨hp2,C2,v2⟩:=K
   refine wpS_bind (wpS_get ?_)
   dsimp only
   cases hb:pd.back? with
   | none=>
    have pe:pd=#[]:=Array.back?_eq_none_iff.mp hb
    subst pe
    refine wpS_bind (wpS_modify (wpS_pure ⟨arr2,#[].push (lo,m,0),g,lo+m,rfl,rfl,hp2,?_,f0.2,by omega⟩))
    have C2:0=lo:=C2
    subst C2
    exact ⟨rfl,f0.1,v2,rfl⟩
   | some r=>
    obtain ⟨s1,n1,p0⟩:=r
    dsimp only
    have zz2:∀ {a:Array Keyed},a.toList.Perm a₀.toList->a.size=a₀.size:=fun q=>by have:=q.length_eq; simpa using this
    have hin2:∀ {a:Array Keyed},a.toList.Perm a₀.toList->∀ x∈a.toList,x∈a₀:=fun q x hx=>by have:=q.mem_iff.mp hx; simpa using this
    refine wpS_bind (wpS_mono (wpS_forRange (fun x c st'=>∃ arr pd g,st'=sS κ arr pd g/\c=(none,())/\arr.toList.Perm a₀.toList/\Chn rk arr.toList pd.toList 0 lo/\upL rk (rn_ arr.toList lo m))
     (Q:=fun c st'=>∃ arr pd g,st'=sS κ arr pd g/\c=(none,())/\arr.toList.Perm a₀.toList/\Chn rk arr.toList pd.toList 0 lo/\upL rk (rn_ arr.toList lo m)) ?mstep ?mfin ⟨arr2,pd,g,rfl,rfl,hp2,C2,v2⟩) ?mpost)
    case mfin=>
     rintro c st' q
     exact q
    case mstep=>
     rintro y c st' _ hy ⟨arr3,pd3,g3,rfl,rfl,hp3,C3,v3⟩
     refine wpS_bind (wpS_get ?_)
     dsimp only
     by_cases cs:pd3.size>1
     ·rw [if_pos cs]
      obtain ⟨⟨q1,q2,older⟩,eo⟩:∃ r,pd3[pd3.size-2]?=some r:=⟨pd3[pd3.size-2],by simp⟩
      rw [eo]
      dsimp only
      split
      ·exact wpS_pure ⟨arr3,pd3,g3,rfl,rfl,hp3,C3,v3⟩
      ·refine wpS_bind (rC hc (hin2 hp3) C3 (by rw [zz2 hp3]; omega) (by omega) fun arr4 pd4 g4 h41 h42 h43 h44=>?_)
       rw [if_neg (by simp)]
       exact wpS_pure ⟨arr4,pd4,g4,rfl,rfl,h41.trans hp3,h44,by rw [same h42]; exact v3⟩
     ·rw [if_neg cs]
      exact wpS_pure ⟨arr3,pd3,g3,rfl,rfl,hp3,C3,v3⟩
    case mpost=>
     rintro c st' ⟨arr3,pd3,g3,rfl,rfl,hp3,C3,v3⟩
     dsimp only
     refine wpS_bind (wpS_modify (wpS_bind (wpS_modify (wpS_pure ⟨arr3,_,g3,lo+m,rfl,rfl,hp3,?_,f0.2,by omega⟩))))
     rw [Array.toList_push,Array.toList_modify]
     exact chn_app.mpr ⟨lo,jD C3,rfl,f0.1,v3,rfl⟩
 case post=>
  rintro c st' ⟨arr,pd,g,lo,rfl,rfl,hp,C⟩
  dsimp only
  have zz2:∀ {a:Array Keyed},a.toList.Perm a₀.toList->a.size=a₀.size:=fun q=>by have:=q.length_eq; simpa using this
  have hin2:∀ {a:Array Keyed},a.toList.Perm a₀.toList->∀ x∈a.toList,x∈a₀:=fun q x hx=>by have:=q.mem_iff.mp hx; simpa using this
  have ple:=av C
  rw [Array.length_toList] at ple
  refine wpS_bind (wpS_mono (wpS_forRange (fun x c st'=>∃ arr pd g,st'=sS κ arr pd g/\c=(none,())/\arr.toList.Perm a₀.toList/\Chn rk arr.toList pd.toList 0 a₀.size/\(pd.size<=1\/pd.size+x<=a₀.size))
   (Q:=fun c st'=>∃ arr pd g,st'=sS κ arr pd g/\c=(none,())/\arr.toList.Perm a₀.toList/\Chn rk arr.toList pd.toList 0 a₀.size/\pd.size<=1) ?lstep ?lfin ⟨arr,pd,g,rfl,rfl,hp,C,.inr (by omega)⟩) ?lpost)
  case lfin=>
   rintro c st' ⟨arr,pd,g,rfl,rfl,hp,C,hs⟩
   exact ⟨arr,pd,g,rfl,rfl,hp,C,by omega⟩
  case lstep=>
   rintro x c st' _ hx ⟨arr,pd,g,rfl,rfl,hp,C,hs⟩
   refine wpS_bind (wpS_get ?_)
   dsimp only
   by_cases cs:pd.size<=1
   ·rw [if_pos cs]
    exact wpS_pure ⟨arr,pd,g,rfl,rfl,hp,C,cs⟩
   rw [if_neg cs]
   refine wpS_bind (rC hc (hin2 hp) C (by rw [zz2 hp]; omega) ?_ fun arr4 pd4 g4 h41 h42 h43 h44=>?_)
   ·repeat' split
    all_goals omega
   rw [if_neg (by simp)]
   exact wpS_pure ⟨arr4,pd4,g4,rfl,rfl,h41.trans hp,h44,.inr (by omega)⟩
  case lpost=>
   rintro c st' ⟨arr,pd,g,rfl,rfl,hp,C,hs⟩
   dsimp only
   have hl:pd.toList.length<=1:=by rw [Array.length_toList]; exact hs
   refine wpS_pure (h _ hp rfl ?_)
   show upL rk arr.toList
   match hpd:pd.toList,hl,C with
   | [],_,C => 
    have C:0=a₀.size:=C
    omega
   | [r],_,C=>
    obtain ⟨c1,c2,c3,c4⟩:=C
    have c4:0+r.2.1=a₀.size:=c4
    have e:rn_ arr.toList 0 r.2.1=arr.toList:=by
     unfold rn_
     rw [List.drop_zero,List.take_of_length_le (by rw [Array.length_toList,zz2 hp]; omega)]
    rw [e] at c3
    exact c3
   | _::_::_,hl,_=>simp at hl
end
end TP
namespace TP
open PySem L2
theorem pM {α β:Type} {f:α->β} {m l':List β} (h:m.Perm l'):∀ l:List α,l'=l.map f->∃ o:List α,o.Perm l/\m=o.map f:=by
 induction h with
 | nil=>intro l e; exact ⟨l,.refl _,e⟩
 | cons x _ ih=>
  intro l e
  cases l with
  | nil=>cases e
  | cons a l=>
   rw [List.map_cons] at e
   obtain ⟨e1,e2⟩:=List.cons.inj e
   obtain ⟨o,h1,h2⟩:=ih l e2
   exact ⟨a::o,h1.cons a,by rw [List.map_cons,e1,h2]⟩
 | swap x y l0=>
  intro l e
  cases l with
  | nil=>cases e
  | cons a l=>
   rw [List.map_cons] at e
   obtain ⟨e1,e2⟩:=List.cons.inj e
   cases l with
   | nil=>cases e2
   | cons b l=>
    rw [List.map_cons] at e2
    obtain ⟨e3,e4⟩:=List.cons.inj e2
    exact ⟨b::a::l,.swap ..,by rw [List.map_cons,List.map_cons,e1,e3,e4]⟩
 | trans _ _ ih1 ih2=>
  intro l e
  obtain ⟨o2,p2,e2⟩:=ih2 l e
  obtain ⟨o1,p1,e1⟩:=ih1 o2 e2
  exact ⟨o1,p1.trans p2,e1⟩
theorem fo:∀ {xs ys:List Int} {its:List Value},Vals (xs.map V.int) its->Vals (ys.map V.int) its->xs=ys
 | [],[],_,_,_=>rfl
 | [],y::ys,_,h,h'=>by cases h; cases h'
 | x::xs,[],_,h,h'=>by cases h'; cases h
 | x::xs,y::ys,_,h,h'=>by
  cases h with
  | cons r t=>
   cases h' with
   | cons r' t'=>
    obtain ⟨k,rfl⟩:=r
    obtain ⟨k',e⟩:=r'
    cases e
    rw [fo t t']
section
open PySem.W PyProof.Rows
variable {prog:Program} {w:World} {A:Around} {E:Value->Shared->Prop} {s:Shared}
theorem TupI.uniq {h:Heap} {v:Value} {xs ys:List Int} (p:TupI h v xs) (q:TupI h v ys):xs=ys:=by
 obtain ⟨a,o,its,m,e,ho,_,hd,rv⟩:=p
 obtain ⟨b,o2,its2,m2,e2,ho2,_,hd2,rv2⟩:=q
 rw [e] at e2; cases e2
 rw [ho] at ho2; cases ho2
 rw [hd] at hd2
 have:its=its2:=by injection hd2 with q1 _; simpa using q1
 subst this
 exact fo rv rv2
open Classical in
def rkV (vs:List Value) (ss:List (List Int)) (p:Keyed):Int:=if h:∃ i,i<vs.length/\vs.getD i Value.none=p.1 then O4 ss h.choose else 0
theorem bN {h:Heap} {vs:List Value} {ss:List (List Int)} (tt:Paired (fun v xs=>TupI h v xs/\xs ≠ []) vs ss) {i:Nat} (hi:i<vs.length) {u:Value}:rkV vs ss (vs.getD i Value.none,u)=O4 ss i:=by
 have hx:∃ j,j<vs.length/\vs.getD j Value.none=vs.getD i Value.none:=⟨i,hi,rfl⟩
 unfold rkV
 rw [dif_pos hx]
 obtain ⟨c1,c2⟩:=hx.choose_spec
 generalize hx.choose=j at c1 c2
 obtain ⟨x,ex,tx⟩:=F0 (d:=Value.none) tt hi
 obtain ⟨y,ey,ty⟩:=F0 (d:=Value.none) tt c1
 rw [c2] at ty
 have e:=TupI.uniq tx.1 ty.1
 unfold O4
 have e1:ss.getD i []=x:=by rw [List.getD_eq_getElem?_getD,ex]; rfl
 have e2:ss.getD j []=y:=by rw [List.getD_eq_getElem?_getD,ey]; rfl
 rw [e1,e2,e]
def K6 (ss:List (List Int)) (o:List Nat):Prop:=o.Perm (List.range ss.length)/\o.map (fun i=>ss.getD i [])=y9 ss
theorem mL {ss:List (List Int)} {o:List Nat} (hp:o.Perm (List.range ss.length)) (hu:o.Pairwise fun i j=>O4 ss i<=O4 ss j):K6 ss o:=by
 refine ⟨hp,?_⟩
 refine List.Perm.eq_of_pairwise (le:=fun a b=>lexLt b a=false) (fun a b _ _ x y=>L4 _ _ y x) ?_ (aB ss) ?_
 ·rw [List.pairwise_map]
  refine List.Pairwise.imp_of_mem (fun {i j} hi hj q=>?_) hu
  have hi:=List.mem_range.mp (hp.mem_iff.mp hi)
  have hj:=List.mem_range.mp (hp.mem_iff.mp hj)
  rw [<- iT hj hi]
  exact decide_eq_false (by omega)
 ·have:=hp.map fun i=>ss.getD i []
  rw [mq] at this
  exact this.trans (J1 ss).symm
abbrev D1 {α:Type} (o:List Nat) (d:α) (vs:List α):List α:=o.map fun i=>vs.getD i d
theorem fZ {α:Type} {ss:List (List Int)} {o:List Nat} (h:K6 ss o) (d:α) (vs:List α):(D1 o d vs).length=ss.length:=by
 rw [List.length_map,h.1.length_eq,List.length_range]
theorem jS {a:Addr} {vs:List Value} {ss:List (List Int)} {n:Nat} {P:PySem.Fin->Shared->Prop} (ho:s.heap.get? a=some (seqObj "list" vs.toArray n)) (hl:vs.length=ss.length) (h64:ss.length<=1000)
  (ht:∀ h':Heap,(∀ b o,b≠a->s.heap.get? b=some o->h'.get? b=some o)->Paired (fun v xs=>TupI h' v xs/\xs ≠ []) vs ss)
  (hyp:∀ o,K6 ss o->P (.done (.ret .none)) { s with heap:=sortedHeap s.heap a vs (D1 o Value.none vs).toArray }):wpAny (model prog w) A (Builtin.«list.sort» ⟨[.ref a],[]⟩) P E s:=by
 rw [list_sort_plain]; have ha:=Heap.lt_size ho
 refine wpAny_bind (listItems_at ho rfl (wpAny_bind (listUpdate_at ho rfl ?_ (by rw [List.size_toArray,sizeLine_eq]; omega) (Nat.zero_le _))))
 obtain ⟨ep,hp⟩:∃ ep,(s.heap.update a (Obj.mapSeq fun _=>(#[]:Array Value))).get? a=some (seqObj "list" #[] ep):=⟨_,get?_update_seq ho fun _=>#[]⟩
 refine wpAny_bind (seqEpoch_at hp rfl (wpAny_bind (wpAny_newTuple (wpAny_bind (wpAny_newList (wpAny_holding ?_) (Nat.zero_le _))) (by show vs.length<=_; rw [sizeLine_eq]; omega))))
 generalize hh:((s.heap.update a (Obj.mapSeq fun _=>(#[]:Array Value))).push (seqObj "tuple" vs.toArray 0)).push (seqObj "list" #[] 0)=h6
 have h6a:h6.get? a=some (seqObj "list" #[] ep):=by rw [<- hh]; exact Heap.get?_push_of_some _ (Heap.get?_push_of_some _ hp)
 have h6k:∀ b o,b≠a->s.heap.get? b=some o->h6.get? b=some o:=fun b o hb e=>by rw [<- hh]; exact Heap.get?_push_of_some _ (Heap.get?_push_of_some _ (by rw [Heap.get?_update_ne _ _ _ _ hb]; exact e))
 have gY:∀ o,sortedHeap s.heap a vs (D1 o Value.none vs).toArray=h6.update a (Obj.mapSeq fun _=>(D1 o Value.none vs).toArray):=fun o=>by rw [<- hh]; rfl
 show wpAny (model prog w) A _ P E { s with heap:=h6 }
 dsimp only
 have hs0:vs.toArray.size=vs.length:=by simp
 have hz2:∀ o,K6 ss o->(D1 o Value.none vs).toArray.size<=sizeLine+1:=fun o ok=>by rw [List.size_toArray,fZ ok,sizeLine_eq]; omega
 by_cases c2:vs.toArray.size<2
 ·rw [if_pos c2,if_pos c2]
  refine wpAny_bind (wpAny_pure ?_)
  rw [StateT.run_pure]
  refine wpAny_bind (wpAny_pure ?_)
  dsimp only
  have ok:K6 ss (List.range ss.length):=mL (.refl _) (by have e:ss.length=0\/ss.length=1:=(by omega); rcases e with e | e <;> rw [e] <;> simp)
  have eo:Array.map (fun x=>x.snd) (arrOf (SortSt.mk' general' (vs.toArray.zip vs.toArray) #[] 7 none))=(D1 (List.range ss.length) Value.none vs).toArray:=by
   show Array.map (fun x=>x.snd) (vs.toArray.zip vs.toArray)=_
   apply Array.toList_inj.mp
   rw [Array.toList_map,Array.toList_zip,<- hl]
   apply List.ext_getElem
   ·simp
   ·intro i h1 h2; simp at h1 h2; simp [h1]
  rw [eo]
  refine wpAny_bind (seqEpoch_at h6a rfl (wpAny_bind (listUpdate_at h6a rfl ?_ (Nat.zero_le _) (hz2 _ ok))))
  simp only [bne_self_eq_false,Bool.false_eq_true,if_false]
  have q:=hyp _ ok
  rw [gY] at q
  exact wpAny_pure q
 ·rw [if_neg c2,if_neg c2]
  have tt:=ht h6 h6k
  obtain ⟨fs,kt,fl,fi⟩:=fv tt
  refine wpAny_bind (kat_kind (s:={ s with heap:=h6 }) (T:=.type "int") kt (by omega) (fun v hv=>?_) (by decide) ?_)
  ·obtain ⟨i,t,rfl⟩:=fi v hv
   exact Looks.of_pure rfl
  have hz:(vs.toArray.zip vs.toArray).toList=(List.range vs.length).map fun i=>(vs.getD i Value.none,vs.getD i Value.none):=by
   rw [Array.toList_zip]
   apply List.ext_getElem
   ·simp
   ·intro i h1 h2; simp at h1 h2; simp [h1]
  have hmem:∀ x∈vs.toArray.zip vs.toArray,∃ i,i<vs.length/\x=(vs.getD i Value.none,vs.getD i Value.none):=fun x hx=>by
   have:x∈(vs.toArray.zip vs.toArray).toList:=by simpa using hx
   rw [hz] at this
   obtain ⟨i,hi,e⟩:=List.mem_map.mp this
   exact ⟨i,List.mem_range.mp hi,e.symm⟩
  have cm:Cmp prog w A { s with heap:=h6 } (tuples' (Value.type "int" != Value.type "tuple")) (rkV vs ss) (vs.toArray.zip vs.toArray):=fun x hx y hy Q hQ=>by
   obtain ⟨i,hi,rfl⟩:=hmem x hx
   obtain ⟨j,hj,rfl⟩:=hmem y hy
   rw [bN tt hi,bN tt hj,iT (by omega) (by omega)] at hQ
   obtain ⟨x,hx,tx⟩:=F0 (d:=Value.none) tt hi
   obtain ⟨y,hy,ty⟩:=F0 (d:=Value.none) tt hj
   have ex:ss.getD i []=x:=by rw [List.getD_eq_getElem?_getD,hx]; rfl
   have ey:ss.getD j []=y:=by rw [List.getD_eq_getElem?_getD,hy]; rfl
   rw [ex,ey] at hQ
   exact vf (s:={ s with heap:=h6 }) tx.1 ty.1 hQ
  refine wpAny_bind (wpAny_mono (iw (E:=E) (Q:=fun _ st'=>failedOf st'=none/\∃ o,K6 ss o/\(arrOf st').map (·.2)=(D1 o Value.none vs).toArray) cm (by simp at c2 ⊢; omega) fun st' p1 p2 p3=>⟨p2,?_⟩) ?_ fun _ _ e=>e)
  ·rw [hz] at p1
   obtain ⟨o,o1,o2⟩:=pM p1 _ rfl
   refine ⟨o,mL (by rw [<- hl]; exact o1) ?_,?_⟩
   ·unfold upL at p3
    rw [o2,List.pairwise_map] at p3
    refine List.Pairwise.imp_of_mem (fun {i j} hi hj q=>?_) p3
    have hi:=List.mem_range.mp (o1.mem_iff.mp hi)
    have hj:=List.mem_range.mp (o1.mem_iff.mp hj)
    rw [bN tt hi,bN tt hj] at q
    exact q
   ·apply Array.toList_inj.mp
    rw [Array.toList_map,o2,List.map_map]
    rfl
  rintro ⟨⟨⟩,st'⟩ s' ⟨rfl,hf',o,ok,ho'⟩
  dsimp only
  rw [ho']
  refine wpAny_bind (seqEpoch_at h6a rfl (wpAny_bind (listUpdate_at h6a rfl ?_ (Nat.zero_le _) (hz2 o ok))))
  rw [hf']
  simp only [bne_self_eq_false,Bool.false_eq_true,if_false]
  have q:=hyp o ok
  rw [gY] at q
  exact wpAny_pure q
theorem fy {l:Addr} {vs:List Value} {ss:List (List Int)} {Q:Value->Shared->Prop} (hL:s.heap.IsList l vs.toArray) (hl:vs.length=ss.length) (h64:ss.length<=1000)
  (ht:Paired (fun v xs=>TupI s.heap v xs/\xs ≠ []) vs ss) (hyp:∀ o,K6 ss o->Q (.ref (s.heap.objs.size+1)) { s with heap:=sortedAll s.heap vs (D1 o Value.none vs).toArray }):wpAny (model prog w) A (call (.builtin "sorted") [.ref l]) Q E s:=by
 refine Calls.call_function_entry kind_sorted plain_sorted entry_sorted (args_sorted1 _) ?_
 unfold Builtin.«sorted»; refine wpAny_bind (m:=checkCount "sorted" 1 1 _) (wpAny_pure (wpAny_bind (collect_list hL (wpAny_bind (wpAny_newList ?_ (by rw [sizeLine_eq]; omega))) (by rw [sizeLine_eq]; omega))))
 generalize hg:(s.heap.push (seqObj "list" #[] 0)).update s.heap.objs.size (Obj.mapSeq (·++vs.toArray))=g
 have gz:g.objs.size=s.heap.objs.size+1:=by rw [<- hg,Heap.size_update,size_push']
 have gk:∀ b o,s.heap.get? b=some o->g.get? b=some o:=fun b o e=>by
  have hlt:=Heap.lt_size e
  rw [<- hg,Heap.get?_update_ne _ _ _ _ (Nat.ne_of_lt hlt)]; exact Heap.get?_push_of_some _ e
 have go:(g.push (seqObj "list" vs.toArray 0)).get? (s.heap.objs.size+1)=some (seqObj "list" vs.toArray 0):=by rw [<- gz]; exact Heap.get?_push_size _ rfl
 have ea:∀ o,sortedAll s.heap vs (D1 o Value.none vs).toArray=sortedHeap (g.push (seqObj "list" vs.toArray 0)) (s.heap.objs.size+1) vs (D1 o Value.none vs).toArray:=fun o=>by rw [<- hg]; rfl
 show wpAny _ _ _ _ _ { s with heap:=g.push (seqObj "list" vs.toArray 0) }
 rw [gz]
 refine wpAny_bind (wpAny_holding (wpAny_call_entry slot_list_sort ⟨_,go,rfl⟩ entry_list_sort (jS go hl h64 (fun h' hk=>?_) fun o ok=>⟨_,rfl,wpAny_pure ⟨_,rfl,by have q:=hyp o ok; rw [ea] at q; exact q⟩⟩) (args_list_sort _)))
 refine Paired.mapP ht fun v xs hv=>⟨?_,hv.2⟩
 obtain ⟨a,o,its,m,rfl,h1,h2,h3,h4⟩:=hv.1
 exact ⟨a,o,its,m,rfl,hk a o (Nat.ne_of_lt (Nat.lt_succ_of_lt (Heap.lt_size h1))) (Heap.get?_push_of_some _ (gk a o h1)),h2,h3,h4⟩
end
theorem lm {ss:List (List Int)} {o:List Nat} {ys:List V} {its:List Value} (ok:K6 ss o) (r:Vals ys its) (hl:ys.length=ss.length):Vals (D1 o V.non ys) (D1 o Value.none its):=O7 fun i hi=>by
 have hi':i<ys.length:=by have:=ok.1.mem_iff.mp hi; rw [List.mem_range] at this; omega
 obtain ⟨u,e,q⟩:=F0 (d:=V.non) r hi'
 rw [show its.getD i Value.none=u by rw [List.getD_eq_getElem?_getD,e]; rfl]
 exact q
section
variable {X:Cx} {K:Frag}
theorem cK (hK:X.K=K:=by rfl):D7 X (.builtin "sorted") (fun xs H Q=>∃ p ys ss,xs = [.ref p]/\SqL K H p ys/\Paired (fun v zs=>(∃ a,v=.ref a/\SqT K H a (zs.map V.int))/\zs ≠ []) ys ss/\ss.length<=1000/\∀ l o,K6 ss o->H l=none->Q (.ref l) (upd H l (.lst (D1 o V.non ys)))):=by
 subst hK
 intro pins s σ H xs us Q I r h
 obtain ⟨p,ys,ss,rfl,hq,ht,h64,q⟩:=h
 obtain ⟨u,rfl,ru⟩:=V8 r
 cases ru
 obtain ⟨its,rv,pl,hz⟩:=I.list hq
 have hlen:=rv.length
 have hys:ys.length=ss.length:=Paired.length ht
 have tt:Paired (fun v xs=>TupI s.heap v xs/\xs ≠ []) its ss:=aM rv ht fun v u zs r1 r2=>by
  obtain ⟨⟨a,rfl,hs⟩,hne⟩:=r2
  cases r1
  obtain ⟨its2,rv2,⟨o,e,c,k,dd⟩,_⟩:=I.tuple hs
  exact ⟨⟨a,o,its2,k,rfl,e,c,dd,rv2⟩,hne⟩
 refine fy pl.isList (by omega) h64 tt fun o ok=>?_
 obtain ⟨e,he⟩:=PyProof.Rows.sortedAll_at s.heap its (D1 o Value.none its).toArray
 have hle:s.heap.objs.size<=s.heap.objs.size+1:=Nat.le_succ _
 refine ⟨.ref (s.heap.objs.size+1),_,I.laid (t':=s.toks) (fun b o q=>PyProof.Rows.sortedAll_old q) hle (show ObjOk X.prog X.w _ _ _ (.lst (D1 o V.non ys)) from ⟨by rw [fZ ok]; exact Nat.le_trans h64 (by decide),D1 o Value.none its,e,lm ok rv (by omega),he⟩),rfl,q _ o ok (I.hok.fresh hle)⟩
end
def fSortA:List W->R W
 | [w]=>match lstOf w with
  | some ws=>match O0 ws with
   | some ss=>if ss.length<=1000/\ss.all (fun x=>!x.isEmpty)=true then .ok (.lst ((y9 ss).map fun x=>W.tup (x.map W.int))) else .stuck
   | none=>.stuck
  | none=>.stuck
 | _=>.stuck
section
variable {K:Frag}
theorem mn {F:Hp} {ys:List V} {ss:List (List Int)} {o:List Nat} (ok:K6 ss o) (r:Reps K F ys (ss.map fun x=>W.tup (x.map W.int))):Reps K F (D1 o V.non ys) ((y9 ss).map fun x=>W.tup (x.map W.int)):=by
 have hl:=r.length
 rw [List.length_map] at hl
 rw [<- ok.2,List.map_map]
 refine fM fun i hi=>?_
 have hi':i<ss.length:=by have:=ok.1.mem_iff.mp hi; rwa [List.mem_range] at this
 obtain ⟨w,e,q⟩:=iS (i:=i) r (by omega)
 rw [List.getElem?_map] at e
 have:ss[i]?=some (ss.getD i []):=by rw [List.getD_eq_getElem?_getD]; simp [hi']
 rw [this] at e
 cases e
 exact q
theorem jF {c:Bool}:Cal K (cb c) .F (fun xs H Q=>∃ p ys ss,xs = [.ref p]/\SqL K H p ys/\Paired (fun v zs=>(∃ a,v=.ref a/\SqT K H a (zs.map V.int))/\zs ≠ []) ys ss/\ss.length<=1000/\∀ l o,K6 ss o->H l=none->Q (.ref l) (upd H l (.lst (D1 o V.non ys)))) fSortA:=by
 intro EX H0 Hs G H ρ σ Ha vs ws Q I s m o
 cases m with
 | nil=>exact o.elim
 | cons a t=>
  cases t with
  | cons _ _=>exact o.elim
  | nil=>
   rename_i w v
   unfold fSortA at o
   cases hl:lstOf w with
   | none=>simp only [hl] at o; exact o.elim
   | some us=>
    simp only [hl] at o
    cases ht:O0 us with
    | none=>simp only [ht] at o; exact o.elim
    | some ss=>
     simp only [ht] at o
     by_cases hc:ss.length<=1000/\ss.all (fun x=>!x.isEmpty)=true
     ·rw [if_pos hc] at o
      obtain ⟨p,ys,rfl,hs,r⟩:=Md.lstOf I a hl
      rw [oI ht] at r
      have hne:∀ x∈ss,x ≠ []:=fun x hx=>by
       have:=List.all_eq_true.mp hc.2 x hx
       intro e; subst e; simp at this
      have sm:Same (if c then G else join H0 G) H:=by
       cases c with
       | true=>rw [if_pos rfl]; exact I.gh
       | false=>rw [if_neg Bool.false_ne_true]; exact I.join_H
      refine ⟨p,ys,ss,rfl,hs,Paired.mapP (dJ r hne) fun v zs h=>⟨?_,h.2⟩,hc.1,fun l od ok=>Out.chks (EX:=EX) (c:=c) I s (mn ok r) ?_ l⟩
      ·obtain ⟨b,e,q⟩:=h.1
       exact ⟨b,e,SqT.of (sm _ _ q)⟩
      ·have e:TP.chks c ((y9 ss).map fun x=>W.tup (x.map W.int))=.ok (.lst ((y9 ss).map fun x=>W.tup (x.map W.int))):=by
        unfold TP.chks
        rw [gr,Bool.or_true,if_pos rfl]
       rw [e]; exact o
     ·rw [if_neg hc] at o; exact o.elim
end
end TP
namespace TP
open PySem L2
def spX (K:Frag) (n:Nat) (f:List W->R W):Sp:=fun vs H Q E=>vs.length=n/\∃ F ws,Same F H/\Reps K F vs ws/\match f ws with
 | .ok w=>∀ v G' H',Same F G'->Same H H'->Same G' H'->(∀ a o,H a=some o->isL o=true->F a=none->G' a=none)->Rep K G' v w->Q v H'
 | .ex e=>∀ H',Same H H'->XE E e H'
 | .stuck=>False
def Q2 (n N:Nat) (m:Rho->R Fl) (ws:List W):R W:=if ws.length=n then (m (ws.map Sl.val++List.replicate (N-n) Sl.un)>>=fun f=>match f with
 | .rt w=>.ok w
 | .nx _=>.ok .non
 | _=>.stuck) else .stuck
theorem pf {n N:Nat} {m:Rho->R Fl} (ws:List W) (h:Q2 n N m ws≠.stuck):ws.length=n:=by
 unfold Q2 at h
 by_cases e:ws.length=n
 ·exact e
 ·rw [if_neg e] at h; exact absurd rfl h
def less (H F:Hp):Hp:=fun a=>match F a with
 | some _=>none
 | none=>H a
section
variable {K:Frag} {EX:EXT} {H0 G H G1 H1 F:Hp} {ρ:Rho} {σ:St} {d:Mode} {D:Ends}
theorem gP {a:Addr} (h:F a=none):less H F a=H a:=by unfold less; rw [h]
theorem gO {a:Addr} {o:HO} (h:less H F a=some o):F a=none/\H a=some o:=by
 unfold less at h
 cases q:F a with
 | none=>rw [q] at h; exact ⟨rfl,h⟩
 | some u=>rw [q] at h; cases h
theorem dI {H':Hp} (sF:Same F H) (h1:Same (less H F) H') (h2:Same F H'):Same H H':=fun a o e=>by
 cases q:F a with
 | none=>exact h1 a o (by rw [gP q]; exact e)
 | some u=>
  have:=sF a u q
  rw [e] at this; cases this
  exact h2 a o q
theorem yO {a:Addr} {o:HO} (h:v4 H a=some o):H a=some o/\isL o=false:=by
 unfold v4 at h
 cases q:H a with
 | none=>rw [q] at h; cases h
 | some u=>
  rw [q] at h
  dsimp only at h
  cases hl:isL u
  ·rw [hl] at h; cases h; exact ⟨rfl,hl⟩
  ·rw [hl] at h; cases h
theorem lG:∀ {vs:List V} {ws:List W} {i:Nat} {x:Sl} {o:Option V} {k k':Nat},Reps K F vs ws->(ws.map Sl.val++List.replicate k Sl.un)[i]?=some x->(vs.map some++List.replicate k' none)[i]?=some o->x=.un\/∃ v w,x=.val w/\o=some v/\Rep K F v w
 | _,_,i,x,o,k,k',.nil,h1,h2=>by
  simp only [List.map_nil,List.nil_append,List.getElem?_replicate] at h1
  split at h1 <;> simp only [Option.some.injEq,reduceCtorEq] at h1
  exact .inl h1.symm
 | _,_,0,x,o,k,k',.cons r _,h1,h2=>by
  simp at h1 h2
  exact .inr ⟨_,_,h1.symm,h2.symm,r⟩
 | _,_,i+1,x,o,k,k',.cons _ t,h1,h2=>by
  simp only [List.map_cons,List.cons_append,List.getElem?_cons_succ] at h1 h2
  exact lG t h1 h2
theorem PIv.beginX {vs:List V} {ws:List W} {k k':Nat} (sF:Same F H) (r:Reps K F vs ws) (hk:k=k'):PIv K (less H F) (both F (v4 H)) (ws.map Sl.val++List.replicate k Sl.un) (vs.map some++List.replicate k' none) H where
 g0 a o e l:=by
  obtain ⟨h1,h2⟩:=gO e
  unfold both; rw [h1]; dsimp only
  unfold v4; rw [h2]; dsimp only; rw [l]; rfl
 gl a o e l:=by
  obtain ⟨h1,h2⟩:=gO e
  unfold both; rw [h1]; dsimp only
  unfold v4; rw [h2]; dsimp only; rw [l]; rfl
 gh a o e:=by
  unfold both at e
  cases q:F a with
  | none=>rw [q] at e; exact (yO e).1
  | some u=>rw [q] at e; cases e; exact sF a _ q
 hh a o e:=(gO e).2
 len:=by subst hk; simp [r.length]
 sl i x o h1 h2:=by
  rcases lG r h1 h2 with rfl | ⟨v,w,rfl,rfl,q⟩
  ·trivial
  ·exact ⟨v,rfl,q.same fun b u e=>by unfold both; rw [e]⟩
 ne i j us xs a hij h1 _ _ _:=by
  have:∀ (i:Nat) (us:List W),(ws.map Sl.val++List.replicate k Sl.un)[i]?≠some (Sl.own us):=fun i us q=>by
   rw [List.getElem?_append] at q
   split at q
   ·rw [List.getElem?_map] at q
    cases hh:ws[i]? <;> rw [hh] at q <;> cases q
   ·rw [List.getElem?_replicate] at q
    split at q <;> cases q
  exact absurd h1 (this i us)
theorem we {n:Nat} {Nl:List Str} {m:Rho->R Fl} {vs:List V} {Q:VK} {E:XK} (h:spX K n (Q2 n Nl.length m) vs H Q E):tSt K (fun _ _=>False) .V m { nx:=fun _ H'=>Q .non H',rt:=Q } (L2.start Nl vs) H:=by
 obtain ⟨hl,F,ws,sF,r,o⟩:=h
 have hw:ws.length=n:=by rw [<- r.length]; exact hl
 unfold Q2 at o
 rw [if_pos hw] at o
 have sB:Same F (both F (v4 H)):=fun b u e=>by unfold both; rw [e]
 refine ⟨less H F,both F (v4 H),_,PIv.beginX (k:=Nl.length-n) sF r (by rw [hl]),?_⟩
 revert o
 cases m (ws.map Sl.val++List.replicate (Nl.length-n) Sl.un) with
 | stuck=>exact id
 | ex e=>exact fun o=>(o H (Same.refl H)).elim
 | ok f=>
  cases f with
  | nx ρ'=>exact fun o G' σ' H' s' I'=>o .non G' H' (sB.trans s') (dI sF I'.hh ((sB.trans s').trans I'.gh)) I'.gh (fun a o e l q=>I'.gl a o (by rw [gP q]; exact e) l) .non
  | rt w=>exact fun o v G' H' s0 s1 s2 c md=>o v G' H' (sB.trans s0) (dI sF s2 ((sB.trans s0).trans s1)) s1 (fun a o e l q=>c a o (by rw [gP q]; exact e) l) md
  | bk _=>exact fun o=>o.elim
  | ct _=>exact fun o=>o.elim
def frzL:List Nat->Rho->Rho
 | [],ρ=>ρ
 | j::js,ρ=>frzL js (frz j ρ)
theorem PIv.frzL:∀ {js:List Nat} {G:Hp} {ρ:Rho},PIv K H0 G ρ σ H->∃ G',Same G G'/\PIv K H0 G' (frzL js ρ) σ H
 | [],G,ρ,I=>⟨G,Same.refl G,I⟩
 | j::js,G,ρ,I=>by
  obtain ⟨G1,s1,I1⟩:=I.frz (i:=j)
  obtain ⟨G2,s2,I2⟩:=PIv.frzL (js:=js) I1
  exact ⟨G2,s1.trans s2,I2⟩
def bg (i:Nat) (js:List Nat) (w:W) (ρ:Rho):Rho:=if noL w=true then ρ.set i (.val w) else (frzL js ρ).set i (.val w)
def sCX (i:Nat) (js:List Nat) (f:List W->R W) (ma:Rho->R (List W)):Rho->R Fl:=fun ρ=>ma (frzL js ρ)>>=fun ws=>f ws>>=fun w=>.ok (.nx (bg i js w ρ))
theorem MdA.repsV {Hs:Hp}:∀ {ws:List W} {vs:List V},MdA K .V H0 Hs G H ws vs->Reps K G vs ws
 | _,_,.nil=>.nil
 | _,_,.cons h t=>.cons h (MdA.repsV t)
theorem wc {i n:Nat} {js:List Nat} {f:List W->R W} {E:XK} {ma:Rho->R (List W)} (hf:∀ ws,f ws≠.stuck->ws.length=n) (hE:∀ e H,EX e H->XE E e H) (h:tSt K EX d (sCX i js f ma) D σ H) :
  S9 (eQ (spX K n f) [] E (tA K EX .V ma)) (C4 i) D σ H:=by
 obtain ⟨H0,G,ρ,I,o⟩:=h
 obtain ⟨G2,s2,I2⟩:=I.frzL (js:=js)
 refine ⟨H0,G2,frzL js ρ,I2,?_⟩
 unfold sCX at o
 cases hma:ma (frzL js ρ) with
 | stuck=>rw [hma] at o; exact o.elim
 | ex e=>rw [hma] at o; exact fun H' s=>o H' (I.hh.trans s)
 | ok ws=>
  rw [hma,R.ok_bind] at o
  intro xs G1 H1 e1 m1
  have I1:=I2.ext e1
  have r:=MdA.repsV m1
  rw [List.append_nil]
  refine ⟨?_,G1,ws,I1.gh,r,?_⟩
  ·rw [r.length]
   refine hf ws fun z=>?_
   rw [z] at o; exact o
  ·revert o
   cases f ws with
   | stuck=>exact id
   | ex e=>exact fun o H' s=>hE e H' (o H' (I1.hh.trans s))
   | ok w=>
    intro o v G' H' sG sH gH cl md
    rw [R.ok_bind] at o
    by_cases hn:noL w=true
    ·have hs:bg i js w ρ=ρ.set i (.val w):=if_pos hn
     rw [hs] at o
     have sHH:Same H H':=e1.hh.trans sH
     have rH:Rep K H' v w:=md.same gH
     have sN:Same (v4 H') H':=yP K H'
     have sB:Same G (both G (v4 H')):=fun b o q=>by unfold both; rw [q]
     have sB':Same (v4 H') (both G (v4 H')):=fun b o q=>by
      unfold both
      cases q1:G b with
      | none=>exact q
      | some y=>
       have a1:=sHH b y (I.gh b y q1)
       rw [sN b o q] at a1
       exact a1.symm
     have sHB:Same (both G (v4 H')) H':=fun b o q=>by
      unfold both at q
      cases q1:G b with
      | none=>rw [q1] at q; exact sN b o q
      | some y=>rw [q1] at q; cases q; exact sHH b _ (I.gh b _ q1)
     have ex:Ext G H (both G (v4 H')) H':=⟨sB,sHH,sHB,fun b o q l g=>by
      unfold both; rw [g]; dsimp only
      unfold v4; rw [sHH b o q]; dsimp only; rw [if_pos l]⟩
     exact o _ _ H' sB ((I.ext ex).setV ((Rep.ofNoL rH hn).same sB'))
    ·have hs:bg i js w ρ=(frzL js ρ).set i (.val w):=if_neg hn
     rw [hs] at o
     have ex:Ext G1 H1 G' H':=⟨sG,sH,gH,cl⟩
     exact o G' _ H' ((s2.trans e1.gg).trans sG) ((I1.ext ex).setV md)
end
section
variable {X:Cx} {K:Frag} {d:Mode} {e:Expr} {es:List Expr} {pos:Pos} {mr:Rho->R (List W)}
theorem iV {i k:Nat} {js:List Nat} {y:Str} {pos':Pos} {f:Addr} {fd:FuncData} {ps:List Str} {x:Str} {p cpos:Pos} {n N:Nat} {m:Rho->R Fl} (hN:X.N.Nodup) (hi:X.N[i]?=some y) (hy:Loc X.env.scope y)
  (F:FnOk X.prog X.w X.K X.mg X.base CX0 k f fd ps (spX K n (Q2 n N m))) (hr:Room k X.A) (hg:Gl X x) (hm:X.mg x=some (.ref f)) (hk:PySem.W.keepIn X.K (.ref f)=true) (hb:Binds X.K fd ps [])
  (ha:PA X (e::es) (tA K (fun _ _=>False) .V mr)) (hdb:(x == ("__debug__" : Str))=false:=by decide) (he:starEach (e::es) X.env=(false,eval e X.env)::starEach es X.env:=by rfl) (hpl:(backTo cpos (starEach es X.env)).any (·.1)=false:=by rfl)
  (hs:swapsWith (.Call (.Name x p) (e::es) [] cpos) (some (.Name y pos')) pos.line X.env=pure false:=by rfl) (hf:X.fn y=true\/X.env.scope.names.lookup y=some .local:=by first | exact .inl rfl | exact .inr rfl | assumption) :
  PS X (.Assign [.Name y pos'] (.Call (.Name x p) (e::es) [] cpos) pos) (tSt K (fun _ _=>False) d (sCX i js (Q2 n N m) mr)):=
 (U3 hN hi hy (cY F hr hg hm hk hb .nil kh ha hdb he hpl) hs hf).mono fun _ _ _ q=>wc (fun ws h=>pf ws h) (fun _ _ z=>z) q
end
theorem hJ (ρ:Rho):frzL [] ρ=ρ:=rfl
theorem dY (j:Nat) (js:List Nat) (ρ:Rho):frzL (j::js) ρ=frzL js (frz j ρ):=rfl
def RcX (f:List W->R W) (i:Nat) (js:List Nat) (ρ:Rho):R (List W)->R Fl
 | .ok ws=>f ws>>=fun w=>.ok (.nx (bg i js w ρ))
 | .ex e=>.ex e
 | .stuck=>.stuck
theorem lX (i:Nat) (js:List Nat) (f:List W->R W) (ma:Rho->R (List W)) (ρ:Rho):sCX i js f ma ρ=RcX f i js ρ (ma (frzL js ρ)):=by
 unfold sCX
 cases ma (frzL js ρ) <;> rfl
theorem oy (f:List W->R W) (i:Nat) (js:List Nat) (ρ:Rho) (ws:List W):RcX f i js ρ (.ok ws)=(f ws>>=fun w=>.ok (.nx (bg i js w ρ))):=rfl
end TP
namespace TP
open PySem L2
section
variable {K:Frag} {EX:EXT} {X:Cx} {tg e:Expr} {ma:Rho->R W}
end
end TP
namespace TP
open PySem L2
def cO (H:Hp):Prop:=∀ a vs,H a≠some (.lst vs)
def OutN (K:Frag) (d:Mode) (Hb:Hp) (r:R Fl) (D:Ends):Prop:=match r with
 | .ok (.nx ρ)=>∀ H0 G' σ' H',Same Hb H0->PIv K H0 G' ρ σ' H'->D.nx σ' H'
 | .ok (.rt w)=>∀ v G' H',Same G' H'->Same Hb H'->(∀ a o,Hb a=some o->isL o=true->G' a=none)->Md K Hb Hb G' H' v w d->D.rt v H'
 | _=>False
def tStN (K:Frag) (EX:EXT) (d:Mode) (m:Rho->R Fl):TS:=fun D σ H=>∃ Hb H0 G ρ,cO Hb/\Same Hb H0/\PIv K H0 G ρ σ H/\OutN K d Hb (m ρ) D
section
variable {K:Frag} {EX:EXT} {Hb H0 G H G1 H1 G2 H2:Hp} {ρ:Rho} {σ:St} {d:Mode} {D:Ends}
theorem Md.down {G' H':Hp} {v:V} {w:W} (hd:d=.F\/d=.V) (s:Same Hb H0) (m:Md K H0 H0 G' H' v w d):Md K Hb Hb G' H' v w d:=by
 rcases hd with rfl | rfl
 ·cases w with
  | lst ws=>obtain ⟨a,vs,e,h1,h2,h3,r⟩:=m; exact ⟨a,vs,e,h1,h2,s.free h3,r⟩
  | _=>exact m
 ·exact m
theorem tStN.toS {m:Rho->R Fl} (hd:d=.F\/d=.V) (h:tStN K EX d m D σ H):tSt K EX d m D σ H:=by
 obtain ⟨Hb,H0,G,ρ,_,s,I,o⟩:=h
 refine ⟨H0,G,ρ,I,?_⟩
 revert o
 cases m ρ with
 | stuck=>exact fun o=>o.elim
 | ex e=>exact fun o=>o.elim
 | ok f=>
  cases f with
  | nx ρ'=>exact fun o G' σ' H' _ I'=>o H0 G' σ' H' s I'
  | bk ρ'=>exact fun o=>o.elim
  | ct ρ'=>exact fun o=>o.elim
  | rt w=>exact fun o v G' H' _ s1 s2 c md=>o v G' H' s1 (s.trans s2) (fun a o e l=>c a o (s a o e) l) (md.down hd s)
theorem OutN.bind {α β:Type} {md:α->β->Hp->Hp->Prop} {m:R α} {k:α->R Fl} {Q1:β->Hp->Prop} (o:OutN K d Hb (m>>=k) D)
  (h:∀ x G1 H1 w,Ext G H G1 H1->md w x G1 H1->OutN K d Hb (k w) D->Q1 x H1):Out EX G H md m Q1:=by
 cases m with
 | ok w=>exact fun v G' H' e q=>h v G' H' w e q o
 | ex e=>exact o.elim
 | stuck=>exact o.elim
theorem AZ {m n:Rho->R Fl} (h:tStN K EX d (c8 m n) D σ H):oO (tStN K EX d m) (tStN K EX d n) D σ H:=by
 obtain ⟨Hb,H0,G,ρ,nb,s,I,o⟩:=h
 refine ⟨Hb,H0,G,ρ,nb,s,I,?_⟩
 unfold c8 at o
 revert o
 cases m ρ with
 | stuck=>exact id
 | ex e=>exact id
 | ok f=>
  cases f with
  | nx ρ'=>exact fun o H0' G' σ' H' s' I'=>⟨Hb,H0',G',ρ',nb,s',I',o⟩
  | _=>exact id
def jR (K:Frag) (n:Nat) (d:Mode) (f:List W->R W):Sp:=fun vs H Q E=>vs.length=n/\cO H/\spM K n d f vs H Q E
theorem wf {n:Nat} {Nl:List Str} {m:Rho->R Fl} {vs:List V} {Q:VK} {E:XK} (h:jR K n d (f7 n Nl.length m) vs H Q E):tStN K (fun _ _=>False) d m { nx:=fun _ H'=>Q .non H',rt:=Q } (L2.start Nl vs) H:=by
 obtain ⟨_,nb,hl,ws,r,o⟩:=h
 have hw:ws.length=n:=by rw [<- r.length]; exact hl
 unfold f7 at o
 rw [if_pos hw] at o
 refine ⟨H,H,v4 H,_,nb,Same.refl H,PIv.begin (k:=Nl.length-n) r (by rw [hl]),?_⟩
 revert o
 cases m (ws.map Sl.par++List.replicate (Nl.length-n) Sl.un) with
 | stuck=>exact id
 | ex e=>exact fun o=>(o H (Same.refl H)).elim
 | ok f=>
  cases f with
  | nx ρ'=>exact fun o H0' G' σ' H' s I'=>o .non G' H' (s.trans I'.hh) I'.gh (fun a o e l=>I'.gl a o (s a o e) l) (Md.sca rfl (fun _=>.non) d)
  | rt w=>exact fun o v G' H' s1 s2 c md=>o v G' H' s2 s1 c md
  | bk _=>exact fun o=>o.elim
  | ct _=>exact fun o=>o.elim
def sCN (i:Nat) (f:List W->R W) (ma:Rho->R (List W)):Rho->R Fl:=fun ρ=>ma ρ>>=fun ws=>f ws>>=fun w=>.ok (.nx (ρ.set i (.hz w)))
def D4 (H0 G':Hp):Hp:=fun a=>match H0 a with
 | some o=>some o
 | none=>(match G' a with
  | some o=>if isL o then some o else none
  | none=>none)
theorem PIv.put {i:Nat} {s:Sl} {o:Option V} (I:PIv K H0 G ρ σ H) (r:SlR K H0 G H s o) (no:∀ ws,s≠.own ws):PIv K H0 G (ρ.set i s) (σ.set i o) H where
 g0:=I.g0
 gl:=I.gl
 gh:=I.gh
 hh:=I.hh
 len:=by rw [List.length_set,List.length_set]; exact I.len
 sl k x u h1 h2:=by
  by_cases e:i=k
  ·subst e
   have hi:i<ρ.length:=by
    have:=(List.getElem?_eq_some_iff.mp h1).1
    rwa [List.length_set] at this
   rw [List.getElem?_set_self hi] at h1
   rw [List.getElem?_set_self (by rw [<- I.len]; exact hi)] at h2
   cases h1; cases h2; exact r
  ·rw [List.getElem?_set_ne e] at h1 h2
   exact I.sl k x u h1 h2
 ne p q ws us a hpq h1 h2 h3 h4:=by
  have key:∀ {k:Nat} {u:List W},(ρ.set i s)[k]?=some (.own u)->i≠k/\ρ[k]?=some (.own u):=fun {k u} hk=>by
   by_cases e:i=k
   ·subst e
    have hi:i<ρ.length:=by
     have:=(List.getElem?_eq_some_iff.mp hk).1
     rwa [List.length_set] at this
    rw [List.getElem?_set_self hi] at hk
    cases hk; exact absurd rfl (no u)
   ·exact ⟨e,by rwa [List.getElem?_set_ne e] at hk⟩
  obtain ⟨n1,k1⟩:=key h1
  obtain ⟨n2,k2⟩:=key h2
  rw [List.getElem?_set_ne n1] at h3
  rw [List.getElem?_set_ne n2] at h4
  exact I.ne p q ws us a hpq k1 k2 h3 h4
theorem jb {a:Addr} {o:HO} (h:B1 G a=some o):isL o=false:=by
 unfold B1 at h
 cases q:G a with
 | none=>rw [q] at h; cases h
 | some u=>
  rw [q] at h
  dsimp only at h
  cases hl:isL u
  ·rw [hl] at h; cases h; exact hl
  ·rw [hl] at h; cases h
theorem ja {a:Addr} {o:HO} (h:G a=some o) (hl:isL o=false):B1 G a=some o:=by
 unfold B1; rw [h]; dsimp only; rw [hl]; rfl
theorem wd {i n:Nat} {f:List W->R W} {E:XK} {ma:Rho->R (List W)} (hf:∀ ws,f ws≠.stuck->ws.length=n) (h:tStN K EX d (sCN i f ma) D σ H) :
  S9 (eQ (spM K n .V f) [] E (tA K EX .B ma)) (C4 i) D σ H:=by
 obtain ⟨Hb,H0,G,ρ,nb,s,I,o⟩:=h
 refine ⟨H0,G,ρ,I,OutN.bind o fun xs G1 H1 ws e1 m1 o1=>?_⟩
 have I1:=I.ext e1
 have r:=MdA.whole I1 m1
 rw [List.append_nil]
 refine ⟨?_,ws,r,?_⟩
 ·rw [r.length]
  refine hf ws fun z=>?_
  rw [z] at o1; exact o1
 ·revert o1
  cases f ws with
  | stuck=>exact id
  | ex e=>exact fun o1=>o1.elim
  | ok w=>
   intro o1 v G' H' sH gH cl md
   -- what stands in both is one
   have one:∀ {a:Addr} {u o:HO},H1 a=some u->G' a=some o->u=o:=fun {a u o} h1 h2=>by
    have:=sH a u h1
    rw [gH a o h2] at this; cases this; rfl
   have newL:∀ {a:Addr} {o:HO},G' a=some o->isL o=true->H1 a=none:=fun {a o} h2 hl=>by
    cases q:H1 a with
    | none=>rfl
    | some u=>
     have:=one q h2
     subst this
     rw [cl a u q hl] at h2; cases h2
   have sB:Same G1 (both G1 (B1 G')):=fun b o q=>by unfold both; rw [q]
   have sHB:Same (both G1 (B1 G')) H':=fun b o q=>by
    unfold both at q
    cases q1:G1 b with
    | none=>rw [q1] at q; exact gH b o (X0 b o q)
    | some u=>rw [q1] at q; cases q; exact sH b _ (I1.gh b _ q1)
   have pl0:Same H0 (D4 H0 G'):=fun b o q=>by unfold D4; rw [q]
   have plN:∀ {a:Addr} {o:HO},H0 a=none->G' a=some o->isL o=true->D4 H0 G' a=some o:=fun {a o} h1 h2 hl=>by unfold D4; rw [h1]; dsimp only; rw [h2]; dsimp only; rw [hl]; rfl
   have plI:∀ {a:Addr} {o:HO},D4 H0 G' a=some o->H0 a=some o\/(H0 a=none/\G' a=some o/\isL o=true):=fun {a o} q=>by
    unfold D4 at q
    cases q0:H0 a with
    | some u=>rw [q0] at q; exact .inl q
    | none=>
     rw [q0] at q
     dsimp only at q
     cases q1:G' a with
     | none=>rw [q1] at q; cases q
     | some u=>
      rw [q1] at q
      dsimp only at q
      cases hl:isL u
      ·rw [hl] at q; cases q
      ·rw [hl] at q; cases q; exact .inr ⟨rfl,rfl,hl⟩
   have plG:∀ {a:Addr} {o:HO},G1 a=some o->(∀ u,H0 a=some u->isL u=false)->∀ u,D4 H0 G' a=some u->isL u=false:=fun {a o} g1 h0 u q=>by
    rcases plI q with q | ⟨_,q,hl⟩
    ·exact h0 u q
    ·have:=newL q hl
     rw [I1.gh a o g1] at this; cases this
   have joinUp:∀ {F1 F2:Hp},Same F1 F2->Same F1 G1->Same (join H0 F1) (join (D4 H0 G') F2):=fun {F1 F2} sF s1 a o q=>by
    unfold join at q ⊢
    cases q0:H0 a with
    | some u=>
     rw [q0] at q
     rw [pl0 a u q0]
     dsimp only at q ⊢
     cases hl:isL u
     ·rw [hl] at q; exact sF a o q
     ·rw [hl] at q; exact q
    | none=>
     rw [q0] at q
     dsimp only at q
     have g1:=s1 a o q
     cases qp:D4 H0 G' a with
     | none=>exact sF a o q
     | some u=>
      dsimp only
      rw [plG g1 (fun u e=>by rw [q0] at e; cases e) u qp]
      exact sF a o q
   have I2:PIv K (D4 H0 G') (both G1 (B1 G')) ρ σ H':=by
    refine ⟨fun a o e l=>?_,fun a o e l=>?_,sHB,fun a o e=>?_,I1.len,fun j x o h1 h2=>?_,I1.ne⟩
    ·rcases plI e with e | ⟨_,_,hl⟩
     ·exact sB a o (I1.g0 a o e l)
     ·rw [l] at hl; cases hl
    ·unfold both
     rcases plI e with e | ⟨h0,g,hl⟩
     ·rw [I1.gl a o e l]
      dsimp only
      unfold B1
      rw [cl a o (I1.hh a o e) l]
     ·have hn:=newL g hl
      rw [I1.gh.free hn]
      dsimp only
      unfold B1
      rw [g]; dsimp only; rw [hl]; rfl
    ·rcases plI e with e | ⟨_,g,_⟩
     ·exact sH a o (I1.hh a o e)
     ·exact gH a o g
    ·have own:∀ {a:Addr} {o:HO},H1 a=some o->isL o=true->G1 a=none->H0 a=none->both G1 (B1 G') a=none/\D4 H0 G' a=none:=fun {a o} h1 hl g h0=>by
      have g':=cl a o h1 hl
      refine ⟨?_,?_⟩
      ·unfold both B1; rw [g]; dsimp only; rw [g']
      ·unfold D4; rw [h0]; dsimp only; rw [g']
     have:=I1.sl j x o h1 h2
     cases x with
     | un=>trivial
     | val w=>obtain ⟨v,e,r⟩:=this; exact ⟨v,e,r.same sB⟩
     | par w=>obtain ⟨v,e,r⟩:=this; exact ⟨v,e,r.same (joinUp sB (Same.refl _))⟩
     | own ws=>
      obtain ⟨a,vs,e,h,g,h0,r⟩:=this
      obtain ⟨x1,x2⟩:=own h rfl g h0
      exact ⟨a,vs,e,sH a _ h,x1,x2,r.same sB⟩
     | dic ks=>
      obtain ⟨a,vs,e,h,g,h0,r⟩:=this
      obtain ⟨x1,x2⟩:=own h rfl g h0
      exact ⟨a,vs,e,sH a _ h,x1,x2,r⟩
     | dik ks=>
      obtain ⟨a,vs,e,h,g,h0,r⟩:=this
      obtain ⟨x1,x2⟩:=own h rfl g h0
      exact ⟨a,vs,e,sH a _ h,x1,x2,r⟩
     | iop p ws=>obtain ⟨e1,vs1,h1',r1⟩:=this; exact ⟨e1,vs1,pl0 _ _ h1',r1.same sB⟩
     | hz w=>obtain ⟨v,e,r⟩:=this; exact ⟨v,e,r.same (joinUp (S1 sB) X0)⟩
   have sJ:Same G' (join (D4 H0 G') (B1 (both G1 (B1 G')))):=fun a o q=>by
    unfold join
    cases hl:isL o with
    | true=>
     have hn:=newL q hl
     rw [plN (I1.hh.free hn) q hl]
     dsimp only
     rw [hl]; rfl
    | false=>
     have hB:both G1 (B1 G') a=some o:=by
      unfold both
      cases q1:G1 a with
      | none=>exact ja q hl
      | some u=>have:=one (I1.gh a u q1) q; subst this; rfl
     have hN:=ja hB hl
     cases qp:D4 H0 G' a with
     | none=>exact hN
     | some u=>
      dsimp only
      have:isL u=false:=by
       rcases plI qp with e | ⟨_,g,hl'⟩
       ·have:=one (I1.hh a u e) q; subst this; exact hl
       ·rw [q] at g; cases g; rw [hl] at hl'; cases hl'
      rw [this]; exact hN
   exact o1 _ _ _ _ (s.trans pl0) (I2.put (i:=i) (s:=.hz w) (o:=some v) ⟨v,rfl,Rep.same sJ md⟩ fun ws e=>by cases e)
theorem PIv.clean {p:Addr} {vs vs':List V} (I:PIv K H0 G ρ σ H) (hp:H0 p=some (.lst vs)):PIv K (upd H0 p (.lst vs')) G (ρ.map clI) σ (upd H p (.lst vs')):=by
 have gp:G p=none:=I.gl p _ hp rfl
 refine ⟨fun b o hb hl=>?_,fun b o hb hl=>?_,fun b o hb=>?_,fun b o hb=>?_,by rw [List.length_map]; exact I.len,fun k x o h1 h2=>?_,fun x y u1 u2 c hab h1 h2 h3 h4=>?_⟩
 ·by_cases e:b=p
  ·subst e; rw [Z2] at hb; cases hb; cases hl
  ·rw [b9 e] at hb; exact I.g0 b o hb hl
 ·by_cases e:b=p
  ·subst e; exact gp
  ·rw [b9 e] at hb; exact I.gl b o hb hl
 ·rw [b9 (c9 hb gp)]; exact I.gh b o hb
 ·by_cases e:b=p
  ·subst e; rw [Z2] at hb ⊢; exact hb
  ·rw [b9 e] at hb ⊢; exact I.hh b o hb
 ·rw [List.getElem?_map] at h1
  obtain ⟨s,hs,rfl⟩:=Option.map_eq_some_iff.mp h1
  have old:=I.sl k s o hs h2
  have own:∀ {b:Addr} {u:HO},H b=some u->H0 b=none->upd H p (.lst vs') b=some u/\upd H0 p (.lst vs') b=none:=fun {b u} hb h0b=>by
   have hbl:b≠p:=by rintro rfl; rw [hp] at h0b; cases h0b
   exact ⟨by rw [b9 hbl]; exact hb,by rw [b9 hbl]; exact h0b⟩
  cases s with
  | un=>trivial
  | val w=>exact old
  | par w=>
   rw [clI]
   by_cases c:noL w=true
   ·rw [if_pos c]
    obtain ⟨v,ev,r⟩:=old
    exact ⟨v,ev,Rep.clean I r c⟩
   ·rw [if_neg c]; trivial
  | own ws=>obtain ⟨b,us',eb,hb,hgb,h0b,rb⟩:=old; exact ⟨b,us',eb,(own hb h0b).1,hgb,(own hb h0b).2,rb⟩
  | dic ks=>obtain ⟨b,us',eb,hb,hgb,h0b,rb⟩:=old; exact ⟨b,us',eb,(own hb h0b).1,hgb,(own hb h0b).2,rb⟩
  | dik ks=>obtain ⟨b,us',eb,hb,hgb,h0b,rb⟩:=old; exact ⟨b,us',eb,(own hb h0b).1,hgb,(own hb h0b).2,rb⟩
  | iop q us=>trivial
  | hz _=>trivial
 ·have key:∀ {k:Nat} {u:List W},(ρ.map clI)[k]?=some (.own u)->ρ[k]?=some (.own u):=fun {k u} hk=>by
   rw [List.getElem?_map] at hk
   obtain ⟨s,hs,h⟩:=Option.map_eq_some_iff.mp hk
   rw [hs,jC h]
  exact I.ne x y u1 u2 c hab (key h1) (key h2) h3 h4
end
theorem noLst_of {H:Hp} (h:iu H):cO H:=fun a vs e=>by
 rcases h a with q | ⟨_,_,q⟩ <;> rw [q] at e <;> cases e
section
variable {X:Cx} {K:Frag} {EX:EXT} {d:Mode} {e:Expr} {es:List Expr} {pos:Pos} {ma:Rho->R W} {mr:Rho->R (List W)} {m n:Rho->R Fl} {ta:Rho->R Bool} {st:Stmt} {sts:List Stmt}
theorem q_n (h:PS X st (tSt K EX d m)) (hd:d=.F\/d=.V:=by first | exact .inl rfl | exact .inr rfl):PS X st (tStN K EX d m):=h.mono fun _ _ _ q=>q.toS hd
theorem m9 (h1:PS X st (tStN K EX d m)) (h2:PSs X sts (tStN K EX d n)):PSs X (st::sts) (tStN K EX d (c8 m n)):=(fS h1 h2).mono fun _ _ _ q=>AZ q
theorem uf (h1:PS X st (tStN K EX d m)):PSs X [st] (tStN K EX d m):=cW h1
theorem ud {i k:Nat} {y:Str} {pos':Pos} {f:Addr} {fd:FuncData} {ps:List Str} {x:Str} {p cpos:Pos} {n N:Nat} {m:Rho->R Fl} (hN:X.N.Nodup) (hi:X.N[i]?=some y) (hy:Loc X.env.scope y)
  (F:FnOk X.prog X.w X.K X.mg X.base CX0 k f fd ps (spM K n .V (f7 n N m))) (hr:Room k X.A) (hg:Gl X x) (hm:X.mg x=some (.ref f)) (hk:PySem.W.keepIn X.K (.ref f)=true) (hb:Binds X.K fd ps [])
  (ha:PA X (e::es) (tA K (fun _ _=>False) .B mr)) (hdb:(x == ("__debug__" : Str))=false:=by decide) (he:starEach (e::es) X.env=(false,eval e X.env)::starEach es X.env:=by rfl) (hpl:(backTo cpos (starEach es X.env)).any (·.1)=false:=by rfl)
  (hs:swapsWith (.Call (.Name x p) (e::es) [] cpos) (some (.Name y pos')) pos.line X.env=pure false:=by rfl) (hf:X.fn y=true\/X.env.scope.names.lookup y=some .local:=by first | exact .inl rfl | exact .inr rfl | assumption) :
  PS X (.Assign [.Name y pos'] (.Call (.Name x p) (e::es) [] cpos) pos) (tStN K (fun _ _=>False) d (sCN i (f7 n N m) mr)):=
 (U3 hN hi hy (cY F hr hg hm hk hb .nil kh ha hdb he hpl) hs hf).mono fun _ _ _ q=>wd (fun ws h=>fH ws h) q
end
end TP
namespace TP
open PySem L2
open PyProof.Rows (envOfC)
def XE1 (K:Frag) (E:XK):EXT:=fun e H=>∀ (C:Addr) (od:Option Addr),PySem.W.nsIn K mainGlobals e.cls=some (some (.ref C))->XD H od e.at_->E (.ref C) od H
def spR (K:Frag) (n:Nat) (d:Mode) (f:List W->R W):Sp:=fun vs H Q E=>vs.length=n/\∃ ws,Reps K H vs ws/\match f ws with
 | .ok w=>∀ v G' H',Same H H'->Same G' H'->(∀ a o,H a=some o->isL o=true->G' a=none)->Md K H H G' H' v w d->Q v H'
 | .ex e=>∀ H',Same H H'->XE1 K E e H'
 | .stuck=>False
def calm (f:List W->R W):List W->R W:=fun ws=>match f ws with
 | .ok w=>.ok w
 | _=>.stuck
section
variable {K:Frag} {EX:EXT} {H0 G H G1 H1 G2 H2:Hp} {ρ:Rho} {σ:St} {d:Mode} {D:Ends}
def flUn (j:Nat):Fl->R Fl
 | .nx ρ=>.ok (.nx (ρ.set j .un))
 | .bk ρ=>.ok (.bk (ρ.set j .un))
 | .ct ρ=>.ok (.ct (ρ.set j .un))
 | .rt w=>.ok (.rt w)
def mExc (c:Str) (j:Nat) (mb:Rho->R Fl) (e:XW) (ρ:Rho):R Fl:=if e.cls=c then mb (ρ.set j (.val (.exc e.cls e.at_)))>>=flUn j else .stuck
end
section
variable {X:Cx} {K:Frag} {EX:EXT} {d:Mode} {e:Expr} {es:List Expr} {pos:Pos} {ma:Rho->R W} {mr:Rho->R (List W)} {mb:Rho->R Fl}
end
section
variable {P:Program} {w:World} {K:Frag} {mg:Str->Option Value} {base:Heap} {N:List Str} {qual:Str} {scope:Scope} {f0:Addr} {cd:Value} {A:Around} {outer:List Env} {s0:Shared} {H0:Hp} {E:XK} {d:Mode} {e:Expr} {es:List Expr} {pos:Pos} {mr:Rho->R (List W)}
end
end TP
namespace TP
open PySem L2
def big8:Int:=2^200
def sO (_ j:Int):Prop:=0<j/\j<big8
instance (i j:Int):Decidable (sO i j):=by unfold sO; infer_instance
end TP
namespace TP
open PySem L2
section
variable {X:Cx}
end
section
variable {K:Frag} {EX:EXT} {H0 G H:Hp} {ρ:Rho} {σ:St} {d:Mode} {D:Ends} {Q:VK}
end
section
variable {X:Cx} {K:Frag} {EX:EXT} {d:Mode} {a e:Expr} {pos:Pos} {ma:Rho->R W} {mr:Rho->R (List W)}
end
end TP
namespace TP
open PySem L2
section
variable {X:Cx}
end
section
variable {K:Frag} {EX:EXT} {H0 G H:Hp} {ρ:Rho} {σ:St} {d:Mode} {D:Ends}
end
section
variable {X:Cx} {K:Frag} {EX:EXT} {d:Mode} {e1 e:Expr} {pos:Pos} {mk ma:Rho->R W}
end
end TP
namespace HT
open PySem PySem.Spec PyProof.Rows PySem.W
section
variable {prog:Program} {w:World} {A:Around} {E:Value->Shared->Prop} {s:Shared}
end
end HT
namespace TP
open PySem L2
section
open PySem.W PyProof.Rows
variable {X:Cx} {e:Expr} {te:TE} {st:Expr} {tk:TO} {pos p2:Pos}
end
section
variable {K:Frag} {EX:EXT} {σ:St} {H:Hp} {Q:VK}
end
section
variable {X:Cx} {K:Frag} {EX:EXT} {e:Expr} {pos:Pos} {ma:Rho->R W}
end
end TP
namespace TP
open PySem L2
section
variable {K:Frag} {H0 G H G1 H1:Hp} {ρ:Rho} {σ:St} {d:Mode} {D:Ends}
end
section
variable {X:Cx} {K:Frag} {d:Mode} {e:Expr} {es:List Expr} {pos:Pos} {mr:Rho->R (List W)} {mt:Rho->R Bool}
end
end TP
namespace TP
open PySem L2
section
variable {K:Frag} {EX:EXT} {D:Ends} {d:Mode} {σ:St} {H:Hp}
end
section
variable {X:Cx} {K:Frag} {EX:EXT} {d:Mode} {e k v:Expr} {pos:Pos} {mk me:Rho->R W}
end
end TP
namespace TP
open PySem L2
def L1:List W->Bool
 | []=>true
 | .lst zs::ws=>decide (zs.length<=900)&&L1 ws
 | _=>false
def u7 (i k:Nat) (ρ:Rho):Rho:=((ρ.map clI).set i .un).set k .un
def df (i k:Nat) (m:Rho->R W):Rho->R Fl:=fun ρ=>match ρ[i]? with
 | some (.hz (.tup (_::us)))=>if L1 us=true/\us.length<=90/\k<ρ.length then m (u7 i k ρ)>>=fun _=>.ok (.nx (u7 i k ρ)) else .stuck
 | _=>.stuck
theorem uY {i k:Nat} {m:Rho->R W} {u w:W} {us:List W} {ρ:Rho} (h1:ρ[i]?=some (.hz (.tup (u::us)))) (h2:L1 us=true/\us.length<=90/\k<ρ.length) (hm:m (u7 i k ρ)=.ok w):df i k m ρ=.ok (.nx (u7 i k ρ)):=by
 unfold df
 rw [h1]
 dsimp only
 rw [if_pos h2,hm]
 rfl
theorem qZ (s:Sl):clI (clI s)=clI s:=by
 cases s with
 | par w=>
  rw [clI]
  by_cases c:noL w=true
  ·rw [if_pos c]; rfl
  ·rw [if_neg c]; rfl
 | _=>rfl
theorem oC (i k:Nat) (ρ:Rho):(u7 i k ρ).map clI=u7 i k ρ:=by
 unfold u7
 rw [List.map_set,List.map_set,List.map_map]
 have e:(clI∘clI)=clI:=funext qZ
 rw [e]; rfl
section
variable {K:Frag} {EX:EXT} {Hb H0 G H G1 H1 G2 H2:Hp} {ρ:Rho} {σ:St} {d:Mode} {D:Ends}
theorem PIv.zapped (I:PIv K H0 G ρ σ H) (i k:Nat):PIv K H0 G (u7 i k ρ) σ H:=by
 have key:∀ (j:Nat) (x:Sl),(u7 i k ρ)[j]?=some x->x=.un\/∃ s,ρ[j]?=some s/\x=clI s:=fun j x h=>by
  unfold u7 at h
  by_cases e1:k=j
  ·subst e1
   have hk:=(List.getElem?_eq_some_iff.mp h).1
   rw [List.length_set] at hk
   rw [List.getElem?_set_self hk] at h
   cases h; exact .inl rfl
  ·rw [List.getElem?_set_ne e1] at h
   by_cases e2:i=j
   ·subst e2
    have hk:=(List.getElem?_eq_some_iff.mp h).1
    rw [List.length_set] at hk
    rw [List.getElem?_set_self hk] at h
    cases h; exact .inl rfl
   ·rw [List.getElem?_set_ne e2,List.getElem?_map] at h
    obtain ⟨s,hs,rfl⟩:=Option.map_eq_some_iff.mp h
    exact .inr ⟨s,hs,rfl⟩
 have own:∀ {j:Nat} {ws:List W},(u7 i k ρ)[j]?=some (.own ws)->ρ[j]?=some (.own ws):=fun {j ws} h=>by
  rcases key j _ h with e | ⟨s,hs,e⟩
  ·cases e
  ·rw [hs,jC e.symm]
 refine ⟨I.g0,I.gl,I.gh,I.hh,?_,fun j x o h1 h2=>?_,fun x y u1 u2 c hab h1 h2 h3 h4=>I.ne x y u1 u2 c hab (own h1) (own h2) h3 h4⟩
 ·unfold u7; rw [List.length_set,List.length_set,List.length_map]; exact I.len
 ·rcases key j x h1 with e | ⟨s,hs,e⟩
  ·subst e; trivial
  ·subst e
   have old:=I.sl j s o hs h2
   cases s with
   | par w=>
    rw [clI]
    by_cases c:noL w=true
    ·rw [if_pos c]
     obtain ⟨v,ev,r⟩:=old
     exact ⟨v,ev,Rep.clean I r c⟩
    ·rw [if_neg c]; trivial
   | iop q us=>trivial
   | hz _=>trivial
   | _=>exact old
theorem pX {F:Hp}:∀ {vs:List V} {us:List W},Reps K F vs us->L1 us=true->∀ v,v∈vs->∃ l zs,v=.ref l/\F l=some (.lst zs)/\zs.length<=900:=by
 intro vs us r
 induction us generalizing vs with
 | nil=>cases r; intro _ v hv; cases hv
 | cons u us ih=>
  cases r with
  | @cons v0 _ vt _ r0 rt=>
  intro ok v hv
  cases u with
  | lst zs=>
   have ok':zs.length<=900/\L1 us=true:=by simpa [L1] using ok
   rcases List.mem_cons.mp hv with e | e
   ·subst e
    cases r0 with
    | @lst l vs1 _ gl rl=>exact ⟨l,vs1,rfl,gl,by rw [rl.length]; exact ok'.1⟩
   ·exact ih rt ok'.2 v e
  | _=>cases ok
theorem nS (x:V) (xs:List V):L2.cutV (x::xs) (some 1) none=xs:=by
 unfold L2.cutV
 have e1:HT.sIx (x::xs).length 0 (some 1)=1:=by
  have:=HT.sIx_nat (x::xs).length 0 1
  rw [show ((1:Nat):Int)=1 from rfl] at this
  rw [this,List.length_cons]; omega
 rw [e1,HT.sIx_none,List.drop_succ_cons,List.drop_zero]
 rw [List.take_of_length_le (by rw [List.length_cons]; omega)]
theorem CC {i k:Nat} {m:Rho->R W} (h:tStN K EX d (df i k m) D σ H) :
  oP (zO K (tSl (xP K) (W0 i) (jO (tC (.int 1))) tNoPart)) (C4 k) (eP (oQ (W0 k) (tM K EX .V m))) D σ H:=by
 obtain ⟨Hb,H0,G,ρ,nb,s,I,o⟩:=h
 unfold df at o
 split at o
 ·rename_i u us e
  by_cases hc:L1 us=true/\us.length<=90/\k<ρ.length
  ·rw [if_pos hc] at o
   obtain ⟨hok,hus,hk⟩:=hc
   have hi:i<σ.length:=by rw [<- I.len]; exact (List.getElem?_eq_some_iff.mp e).1
   have es0:σ[i]?=some σ[i]:=by simp
   obtain ⟨v,ev,r⟩:=I.sl i _ _ e es0
   have es:σ[i]?=some (some v):=by rw [es0,ev]
   have up:=(o8 (H0:=H0) (X0 (G:=G))).trans I.join_H
   cases r with
   | @tup a vs0 _ ga ra=>
   cases ra with
   | @cons v0 _ vt _ r0 rt=>
   have ha:=up a _ ga
   have hz:∀ v,v∈vt->∃ l zs,v=.ref l/\H0 l=some (.lst zs)/\zs.length<=900:=fun v hv=>by
    obtain ⟨l,zs,e,gl,hl⟩:=pX rt hok v hv
    refine ⟨l,zs,e,?_,hl⟩
    unfold join at gl
    cases q:H0 l with
    | none=>rw [q] at gl; have:=jb gl; cases this
    | some u=>
     rw [q] at gl
     dsimp only at gl
     cases hl:isL u
     ·rw [hl] at gl; have:=jb gl; cases this
     ·rw [hl] at gl; exact gl
   have hvt:vt.length<=90:=by rw [rt.length]; exact hus
   refine ⟨.ref a,es,1,rfl,.inl ⟨a,v0::vt,rfl,SqT.of ha,?_,fun p hp=>⟨p,rfl,⟨_,SqT.of Z2⟩,?_⟩⟩⟩
   ·rintro ⟨z,_⟩
    have:=HT.sIx_nat (v0::vt).length 0 1
    rw [show ((1:Nat):Int)=1 from rfl] at this
    rw [this,List.length_cons] at z
    omega
   rw [nS]
   refine ⟨fun t mm σ' H'=>mm=vt.length-t/\t<=vt.length/\H' p=some (.tup vt)/\∃ H0' G',Same Hb H0'/\PIv K H0' G' (u7 i k ρ) σ' H'/\∀ v,v∈vt->∃ l zs,v=.ref l/\H0' l=some (.lst zs)/\zs.length<=900+t,⟨_,rfl,Nat.zero_le _,Z2,H0,G,s,?_,hz⟩,?_⟩
   ·have sH:Same H (upd H p (.tup vt)):=fun b o q=>by rw [b9 (by rintro rfl; rw [hp] at q; cases q)]; exact q
    exact (I.ext ⟨Same.refl _,sH,I.gh.trans sH,fun _ _ _ _ q=>q⟩).zapped i k
   rintro t mm σ2 Hh ⟨rfl,ht,hpt,H0',G',s',I',hz'⟩
   by_cases hlt:t<vt.length
   ·refine .inr ⟨⟨vt,vt[t],SqT.of hpt,by simp⟩,fun σ' H'=>H' p=some (.tup vt)/\∃ H0' G',Same Hb H0'/\PIv K H0' G' (u7 i k ρ) σ' H'/\∀ v,v∈vt->∃ l zs,v=.ref l/\H0' l=some (.lst zs)/\zs.length<=900+(t+1),fun σ' H' zz83=>by obtain ⟨h1,h2⟩:=zz83; exact ⟨vt.length-(t+1),by omega,rfl,hlt,h1,h2⟩,fun x H' ⟨e1,e2⟩=>?_⟩
    subst e1
    have hx:=e2 vt (SqT.of hpt)
    obtain ⟨l,zs,rfl,hl0,hzl⟩:=hz' x (List.mem_of_getElem? hx)
    have hk2:k<σ2.length:=by
     rw [<- I'.len]; unfold u7; rw [List.length_set,List.length_set,List.length_map]; exact hk
    have eI:(u7 i k ρ).set k .un=u7 i k ρ:=by unfold u7; rw [List.set_set]
    have I2:PIv K H0' G' (u7 i k ρ) (σ2.set k (some (.ref l))) H':=by
     have:=I'.put (i:=k) (s:=.un) (o:=some (.ref l)) trivial fun _ q=>by cases q
     rwa [eI] at this
    refine ⟨.ref l,List.getElem?_set_self hk2,l,rfl,⟨zs,I'.hh _ _ hl0⟩,H0',G',_,I2,?_⟩
    revert o
    cases m (u7 i k ρ) with
    | stuck=>exact fun o=>o.elim
    | ex e=>exact fun o=>o.elim
    | ok w=>
     intro o y G1 H1 e1 m1
     have I3:=I2.ext e1
     have h1:=I3.hh l _ hl0
     dsimp only
     rw [h1]
     dsimp only
     refine ⟨Nat.lt_of_lt_of_le (by omega:zs.length<1000) (by decide),?_,?_⟩
     ·have hpl:p≠l:=by
       rintro rfl
       have:=e1.hh _ _ hpt
       rw [h1] at this; cases this
      rw [b9 hpl]; exact e1.hh _ _ hpt
     ·have I4:=I3.clean (vs':=zs ++ [y]) hl0
      rw [oC] at I4
      refine ⟨_,_,fun b ob q=>?_,I4,fun v hv=>?_⟩
      ·have hbl:b≠l:=by
        rintro rfl
        have:=s' _ _ q
        rw [hl0] at this
        cases this
        exact nb _ _ q
       rw [b9 hbl]; exact s' b ob q
      ·obtain ⟨l',zs',rfl,hl',hlen⟩:=hz' v hv
       by_cases q:l'=l
       ·subst q
        exact ⟨l',_,rfl,Z2,by rw [List.length_append,List.length_singleton]; omega⟩
       ·exact ⟨l',zs',rfl,by rw [b9 q]; exact hl',by omega⟩
   ·refine .inl ⟨⟨vt,SqT.of hpt,by omega⟩,?_⟩
    revert o
    cases m (u7 i k ρ) with
    | stuck=>exact fun o=>o.elim
    | ex e=>exact fun o=>o.elim
    | ok w=>exact fun o=>o H0' G' σ2 Hh s' I'
  ·rw [if_neg hc] at o; exact o.elim
 ·exact o.elim
end
section
variable {X:Cx} {K:Frag} {EX:EXT} {d:Mode} {e:Expr} {pos:Pos} {ma:Rho->R W}
theorem BL {i k:Nat} {x y:Str} {j1:Nat} {p0 p p1 p2 p3 p4 apos cpos pp:Pos} (hp:PassesOwn (model X.prog X.w) X.A X.env X.xe) (hc:X.calm=true) (hN:X.N.Nodup) (hi:X.N[i]?=some x) (hv:Vis X.env.scope x) (hk:X.N[k]?=some y) (hyl:Loc X.env.scope y) (hyv:Vis X.env.scope y) (ha:PE X e (tM K EX .V ma)) (hK:X.K=K:=by rfl)
  (hf:X.fn y=true\/X.env.scope.names.lookup y=some .local:=by first | exact .inl rfl | exact .inr rfl | assumption)
  (hd:(x == ("__debug__" : Str))=false:=by decide) (hcd:(x == ("__classdict__" : Str))=false:=by decide) (hyd:(y == ("__debug__" : Str))=false:=by decide) (hyc:(y == ("__classdict__" : Str))=false:=by decide)
  (hbase:attributeBase (.Name y p4) "append" X.env (eval (.Name y p4) X.env)=eval (.Name y p4) X.env:=by rfl)
  (hfew:((backTo cpos (starEach [e] X.env)).all (fun x=>!x.1)&&(backToKw cpos (keywordEach [] X.env)).all (fun x=>x.1.isSome)
   && decide (([e]:List Expr).length+([]:List Keyword).length+(if ([]:List Keyword).isEmpty then 0 else 1)<30))=true:=by rfl)
  (hline:(apos.endLine == cpos.line)=true:=by rfl) (hs:starEach [e] X.env=(false,eval e X.env)::starEach [] X.env:=by rfl) (hsw:swapsWith (.Call (.Attribute (.Name y p4) "append" apos) [e] [] cpos) none pp.line X.env=pure false:=by rfl)
  (hst:∀ z,foldedSetIterable (.Subscript (.Name x p) (.Slice (some (.Constant (.int 1) j1 p1)) none none p2) p3) X.env z=pure z:=by intro _; rfl) :
  PS X (.For (.Name y p0) (.Subscript (.Name x p) (.Slice (some (.Constant (.int 1) j1 p1)) none none p2) p3) [.Expr (.Call (.Attribute (.Name y p4) "append" apos) [e] [] cpos) pp] [] pos) (tStN K EX d (df i k ma)):=by
 subst hK
 exact (mE hp hc (yu (fX tu (M9 hi hv hd hcd) (iW pe_int) po_none)) (d4 hN hk hyl hf) (cW (cX (dL (M9 hk hyv hyd hyc) ha hbase hfew hline hs) hsw)) hst).mono fun _ _ _ q=>CC q
end
theorem qr {P:Program} {w:World} {K:Frag} {mg:Str->Option Value} {base:Heap} {k:Nat} {f:Addr} {fd:FuncData} {ps:List Str} {d:Mode} {F:List W->R W} (G:FnOk P w K mg base CX0 k f fd ps (jR K 1 d F))
  (h:∀ ns:List Int,ns.length<=63->(∀ x∈ns,Builtin.Int.intBits x<=1048576)->F [.scr (ns.map W.int)]=.ok (.bl true)):FnOk P w K mg base CX0 k f fd ps (fun vs H Q _=>∃ (a:Addr) (ns:List Int),vs = [.ref a]/\SqL K H a (ns.map V.int)/\ns.length<=63/\(∀ x∈ns,Builtin.Int.intBits x<=1048576)/\cO H/\∀ H',Q (.bl true) H'):=
 G.imp fun vs H Q E zz85=>by
  obtain ⟨a,ns,e,hs,hl,hi,hb,q⟩:=zz85
  subst e
  refine ⟨rfl,hb,rfl,[.scr (ns.map W.int)],.cons (.scr hs ?_) .nil,?_⟩
  ·clear hs hl hi
   induction ns with
   | nil=>exact .nil
   | cons n ns ih=>exact .cons .int ih
  ·rw [h ns hl hi]
   intro v G' H' _ _ _ m
   have e:v=.bl true:=by
    cases d <;> first | (cases m; rfl) | (rcases m with m | ⟨_,_,_,_,z,_⟩ <;> first | (cases m; rfl) | cases z)
   subst e
   exact q H'
end TP
namespace TP
open PySem L2
abbrev tI (ns:List Int):W:=.tup (ns.map W.int)
abbrev lI (ns:List Int):W:=.lst (ns.map W.int)
theorem E1 (ns:List Int):k9 (ns.map W.int)=true:=by
 induction ns with
 | nil=>rfl
 | cons n ns ih=>rw [List.map_cons]; simp only [k9,noL,ih,Bool.and_self]
theorem vM (n:Bool) (i j:Int):o9 n (.int i) (.int j)=.ok (.bl (if n then !decide (i=j) else decide (i=j))):=by
 show R.ok (W.bl (if n then !decide (V.int i=V.int j) else decide (V.int i=V.int j)))=_
 rw [show decide (V.int i=V.int j)=decide (i=j) from decide_eq_decide.mpr ⟨V.int.inj,congrArg _⟩]
theorem vN (n:Bool) (i j:Bool):o9 n (.bl i) (.bl j)=.ok (.bl (if n then !decide (i=j) else decide (i=j))):=by
 show R.ok (W.bl (if n then !decide (V.bl i=V.bl j) else decide (V.bl i=V.bl j)))=_
 rw [show decide (V.bl i=V.bl j)=decide (i=j) from decide_eq_decide.mpr ⟨V.bl.inj,congrArg _⟩]
theorem vI (n:Bool) (i j:Str):o9 n (.str i) (.str j)=.ok (.bl (if n then !decide (i=j) else decide (i=j))):=by
 show R.ok (W.bl (if n then !decide (V.str i=V.str j) else decide (V.str i=V.str j)))=_
 rw [show decide (V.str i=V.str j)=decide (i=j) from decide_eq_decide.mpr ⟨V.str.inj,congrArg _⟩]
theorem vJ (n:Bool):o9 n .non .non=.ok (.bl (!n)):=by cases n <;> rfl
theorem vK (n:Bool) (i:Int):o9 n .non (.int i)=.ok (.bl n):=by cases n <;> rfl
theorem vL (n:Bool) (i:Int):o9 n (.int i) .non=.ok (.bl n):=by cases n <;> rfl
theorem atW {ns:List Int} {i:Int} (h0:0<=i) (h1:i<ns.length):L2.atI (ns.map W.int) i=some (.int (ns.getD i.toNat 0)):=by
 unfold L2.atI
 rw [List.length_map,U7 h0 h1]
 show (ns.map W.int)[i.toNat]?=_
 rw [List.getElem?_map,J2 (by omega)]; rfl
theorem V7 {ws:List W} {k:Nat} {w:W} (h:ws[k]?=some w):L2.atI ws (k:Int)=some w:=by
 have hk:=(List.getElem?_eq_some_iff.mp h).1
 unfold L2.atI
 rw [U7 (by omega) (by omega),Int.toNat_natCast]
 exact h
def andThen (r:R Fl) (n:Rho->R Fl):R Fl:=r>>=fun f=>match f with
 | .nx ρ'=>n ρ'
 | .rt w=>.ok (.rt w)
 | .bk ρ'=>.ok (.bk ρ')
 | .ct ρ'=>.ok (.ct ρ')
theorem va (m n:Rho->R Fl) (ρ:Rho):c8 m n ρ=andThen (m ρ) n:=rfl
theorem kT (ρ:Rho) (n:Rho->R Fl):andThen (.ok (.nx ρ)) n=n ρ:=rfl
theorem kS (w:W) (n:Rho->R Fl):andThen (.ok (.rt w)) n=.ok (.rt w):=rfl
theorem kW (ρ:Rho) (n:Rho->R Fl):andThen (.ok (.bk ρ)) n=.ok (.bk ρ):=rfl
theorem kU (ρ:Rho) (n:Rho->R Fl):andThen (.ok (.ct ρ)) n=.ok (.ct ρ):=rfl
theorem Cj (w:W) (ρ:Rho):mC w ρ=.ok w:=rfl
theorem CZ (f:W->R W) (ma:Rho->R W) (ρ:Rho):b1 f ma ρ=(ma ρ>>=f):=rfl
def R2b (a b:R W) (f:W->W->R W):R W:=a>>=fun x=>b>>=fun y=>f x y
theorem CY (f:W->W->R W) (ma mb:Rho->R W) (ρ:Rho):b2 f ma mb ρ=R2b (ma ρ) (mb ρ) f:=rfl
theorem BB (x y:W) (f:W->W->R W):R2b (.ok x) (.ok y) f=f x y:=rfl
theorem CW (f:List W->R W) (ma:Rho->R (List W)) (ρ:Rho):bA f ma ρ=(ma ρ>>=f):=rfl
theorem CV (f:List W->R (List W)) (ma:Rho->R (List W)) (ρ:Rho):bI f ma ρ=(ma ρ>>=f):=rfl
theorem CU (ma:Rho->R W) (ρ:Rho):bS ma ρ=(ma ρ>>=u8):=rfl
theorem Df (ρ:Rho):aN ρ=.ok []:=rfl
def cN (a:R W) (b:R (List W)):R (List W):=a>>=fun x=>b>>=fun xs=>.ok (x::xs)
theorem Dg (ma:Rho->R W) (mr:Rho->R (List W)) (ρ:Rho):aC ma mr ρ=cN (ma ρ) (mr ρ):=rfl
theorem rA (x:W) (xs:List W):cN (.ok x) (.ok xs)=.ok (x::xs):=rfl
theorem wl (ma:Rho->R W) (ρ:Rho):bB ma ρ=(ma ρ>>=chk):=rfl
theorem ri (ma:Rho->R W) (ρ:Rho):f6 ma ρ=(ma ρ>>=toB):=rfl
theorem tj (a b:Rho->R Bool) (ρ:Rho):eR a b ρ=cV (a ρ) (b ρ):=rfl
theorem wL (a b:Rho->R Bool) (ρ:Rho):fw a b ρ=rOr (a ρ) (b ρ):=rfl
theorem tf (a:Rho->R Bool) (ρ:Rho):D3 a ρ=jU (a ρ):=rfl
theorem tZ (x y:Bool):cV (.ok x) (.ok y)=.ok (x&&y):=by cases x <;> rfl
theorem uc (r:R Bool):cV (.ok false) r=.ok false:=rfl
theorem tY (r:R Bool):cV (.ok true) r=r:=rfl
theorem xR (x y:Bool):rOr (.ok x) (.ok y)=.ok (x||y):=by cases x <;> rfl
theorem xQ (r:R Bool):rOr (.ok true) r=.ok true:=rfl
theorem xS (r:R Bool):rOr (.ok false) r=r:=rfl
theorem tU (x:Bool):jU (.ok x)=.ok (!x):=rfl
theorem sY (a b:Rho->R W) (ρ:Rho):fq a b ρ=aE (a ρ) (b ρ):=rfl
theorem wD (a b:Rho->R W) (ρ:Rho):vOr a b ρ=fN (a ρ) (b ρ):=rfl
theorem sW (a:Rho->R W) (ρ:Rho):oF a ρ=eT (a ρ):=rfl
theorem pG (x y:Bool):aE (.ok (.bl x)) (.ok (.bl y))=.ok (.bl (x&&y)):=by cases x <;> rfl
theorem pH (r:R W):aE (.ok (.bl false)) r=.ok (.bl false):=rfl
theorem pF (r:R W):aE (.ok (.bl true)) r=r:=rfl
theorem tR (x y:Bool):fN (.ok (.bl x)) (.ok (.bl y))=.ok (.bl (x||y)):=by cases x <;> rfl
theorem tQ (r:R W):fN (.ok (.bl true)) r=.ok (.bl true):=rfl
theorem tS (r:R W):fN (.ok (.bl false)) r=r:=rfl
theorem pE (x:Bool):eT (.ok (.bl x))=.ok (.bl (!x)):=rfl
def jV (c:R Bool) (a b:R W):R W:=c>>=fun t=>if t then a else b
theorem wE (c:Rho->R Bool) (a b:Rho->R W) (ρ:Rho):vIf c a b ρ=jV (c ρ) (a ρ) (b ρ):=rfl
theorem tV (a b:R W):jV (.ok true) a b=a:=rfl
theorem tX (a b:R W):jV (.ok false) a b=b:=rfl
theorem tW (t:Bool) (x y:W):jV (.ok t) (.ok x) (.ok y)=.ok (if t then x else y):=by cases t <;> rfl
def ip (f f':W->W->R W) (a b c:R W):R W:=a>>=fun x=>b>>=fun y=>f x y>>=fun z=>toB z>>=fun t=>if t then c>>=fun u=>f' y u else .ok (.bl false)
theorem lq (f f':W->W->R W) (ma mb mc:Rho->R W) (ρ:Rho):wF f f' ma mb mc ρ=ip f f' (ma ρ) (mb ρ) (mc ρ):=rfl
theorem ow (g g':Int->Int->Bool) (i j k:Int):ip (fI0 fun i j=>.bl (g i j)) (fI0 fun i j=>.bl (g' i j)) (.ok (.int i)) (.ok (.int j)) (.ok (.int k))=.ok (.bl (g i j&&g' j k)):=by
 unfold ip
 show (if g i j=true then _ else _)=_
 cases h:g i j <;> simp [fI0]
def kq (ws:List W):R W:=lim ws.length (.tup ws)
def ku (ws:List W):R W:=lim ws.length (.lst ws)
theorem sT (ma:Rho->R (List W)) (ρ:Rho):t6 ma ρ=(ma ρ>>=kq):=rfl
theorem sX (ma:Rho->R (List W)) (ρ:Rho):z8 ma ρ=(ma ρ>>=ku):=rfl
theorem Cb (ρ:Rho):pN ρ=.ok none:=rfl
theorem Ca (m:Rho->R W) (ρ:Rho):pS m ρ=(m ρ>>=eU):=rfl
theorem mK (i:Int):eU (.int i)=.ok (some i):=rfl
def Rsl (c:Bool) (x:R W) (l u:R (Option Int)):R W:=x>>=fun x=>l>>=fun l=>u>>=fun u=>toR (lstOf x)>>=fun ws=>chks c (G9 ws l u)
theorem wC (c:Bool) (m:Rho->R W) (ml mh:Rho->R (Option Int)) (ρ:Rho):vSl c m ml mh ρ=Rsl c (m ρ) (ml ρ) (mh ρ):=rfl
theorem wt (c:Bool) (ws:List W) (l u:Option Int):Rsl c (.ok (.lst ws)) (.ok l) (.ok u)=chks c (G9 ws l u):=rfl
theorem wq (c:Bool) (ws:List W) (l u:Option Int):Rsl c (.ok (.scr ws)) (.ok l) (.ok u)=chks c (G9 ws l u):=rfl
def sE (r:R (List W)) (n:Nat) (mg:W->Rho->Option Rho) (mc:Rho->R Bool) (me:Rho->R W) (ρ:Rho):R W:=r>>=fun ws=>k7 n mg mc me ws ρ
theorem oG (n:Nat) (mi:Rho->R (List W)) (mg:W->Rho->Option Rho) (mc:Rho->R Bool) (me:Rho->R W) (ρ:Rho):r9 n mi mg mc me ρ=sE (mi ρ) n mg mc me ρ:=rfl
theorem rB (ws:List W) (n:Nat) (mg:W->Rho->Option Rho) (mc:Rho->R Bool) (me:Rho->R W) (ρ:Rho):sE (.ok ws) n mg mc me ρ=k7 n mg mc me ws ρ:=rfl
theorem xc (ρ:Rho):sNx ρ=.ok (.nx ρ):=rfl
theorem xh (ρ:Rho):sBk ρ=.ok (.bk ρ):=rfl
theorem xf (ρ:Rho):sCt ρ=.ok (.ct ρ):=rfl
def sD (r:R W) (ρ:Rho):R Fl:=r>>=fun _=>.ok (.nx ρ)
theorem pc (m:Rho->R W) (ρ:Rho):BJ m ρ=sD (m ρ) ρ:=rfl
theorem rq (w:W) (ρ:Rho):sD (.ok w) ρ=.ok (.nx ρ):=rfl
def fL (w:W):R Fl:=.ok (.rt w)
theorem tG (m:Rho->R W) (ρ:Rho):f8 m ρ=(m ρ>>=fL):=rfl
theorem tP (w:W):fL w=.ok (.rt w):=rfl
theorem oZ (ρ:Rho):BG ρ=.ok (.rt .non):=rfl
def dD (r:R W) (f:W->Sl) (i:Nat) (ρ:Rho):R Fl:=r>>=fun w=>.ok (.nx (ρ.set i (f w)))
theorem BE (i:Nat) (m:Rho->R W) (ρ:Rho):sV i m ρ=dD (m ρ) Sl.val i ρ:=rfl
theorem BF (i:Nat) (m:Rho->R W) (ρ:Rho):sU i m ρ=dD (m ρ) Sl.par i ρ:=rfl
theorem BI (i:Nat) (m:Rho->R W) (ρ:Rho):sF i m ρ=dD (m ρ) M1 i ρ:=rfl
theorem wu (w:W) (f:W->Sl) (i:Nat) (ρ:Rho):dD (.ok w) f i ρ=.ok (.nx (ρ.set i (f w))):=rfl
theorem lL (ws:List W):M1 (.lst ws)=.own ws:=rfl
theorem lH (ws:List W):M1 (.tup ws)=.val (.tup ws):=rfl
theorem lN (i:Int):M1 (.int i)=.val (.int i):=rfl
theorem oT (i:Bool):M1 (.bl i)=.val (.bl i):=rfl
theorem lK:M1 .non=.val .non:=rfl
theorem lJ (i:Str):M1 (.str i)=.val (.str i):=rfl
def wI:Option Rho->R Fl
 | some ρ=>.ok (.nx ρ)
 | none=>.stuck
def BA (r:R W) (mg:W->Rho->Option Rho) (ρ:Rho):R Fl:=r>>=fun w=>toR (mg w ρ)>>=fun ρ'=>.ok (.nx ρ')
theorem BH (mg:W->Rho->Option Rho) (m:Rho->R W) (ρ:Rho):sG mg m ρ=BA (m ρ) mg ρ:=rfl
theorem wx (w:W) (mg:W->Rho->Option Rho) (ρ:Rho):BA (.ok w) mg ρ=wI (mg w ρ):=by
 show (toR (mg w ρ)>>=_)=_
 cases mg w ρ <;> rfl
theorem lD (ρ:Rho):wI (some ρ)=.ok (.nx ρ):=rfl
def Bx (r:R (List W)) (mg:W->Rho->Option Rho) (mb:Rho->R Fl) (ρ:Rho):R Fl:=r>>=fun ws=>z9 mg mb ws ρ
theorem tJ (mi:Rho->R (List W)) (mg:W->Rho->Option Rho) (mb:Rho->R Fl) (ρ:Rho):B0 mi mg mb ρ=Bx (mi ρ) mg mb ρ:=rfl
theorem wv (ws:List W) (mg:W->Rho->Option Rho) (mb:Rho->R Fl) (ρ:Rho):Bx (.ok ws) mg mb ρ=z9 mg mb ws ρ:=rfl
theorem tH (i:Nat) (m:Rho->R Fl) (ρ:Rho):Q0 i m ρ=m (frz i ρ):=rfl
def du:Option Sl->Nat->Rho->Rho
 | some (.own ws),i,ρ=>ρ.set i (.val (.lst ws))
 | _,_,ρ=>ρ
theorem zW (i:Nat) (ρ:Rho):frz i ρ=du (ρ[i]?) i ρ:=by
 unfold frz du
 rcases h:ρ[i]? with _ | s
 ·rfl
 ·cases s <;> rfl
theorem qP (ws:List W) (i:Nat) (ρ:Rho):du (some (.own ws)) i ρ=ρ.set i (.val (.lst ws)):=rfl
theorem qN (w:W) (i:Nat) (ρ:Rho):du (some (.val w)) i ρ=ρ:=rfl
theorem qO (w:W) (i:Nat) (ρ:Rho):du (some (.par w)) i ρ=ρ:=rfl
theorem vD (i:Nat) (ρ:Rho):du (some .un) i ρ=ρ:=rfl
def rdS (d:Mode):Option Sl->R W
 | some (.val w)=>(match d with | .F=>chk w | _=>.ok w)
 | some (.par w)=>(match d with | .F=>chk w | .V=>chk w | .C=>chk w | _=>.ok w)
 | some (.own ws)=>(match d with | .C=>.ok (.lst ws) | .B=>.ok (.lst ws) | _=>.stuck)
 | some (.iop _ ws)=>(match d with | .B=>.ok (.lst ws) | .U=>.ok (.lst ws) | _=>.stuck)
 | some (.hz w)=>(match d with | .B=>.ok w | .U=>.ok w | _=>.stuck)
 | _=>.stuck
theorem dg (d:Mode) (i:Nat) (ρ:Rho):a9 d i ρ=rdS d (ρ[i]?):=by
 unfold a9 rdS
 rfl
theorem xD (w:W):rdS .F (some (.val w))=chk w:=rfl
theorem xB (w:W):rdS .V (some (.val w))=.ok w:=rfl
theorem xC (w:W):rdS .U (some (.val w))=.ok w:=rfl
theorem xE (w:W):rdS .C (some (.val w))=.ok w:=rfl
theorem xF (w:W):rdS .B (some (.val w))=.ok w:=rfl
theorem xI (w:W):rdS .F (some (.par w))=chk w:=rfl
theorem xG (w:W):rdS .V (some (.par w))=chk w:=rfl
theorem xH (w:W):rdS .U (some (.par w))=.ok w:=rfl
theorem xJ (w:W):rdS .C (some (.par w))=chk w:=rfl
theorem xK (w:W):rdS .B (some (.par w))=.ok w:=rfl
theorem xL (ws:List W):rdS .C (some (.own ws))=.ok (.lst ws):=rfl
theorem xM (ws:List W):rdS .B (some (.own ws))=.ok (.lst ws):=rfl
def retS (d:Mode):Option Sl->R Fl
 | some (.own ws)=>.ok (.rt (.lst ws))
 | o=>rdS d o>>=fL
theorem kB (d:Mode) (i:Nat) (ρ:Rho):D0 d i ρ=retS d (ρ[i]?):=by
 unfold D0 retS
 rw [dg]
 rcases h:ρ[i]? with _ | s
 ·rfl
 ·cases s <;> rfl
theorem pv (d:Mode) (ws:List W):retS d (some (.own ws))=.ok (.rt (.lst ws)):=rfl
theorem pk (d:Mode) (w:W):retS d (some (.val w))=(rdS d (some (.val w))>>=fL):=rfl
theorem pq (d:Mode) (w:W):retS d (some (.par w))=(rdS d (some (.par w))>>=fL):=rfl
def ro (o:Option Sl) (r:R W) (i:Nat) (ρ:Rho):R Fl:=match o with
 | some (.own ws)=>r>>=fun w=>if ws.length<1000 then .ok (.nx (ρ.set i (.own (ws ++ [w])))) else .stuck
 | _=>.stuck
theorem ve (i:Nat) (m:Rho->R W) (ρ:Rho):L3 i m ρ=ro (ρ[i]?) (m ρ) i ρ:=rfl
theorem wn (ws:List W) (w:W) (i:Nat) (ρ:Rho):ro (some (.own ws)) (.ok w) i ρ=if ws.length<1000 then .ok (.nx (ρ.set i (.own (ws ++ [w])))) else .stuck:=rfl
def wU (o:Option Sl) (a b:R W) (i:Nat) (ρ:Rho):R Fl:=match o with
 | some (.own ws)=>b>>=fun w=>a>>=fun k=>(match k with
  | .int k=>(match ixN ws.length k with
   | some j=>.ok (.nx (ρ.set i (.own (ws.set j w))))
   | none=>.stuck)
  | _=>.stuck)
 | _=>.stuck
theorem uZ (i:Nat) (mk me:Rho->R W) (ρ:Rho):mSet i mk me ρ=wU (ρ[i]?) (mk ρ) (me ρ) i ρ:=rfl
def wV (o:Option Nat) (ws:List W) (w:W) (i:Nat) (ρ:Rho):R Fl:=match o with
 | some j=>.ok (.nx (ρ.set i (.own (ws.set j w))))
 | none=>.stuck
theorem tE (ws:List W) (w:W) (k:Int) (i:Nat) (ρ:Rho):wU (some (.own ws)) (.ok (.int k)) (.ok w) i ρ=wV (ixN ws.length k) ws w i ρ:=rfl
theorem lR (j:Nat) (ws:List W) (w:W) (i:Nat) (ρ:Rho):wV (some j) ws w i ρ=.ok (.nx (ρ.set i (.own (ws.set j w)))):=rfl
def Br (f:Int->Int->Int) (a b:R W) (i:Nat) (ρ:Rho):R Fl:=a>>=fun x=>b>>=fun y=>match x,y with
 | .int a,.int b=>.ok (.nx (ρ.set i (.val (.int (f a b)))))
 | _,_=>.stuck
theorem vd (i:Nat) (f:Int->Int->Int) (m:Rho->R W) (ρ:Rho):gL i f m ρ=Br f (rdS .B (ρ[i]?)) (m ρ) i ρ:=by
 rw [<- dg]; rfl
theorem wm (f:Int->Int->Int) (a b:Int) (i:Nat) (ρ:Rho):Br f (.ok (.int a)) (.ok (.int b)) i ρ=.ok (.nx (ρ.set i (.val (.int (f a b))))):=rfl
def ifS (c:R Bool) (m n:Rho->R Fl) (ρ:Rho):R Fl:=c>>=fun b=>if b then m ρ else n ρ
theorem yT (c:Rho->R Bool) (m n:Rho->R Fl) (ρ:Rho):mIf c m n ρ=ifS (c ρ) m n ρ:=rfl
theorem zL (m n:Rho->R Fl) (ρ:Rho):ifS (.ok true) m n ρ=m ρ:=rfl
theorem zM (m n:Rho->R Fl) (ρ:Rho):ifS (.ok false) m n ρ=n ρ:=rfl
def R0 (r:R Fl):R W:=r>>=fun f=>match f with
 | .rt w=>.ok w
 | .nx _=>.ok .non
 | _=>.stuck
theorem U1 {n N:Nat} {m:Rho->R Fl} {ws:List W} (h:ws.length=n):f7 n N m ws=R0 (m (ws.map Sl.par++List.replicate (N-n) Sl.un)):=by unfold f7; rw [if_pos h]; rfl
theorem xo {N:Nat} {m:Rho->R Fl} (a:W):f7 1 N m [a]=R0 (m (Sl.par a::List.replicate (N-1) Sl.un)):=U1 rfl
theorem xn {N:Nat} {m:Rho->R Fl} (a b:W):f7 2 N m [a,b]=R0 (m (Sl.par a::Sl.par b::List.replicate (N-2) Sl.un)):=U1 rfl
theorem xm {N:Nat} {m:Rho->R Fl} (a b c:W):f7 3 N m [a,b,c]=R0 (m (Sl.par a::Sl.par b::Sl.par c::List.replicate (N-3) Sl.un)):=U1 rfl
theorem xl {N:Nat} {m:Rho->R Fl} (a b c d:W):f7 4 N m [a,b,c,d]=R0 (m (Sl.par a::Sl.par b::Sl.par c::Sl.par d::List.replicate (N-4) Sl.un)):=U1 rfl
theorem xk {N:Nat} {m:Rho->R Fl} (a b c d e:W):f7 5 N m [a,b,c,d,e]=R0 (m (Sl.par a::Sl.par b::Sl.par c::Sl.par d::Sl.par e::List.replicate (N-5) Sl.un)):=U1 rfl
theorem vU (w:W):R0 (.ok (.rt w))=.ok w:=rfl
theorem vV (ρ:Rho):R0 (.ok (.nx ρ))=.ok .non:=rfl
theorem Ak (g:Int->Int->W) (i j:Int):fI0 g (.int i) (.int j)=.ok (g i j):=rfl
theorem fU_i (g:Int->W) (i:Int):fU g (.int i)=.ok (g i):=rfl
theorem Ct (ws:List W) (i:Int):fIx (.lst ws) (.int i)=toR (L2.atI ws i):=rfl
theorem Cr (ws:List W) (i:Int):fIx (.tup ws) (.int i)=toR (L2.atI ws i):=rfl
theorem Cs (ws:List W) (i:Int):fIx (.scr ws) (.int i)=toR (L2.atI ws i):=rfl
theorem oM {α:Type} (a:α):toR (some a)=.ok a:=rfl
theorem wJ (b:Bool):toB (.bl b)=.ok b:=rfl
theorem Ad (ws:List W):fLen [.lst ws]=.ok (.int ws.length):=rfl
theorem Ab (ws:List W):fLen [.tup ws]=.ok (.int ws.length):=rfl
theorem Ac (ws:List W):fLen [.scr ws]=.ok (.int ws.length):=rfl
theorem vF (c:Bool) (ws:List W):cD c [.lst ws]=chks c ws:=rfl
theorem vE (c:Bool) (ws:List W):cD c [.tup ws]=chks c ws:=rfl
theorem nG (c:Bool) (ws:List W):F4 c [.lst ws]=R4 c ws:=rfl
theorem zY (c:Bool) (ws:List W):F4 c [.tup ws]=R4 c ws:=rfl
theorem AK (ws:List W):chks true ws=.ok (.lst ws):=rfl
theorem AS (ws:List W):R4 true ws=.ok (.tup ws):=rfl
theorem dA {c:Bool} {ws:List W} (h:k9 ws=true):chks c ws=.ok (.lst ws):=by unfold chks; rw [h,Bool.or_true,if_pos rfl]
theorem dB {c:Bool} {ws:List W} (h:k9 ws=true):R4 c ws=.ok (.tup ws):=by unfold R4; rw [h,Bool.or_true,if_pos rfl]
theorem AN (c:Bool) (ns:List Int):chks c (ns.map W.int)=.ok (.lst (ns.map W.int)):=dA (E1 ns)
theorem nU (c:Bool) (ns:List Int):R4 c (ns.map W.int)=.ok (.tup (ns.map W.int)):=dB (E1 ns)
theorem B6 {w:W} (h:noL w=true):chk w=.ok w:=by unfold chk; rw [if_pos h]
theorem vY (i:Int):chk (.int i)=.ok (.int i):=rfl
theorem AR (i:Bool):chk (.bl i)=.ok (.bl i):=rfl
theorem vW (i:Str):chk (.str i)=.ok (.str i):=rfl
theorem vX:chk .non=.ok .non:=rfl
theorem AO (ns:List Int):chk (.tup (ns.map W.int))=.ok (.tup (ns.map W.int)):=B6 (E1 ns)
theorem Cv (g:Int->Int->Int) (i j:Int):f2 g [.int i,.int j]=.ok (.int (g i j)):=rfl
theorem wY (ws:List W):u8 (.lst ws)=.ok ws:=rfl
theorem wW (ws:List W):u8 (.tup ws)=.ok ws:=rfl
theorem wX (ws:List W):u8 (.scr ws)=.ok ws:=rfl
theorem xv (j:Int):J8 [.int j]=J7 0 j:=rfl
theorem xu (i j:Int):rng2 [.int i,.int j]=J7 i j:=rfl
theorem gN_U (i:Nat) (w:W) (ρ:Rho):gN .U i w ρ=some (ρ.set i (.par w)):=rfl
theorem gN_V (i:Nat) (w:W) (ρ:Rho):gN .V i w ρ=some (ρ.set i (.val w)):=rfl
theorem gT_t (n:Nat) (g:List W->Rho->Option Rho) (ws:List W) (ρ:Rho):gT n g (.tup ws) ρ=if ws.length=n then g ws ρ else none:=rfl
theorem qH (f:W->Rho->Option Rho) (g:List W->Rho->Option Rho) (w:W) (ws:List W) (ρ:Rho):l9 f g (w::ws) ρ=(f w ρ).bind (g ws):=rfl
theorem vx (ρ:Rho):gsNil [] ρ=some ρ:=rfl
theorem qf (ws:List W):kq ws=if ws.length<=1000 then .ok (.tup ws) else .stuck:=rfl
theorem qg (ws:List W):ku ws=if ws.length<=1000 then .ok (.lst ws) else .stuck:=rfl
theorem vG (x:W) (T:String):fIsi [x,.ty T]=(toR ((tyW x).bind fun A=>t8 A T)>>=fun b=>.ok (.bl b)):=rfl
theorem zj:t8 "NoneType" "tuple" = some false:=by decide
theorem zk:t8 "NoneType" "list" = some false:=by decide
theorem zn:t8 "list" "tuple" = some false:=by decide
theorem zd:t8 "tuple" "list" = some false:=by decide
theorem Ae (n:Bool) (u:W):aj n u .non=.ok (.bl (if n then !isN u else isN u)):=rfl
theorem qk {f:W->R (Option W)} {α:Type} (g:α->W) (s:α->W):∀ (as:List α),(∀ a∈as,f (s a)=.ok (some (g a)))->mapR f (as.map s)=.ok (as.map g):=by
 intro as
 induction as with
 | nil=>exact fun _=>rfl
 | cons a as ih=>
  intro h
  rw [List.map_cons,mapR,h a List.mem_cons_self,ih fun b hb=>h b (List.mem_cons_of_mem _ hb)]
  rfl
theorem iF {f:W->R (Option W)} {α:Type} (g:α->W) (s:α->W) (c:α->Bool):∀ (as:List α),(∀ a∈as,f (s a)=.ok (if c a then some (g a) else none))->mapR f (as.map s)=.ok ((as.filter c).map g):=by
 intro as
 induction as with
 | nil=>exact fun _=>rfl
 | cons a as ih=>
  intro h
  rw [List.map_cons,mapR,h a List.mem_cons_self,ih fun b hb=>h b (List.mem_cons_of_mem _ hb),List.filter_cons]
  cases c a <;> rfl
theorem n6 {N':Nat} {mg:W->Rho->Option Rho} {me:Rho->R W} {α:Type} (g:α->W) (s:α->W) (as:List α) (ρ:Rho) (hl:as.length<=1000)
  (h:∀ a∈as,∃ ρ1,mg (s a) (ρ++List.replicate (N'-ρ.length) Sl.un)=some ρ1/\me ρ1=.ok (g a)):k7 N' mg yes me (as.map s) ρ=.ok (.lst (as.map g)):=by
 unfold k7
 rw [List.length_map,if_pos hl,qk g s as]
 intro a ha
 obtain ⟨ρ1,e1,e2⟩:=h a ha
 unfold elR
 rw [e1]
 have hy:yes ρ1=.ok true:=rfl
 dsimp only
 rw [hy]
 dsimp only
 rw [e2]
theorem Q4 {N':Nat} {mg:W->Rho->Option Rho} {mc:Rho->R Bool} {me:Rho->R W} {α:Type} (g:α->W) (s:α->W) (c:α->Bool) (as:List α) (ρ:Rho) (hl:as.length<=1000)
  (h:∀ a∈as,∃ ρ1,mg (s a) (ρ++List.replicate (N'-ρ.length) Sl.un)=some ρ1/\mc ρ1=.ok (c a)/\(c a=true->me ρ1=.ok (g a))):k7 N' mg mc me (as.map s) ρ=.ok (.lst ((as.filter c).map g)):=by
 unfold k7
 rw [List.length_map,if_pos hl,iF g s c as]
 intro a ha
 obtain ⟨ρ1,e1,e2,e3⟩:=h a ha
 unfold elR
 rw [e1]
 dsimp only
 rw [e2]
 cases hc:c a with
 | false=>rfl
 | true=>dsimp only; rw [e3 hc]; rfl
theorem pj {z:Int} (h0:-1000000<=z) (h:z<=1000000):J7 0 z=.ok ((List.range z.toNat).map fun k=>W.int (k:Nat)):=by
 unfold J7
 rw [if_pos (by omega)]
 simp
theorem U2 {n i:Nat} {w:W} (h:((List.range n).map fun k=>W.int (k:Nat))[i]?=some w):i<n/\w=.int (i:Nat):=by
 rw [List.getElem?_map] at h
 cases q:(List.range n)[i]? with
 | none=>rw [q] at h; cases h
 | some k=>
  rw [q] at h
  obtain ⟨h1,h2⟩:=List.getElem?_eq_some_iff.mp q
  simp at h1 h2
  subst h2
  cases h
  exact ⟨h1,rfl⟩
def kN (xs:List Int) (lo hi:Option Int):List Int:=(xs.drop (HT.sIx xs.length 0 lo)).take (HT.sIx xs.length xs.length hi-HT.sIx xs.length 0 lo)
theorem AD (ns:List Int) (lo hi:Option Int):G9 (ns.map W.int) lo hi=(kN ns lo hi).map W.int:=by
 unfold G9 kN
 rw [List.length_map,<- List.map_drop,<- List.map_take]
theorem wT (ns:List Int) (j:Nat) (z:Int):(ns.map W.int).set j (.int z)=(ns.set j z).map W.int:=by rw [List.map_set]
theorem Bt (ns:List Int) (z:Int):ns.map W.int ++ [.int z]=(ns ++ [z]).map W.int:=by rw [List.map_append]; rfl
theorem xA (k:Nat) (z:Int):(List.replicate k [W.int z]).flatten=(List.replicate k z).map W.int:=by
 induction k with
 | zero=>rfl
 | succ k ih=>rw [List.replicate_succ,List.flatten_cons,ih,List.replicate_succ,List.map_cons]; rfl
theorem kA {α:Type} (as:List α) (f:α->Int):(as.map fun a=>W.int (f a))=(as.map f).map W.int:=by rw [List.map_map]; rfl
theorem fm {n k:Nat} {f:Nat->Int} (h:k<n):((List.range n).map f).getD k 0=f k:=by
 rw [List.getD_eq_getElem?_getD,List.getElem?_map]
 simp [h]
theorem ay {a b:List Int} (h:b.length=a.length):(aX [a.map W.int,b.map W.int]).map W.tup=(List.range a.length).map fun k=>W.tup [.int (a.getD k 0),.int (b.getD k 0)]:=by
 apply List.ext_getElem?
 intro i
 simp only [aX,List.getElem?_map,List.getElem?_zipWith]
 by_cases hi:i<a.length
 ·rw [J2 hi,J2 (ns:=b) (by omega)]; simp [hi]
 ·simp [hi]
theorem sP {a b c:List Int} (h:b.length=a.length) (h':c.length=a.length):(aX [a.map W.int,b.map W.int,c.map W.int]).map W.tup=(List.range a.length).map fun k=>W.tup [.int (a.getD k 0),.int (b.getD k 0),.int (c.getD k 0)]:=by
 apply List.ext_getElem?
 intro i
 simp only [aX,List.getElem?_map,List.getElem?_zipWith,List.zip]
 by_cases hi:i<a.length
 ·rw [J2 hi,J2 (ns:=b) (by omega),J2 (ns:=c) (by omega)]; simp [hi]
 ·simp [hi]
theorem bD (x y:W) (xs ys:List W) (hx:u8 x=.ok xs) (hy:u8 y=.ok ys):F9 [x,y]=.ok ((aX [xs,ys]).map W.tup):=by
 unfold F9
 simp only [List.length_cons,List.length_nil,O1,hx,hy,Nat.reduceAdd,true_or,if_true]
theorem wy (x y z:W) (xs ys zs:List W) (hx:u8 x=.ok xs) (hy:u8 y=.ok ys) (hz:u8 z=.ok zs):F9 [x,y,z]=.ok ((aX [xs,ys,zs]).map W.tup):=by
 unfold F9
 simp only [List.length_cons,List.length_nil,O1,hx,hy,hz,Nat.reduceAdd,or_true,if_true]
theorem Ci {i j:Int} (h:-18446744073709551616<i/\i<18446744073709551616):fI CMul t9 (.int i) (.int j)=.ok (.int (i*j)):=by
 show (if CMul i j then _ else _)=_
 rw [if_pos (.inl (by simpa using h))]
theorem Ch {i j:Int} (h:-18446744073709551616<j/\j<18446744073709551616):fI CMul t9 (.int i) (.int j)=.ok (.int (i*j)):=by
 show (if CMul i j then _ else _)=_
 rw [if_pos (.inr (by simpa using h))]
theorem yR {i j:Int} (h:0<j):fI l4 m5 (.int i) (.int j)=.ok (.int (i%j)):=by
 show (if l4 i j then _ else _)=_
 rw [if_pos h]
theorem div_ii {i j:Int} (h:0<j/\j<1073741824):fI B8 G7 (.int i) (.int j)=.ok (.int (i/j)):=by
 show (if B8 i j then _ else _)=_
 rw [if_pos (show B8 i j from h)]
theorem yq {i j:Int} (h:0<=j/\j<=1000000 /\ -18446744073709551616<i/\i<18446744073709551616):fI bC qJ (.int i) (.int j)=.ok (.int (i^j.toNat)):=by
 show (if bC i j then _ else _)=_
 rw [if_pos ⟨h.1,h.2.1,by omega⟩]
theorem Bu {ws:List W} {w:W} {i:Nat} {ρ:Rho} (h:ws.length<1000):ro (some (.own ws)) (.ok w) i ρ=.ok (.nx (ρ.set i (.own (ws ++ [w])))):=by rw [wn,if_pos h]
theorem uV {ws:List W} (h:ws.length<=1000):kq ws=.ok (.tup ws):=by rw [qf,if_pos h]
theorem uW {ws:List W} (h:ws.length<=1000):ku ws=.ok (.lst ws):=by rw [qg,if_pos h]
theorem nJ {c:Bool} {us vs:List W} (h:us.length+vs.length<=1000):dw c (.lst us) (.lst vs)=chks c (us++vs):=by
 show (if us.length+vs.length<=1000 then _ else _)=_
 rw [if_pos h]
theorem Aa {c:Bool} {z:W} {k:Int} (h:0<=k/\k<=1000):fRep c (.lst [z]) (.int k)=chks c (List.replicate k.toNat [z]).flatten:=by
 show (if [z].length*k.toNat<=1000 /\ -1000<=k/\k<=1000 then _ else _)=_
 rw [if_pos ⟨by simp only [List.length_cons,List.length_nil]; omega,by omega,h.2⟩]
theorem Da {ns:List Int} {i:Int} (h:0<=i/\i<ns.length):L2.atI (ns.map W.int) i=some (.int (ns.getD i.toNat 0)):=atW h.1 h.2
theorem Cl {n:Nat} {i:Int} (h:0<=i/\i<n):ixN n i=some i.toNat:=U7 h.1 h.2
theorem xr {z:Int} (h:-1000000<=z/\z<=1000000):J7 0 z=.ok ((List.range z.toNat).map fun k=>W.int (k:Nat)):=pj h.1 h.2
def Ok (r:R W) (P:W->Prop):Prop:=∃ w,r=.ok w/\P w
def Po (r:R Fl) (Jn:Rho->Prop) (Jr:W->Prop):Prop:=match r with
 | .ok (.nx ρ)=>Jn ρ
 | .ok (.rt w)=>Jr w
 | _=>False
theorem o6 {r:R Fl} {P:W->Prop} (h:Po r (fun _=>P .non) P):Ok (R0 r) P:=by
 cases r with
 | ex _=>exact h.elim
 | stuck=>exact h.elim
 | ok f=>cases f with
  | nx ρ=>exact ⟨_,rfl,h⟩
  | rt w=>exact ⟨_,rfl,h⟩
  | bk _=>exact h.elim
  | ct _=>exact h.elim
theorem M8 {r:R Fl} {n:Rho->R Fl} {Jn:Rho->Prop} {Jr:W->Prop} (h:Po r (fun ρ=>Po (n ρ) Jn Jr) Jr):Po (andThen r n) Jn Jr:=by
 cases r with
 | ex _=>exact h.elim
 | stuck=>exact h.elim
 | ok f=>cases f with
  | nx ρ=>exact h
  | rt w=>exact h
  | bk _=>exact h.elim
  | ct _=>exact h.elim
theorem BU {ρ:Rho} {Jn:Rho->Prop} {Jr:W->Prop}:Po (.ok (.nx ρ)) Jn Jr=Jn ρ:=rfl
theorem BT {w:W} {Jn:Rho->Prop} {Jr:W->Prop}:Po (.ok (.rt w)) Jn Jr=Jr w:=rfl
theorem C0 {b:Bool} {m n:Rho->R Fl} {ρ:Rho} {Jn:Rho->Prop} {Jr:W->Prop} (h1:b=true->Po (m ρ) Jn Jr) (h2:b=false->Po (n ρ) Jn Jr):Po (ifS (.ok b) m n ρ) Jn Jr:=by
 cases b with
 | true=>exact h1 rfl
 | false=>exact h2 rfl
theorem bP {b:Bool} {m n:Rho->R Fl} {ρ:Rho} {k:Rho->R Fl} {Jn:Rho->Prop} {Jr:W->Prop} (h1:b=true->Po (andThen (m ρ) k) Jn Jr) (h2:b=false->Po (andThen (n ρ) k) Jn Jr):Po (andThen (ifS (.ok b) m n ρ) k) Jn Jr:=by
 cases b with
 | true=>exact h1 rfl
 | false=>exact h2 rfl
theorem Po.mono {r:R Fl} {Jn Jn':Rho->Prop} {Jr Jr':W->Prop} (h:Po r Jn Jr) (h1:∀ ρ,Jn ρ->Jn' ρ) (h2:∀ w,Jr w->Jr' w):Po r Jn' Jr':=by
 cases r with
 | ex _=>exact h
 | stuck=>exact h
 | ok f=>cases f with
  | nx ρ=>exact h1 ρ h
  | rt w=>exact h2 w h
  | bk _=>exact h
  | ct _=>exact h
theorem mG {mg:W->Rho->Option Rho} {mb:Rho->R Fl} {Jr:W->Prop} (I:Nat->Rho->Prop):∀ (ws:List W) (k:Nat) (ρ:Rho),I k ρ ->
  (∀ (i:Nat) (w:W) (ρ:Rho),ws[i]?=some w->I (k+i) ρ->∃ ρ1,mg w ρ=some ρ1/\Po (mb ρ1) (I (k+i+1)) Jr)->Po (z9 mg mb ws ρ) (I (k+ws.length)) Jr:=by
 intro ws
 induction ws with
 | nil=>exact fun k ρ h _=>h
 | cons w ws ih=>
  intro k ρ h st
  obtain ⟨ρ1,e1,p⟩:=st 0 w ρ rfl h
  unfold z9
  rw [e1]
  show Po (mb ρ1>>=_) _ _
  revert p
  cases mb ρ1 with
  | ex _=>exact fun p=>p.elim
  | stuck=>exact fun p=>p.elim
  | ok f=>cases f with
   | bk _=>exact fun p=>p.elim
   | ct _=>exact fun p=>p.elim
   | rt w=>exact fun p=>p
   | nx ρ2=>
    intro p
    have:=ih (k+1) ρ2 p fun i w ρ hw hp=>by
     have:=st (i+1) w ρ hw (by rw [<- Nat.succ_add_eq_add_succ k i]; exact hp)
     rw [<- Nat.succ_add_eq_add_succ k i] at this
     exact this
    rw [List.length_cons,<- Nat.succ_add_eq_add_succ k ws.length]
    exact this
theorem fV {mg:W->Rho->Option Rho} {mb:Rho->R Fl} {ws:List W} {ρ:Rho} {Jn:Rho->Prop} {Jr:W->Prop} (I:Nat->Rho->Prop) (h0:I 0 ρ)
  (st:∀ (i:Nat) (w:W) (ρ:Rho),ws[i]?=some w->I i ρ->∃ ρ1,mg w ρ=some ρ1/\Po (mb ρ1) (I (i+1)) Jr) (hn:∀ ρ,I ws.length ρ->Jn ρ):Po (z9 mg mb ws ρ) Jn Jr:=by
 have:=mG (mg:=mg) (mb:=mb) (Jr:=Jr) I ws 0 ρ h0 fun i w ρ hw hp=>by rw [Nat.zero_add] at hp ⊢; exact st i w ρ hw hp
 rw [Nat.zero_add] at this
 exact this.mono hn fun _ h=>h
theorem p9 {mg:W->Rho->Option Rho} {mb n:Rho->R Fl} {ws:List W} {ρ:Rho} {Jn:Rho->Prop} {Jr:W->Prop} (I:Nat->Rho->Prop) (h0:I 0 ρ)
  (st:∀ (i:Nat) (w:W) (ρ:Rho),ws[i]?=some w->I i ρ->∃ ρ1,mg w ρ=some ρ1/\Po (mb ρ1) (I (i+1)) Jr) (hn:∀ ρ,I ws.length ρ->Po (n ρ) Jn Jr):Po (andThen (z9 mg mb ws ρ) n) Jn Jr:=M8 (fV I h0 st hn)
theorem W8 {c:Rho->R Bool} {b:Rho->R Fl} {Jn:Rho->Prop} {Jr:W->Prop} (I:Nat->Rho->Prop)
  (st:∀ m ρ,I m ρ->∃ t,c ρ=.ok t/\if t=true then Po (b ρ) (fun ρ'=>∃ m',m'<m/\I m' ρ') Jr else Jn ρ):∀ (m:Nat) (ρ:Rho),I m ρ->Po (F7 c b ρ) Jn Jr:=by
 have key:∀ (m:Nat) (ρ:Rho),I m ρ->∃ r,D5 c b (m+1) ρ=some r/\Po r Jn Jr:=by
  intro m
  induction m using Nat.strongRecOn with
  | ind m ih=>
   intro ρ h
   obtain ⟨t,e,q⟩:=st m ρ h
   unfold D5
   rw [e]
   cases t with
   | false=>rw [if_neg Bool.false_ne_true] at q; exact ⟨_,rfl,q⟩
   | true=>
    rw [if_pos rfl] at q
    dsimp only
    revert q
    cases b ρ with
    | ex _=>exact fun q=>q.elim
    | stuck=>exact fun q=>q.elim
    | ok f=>cases f with
     | bk _=>exact fun q=>q.elim
     | ct _=>exact fun q=>q.elim
     | rt w=>exact fun q=>⟨_,rfl,q⟩
     | nx ρ'=>
      intro ⟨m',hm,h'⟩
      obtain ⟨r,e',q'⟩:=ih m' hm ρ' h'
      exact ⟨r,X2 (m'+1) ρ' r e' m (by omega),q'⟩
 intro m ρ h
 obtain ⟨r,e,q⟩:=key m ρ h
 rw [dS e]
 exact q
theorem je {f:W->R (Option W)} {α:Type} (s:α->W) (p:α->Int->Prop):∀ (as:List α),(∀ a∈as,∃ z,f (s a)=.ok (some (.int z))/\p a z)->∃ zs:List Int,mapR f (as.map s)=.ok (zs.map W.int)/\Paired p as zs
 | [],_=>⟨[],rfl,.nil⟩
 | a::as,h=>by
  obtain ⟨z,e,hz⟩:=h a (by simp)
  obtain ⟨zs,e2,hp⟩:=je s p as fun b hb=>h b (by simp [hb])
  refine ⟨z::zs,?_,.cons hz hp⟩
  rw [List.map_cons,mapR,e,e2]; rfl
theorem kC {N':Nat} {mg:W->Rho->Option Rho} {me:Rho->R W} {α:Type} {as:List α} {s:α->W} {ρ:Rho} (p:α->Int->Prop) (hl:as.length<=1000)
  (h:∀ a∈as,∃ ρ1,mg (s a) (ρ++List.replicate (N'-ρ.length) Sl.un)=some ρ1/\Ok (me ρ1) fun w=>∃ z,w=.int z/\p a z):∃ zs:List Int,k7 N' mg yes me (as.map s) ρ=.ok (lI zs)/\Paired p as zs:=by
 obtain ⟨zs,e,hp⟩:=je (f:=elR mg yes me (ρ++List.replicate (N'-ρ.length) Sl.un)) s p as fun a ha=>by
  obtain ⟨ρ1,e1,w,e2,z,rfl,hz⟩:=h a ha
  refine ⟨z,?_,hz⟩
  unfold elR
  rw [e1]
  have hy:yes ρ1=.ok true:=rfl
  dsimp only
  rw [hy]
  dsimp only
  rw [e2]
 refine ⟨zs,?_,hp⟩
 unfold k7
 rw [List.length_map,if_pos hl,e]
theorem fY {n:Nat} {p:Nat->Int->Prop} {zs:List Int} (h:Paired p (List.range n) zs):zs.length=n/\∀ k,k<n->p k (zs.getD k 0):=by
 have hl:(List.range n).length=zs.length:=Paired.length h
 rw [List.length_range] at hl
 refine ⟨hl.symm,fun k hk=>?_⟩
 have key:∀ (l:List Nat) (zs:List Int) (k:Nat) (a:Nat),Paired p l zs->l[k]?=some a->p a (zs.getD k 0):=by
  intro l
  induction l with
  | nil=>intro zs k a _ e; simp at e
  | cons b l ih=>
   intro zs k a q e
   cases q with
   | cons h1 h2=>
    cases k with
    | zero=>simp at e; subst e; exact h1
    | succ k=>simp at e; simpa using ih _ k a h2 e
 exact key _ zs k k h (by simp [hk])
def OkL (r:R (List W)) (P:List W->Prop):Prop:=∃ w,r=.ok w/\P w
theorem yr {r:R W} {f:W->Sl} {i:Nat} {ρ:Rho} {Jn:Rho->Prop} {Jr:W->Prop} (h:Ok r fun w=>Jn (ρ.set i (f w))):Po (dD r f i ρ) Jn Jr:=by
 obtain ⟨w,rfl,q⟩:=h; exact q
theorem ul {r:R W} {f:W->Sl} {i:Nat} {ρ:Rho} {n:Rho->R Fl} {Jn:Rho->Prop} {Jr:W->Prop} (h:Ok r fun w=>Po (n (ρ.set i (f w))) Jn Jr):Po (andThen (dD r f i ρ) n) Jn Jr:=M8 (yr h)
theorem pW {r:R (List W)} {f:List W->R W} {P:W->Prop} (h:OkL r fun w=>Ok (f w) P):Ok (r>>=f) P:=by
 obtain ⟨w,rfl,q⟩:=h; exact q
theorem Ce {a:R W} {xs:List W} {P:List W->Prop} (h:Ok a fun x=>P (x::xs)):OkL (cN a (.ok xs)) P:=by
 obtain ⟨w,rfl,q⟩:=h; exact ⟨_,rfl,q⟩
theorem uG {N':Nat} {mg:W->Rho->Option Rho} {me:Rho->R W} {α:Type} {as:List α} {s:α->W} {ρ:Rho} {P:W->Prop} (p:α->Int->Prop) (hl:as.length<=1000)
  (h:∀ a∈as,∃ ρ1,mg (s a) (ρ++List.replicate (N'-ρ.length) Sl.un)=some ρ1/\Ok (me ρ1) fun w=>∃ z,w=.int z/\p a z) (hp:∀ zs,Paired p as zs->P (lI zs)):Ok (k7 N' mg yes me (as.map s) ρ) P:=by
 obtain ⟨zs,e,q⟩:=kC (mg:=mg) (me:=me) (ρ:=ρ) (N':=N') p hl h
 exact ⟨_,e,hp zs q⟩
theorem pV {N':Nat} {mg:W->Rho->Option Rho} {me:Rho->R W} {α:Type} {as:List α} {s:α->W} {ρ:Rho} {P:W->Prop} {c:Bool} (p:α->Int->Prop) (hl:as.length<=1000)
  (h:∀ a∈as,∃ ρ1,mg (s a) (ρ++List.replicate (N'-ρ.length) Sl.un)=some ρ1/\Ok (me ρ1) fun w=>∃ z,w=.int z/\p a z) (hp:∀ zs,Paired p as zs->P (tI zs)):Ok (cN (k7 N' mg yes me (as.map s) ρ) (.ok [])>>=F4 c) P:=
 pW (Ce (uG p hl h fun zs q=>⟨_,by rw [nG,nU],hp zs q⟩))
theorem mP {N' n:Nat} {mg:W->Rho->Option Rho} {me:Rho->R W} {ρ:Rho} {P:W->Prop} {c:Bool} (p:Nat->Int->Prop) (hl:n<=1000)
  (h:∀ k,k<n->∃ ρ1,mg (.int (k:Nat)) (ρ++List.replicate (N'-ρ.length) Sl.un)=some ρ1/\Ok (me ρ1) fun w=>∃ z,w=.int z/\p k z)
  (hp:∀ zs:List Int,zs.length=n->(∀ k,k<n->p k (zs.getD k 0))->P (tI zs)):Ok (cN (k7 N' mg yes me ((List.range n).map fun k=>W.int (k:Nat)) ρ) (.ok [])>>=F4 c) P:=
 pV p (by simpa using hl) (fun a ha=>h a (by simpa using ha)) fun zs q=>let ⟨a,b⟩:=fY q; hp zs a b
theorem qL (i j:Int):T8 i j=max i j:=by unfold T8; omega
theorem qK (i j:Int):zQ i j=min i j:=by unfold zQ; omega
def oW:Option Int->W
 | none=>.non
 | some i=>.int i
theorem oW_n:oW none=.non:=rfl
theorem oW_s (i:Int):oW (some i)=.int i:=rfl
theorem mU (o:Option Int):noL (oW o)=true:=by cases o <;> rfl
theorem AQ (o:Option Int):chk (oW o)=.ok (oW o):=B6 (mU o)
theorem bj {α:Type} (f:α->W) (h:∀ a,noL (f a)=true) (as:List α):k9 (as.map f)=true:=by
 induction as with
 | nil=>rfl
 | cons a as ih=>rw [List.map_cons]; simp only [k9,h,ih,Bool.and_self]
theorem db (cs:List (Option Int)):k9 (cs.map oW)=true:=bj oW mU cs
theorem AM (c:Bool) (cs:List (Option Int)):chks c (cs.map oW)=.ok (.lst (cs.map oW)):=dA (db cs)
theorem AU (c:Bool) (cs:List (Option Int)):R4 c (cs.map oW)=.ok (.tup (cs.map oW)):=dB (db cs)
theorem zC (o:Option Int):isN (oW o)=o.isNone:=by cases o <;> rfl
theorem oS (o:Option Int):M1 (oW o)=.val (oW o):=by cases o <;> rfl
theorem ik {α:Type} (f:α->W) {as:List α} {d:α} {i:Int} (h:0<=i/\i<as.length):L2.atI (as.map f) i=some (f (as.getD i.toNat d)):=by
 unfold L2.atI
 rw [List.length_map,U7 h.1 h.2]
 show (as.map f)[i.toNat]?=_
 have hi:i.toNat<as.length:=by omega
 rw [List.getElem?_map,List.getD_eq_getElem?_getD]
 simp [hi]
theorem De {cs:List (Option Int)} {i:Int} (h:0<=i/\i<cs.length):L2.atI (cs.map oW) i=some (oW (cs.getD i.toNat none)):=ik oW h
theorem appO (cs:List (Option Int)) (o:Option Int):cs.map oW ++ [oW o]=(cs ++ [o]).map oW:=by rw [List.map_append]; rfl
theorem pC {n i:Nat} {f:Nat->W} {w:W} (h:((List.range n).map f)[i]?=some w):i<n/\w=f i:=by
 rw [List.getElem?_map] at h
 cases q:(List.range n)[i]? with
 | none=>rw [q] at h; cases h
 | some k=>
  rw [q] at h
  obtain ⟨h1,h2⟩:=List.getElem?_eq_some_iff.mp q
  simp at h1 h2
  subst h2
  cases h
  exact ⟨h1,rfl⟩
theorem E2 (ns:List Int):noL (tI ns)=true:=E1 ns
theorem bY (ss:List (List Int)):k9 (ss.map tI)=true:=bj tI E2 ss
theorem AL (c:Bool) (ss:List (List Int)):chks c (ss.map tI)=.ok (.lst (ss.map tI)):=dA (bY ss)
theorem AT (c:Bool) (ss:List (List Int)):R4 c (ss.map tI)=.ok (.tup (ss.map tI)):=dB (bY ss)
theorem Db {ss:List (List Int)} {i:Int} (h:0<=i/\i<ss.length):L2.atI (ss.map tI) i=some (tI (ss.getD i.toNat [])):=ik tI h
theorem Bs (ss:List (List Int)) (s:List Int):ss.map tI ++ [tI s]=(ss ++ [s]).map tI:=by rw [List.map_append]; rfl
def qW {α:Type} (xs:List α) (lo hi:Option Int):List α:=(xs.drop (HT.sIx xs.length 0 lo)).take (HT.sIx xs.length xs.length hi-HT.sIx xs.length 0 lo)
theorem qV {α:Type} (f:α->W) (as:List α) (lo hi:Option Int):G9 (as.map f) lo hi=(qW as lo hi).map f:=by
 unfold G9 qW
 rw [List.length_map,<- List.map_drop,<- List.map_take]
theorem AB (ss:List (List Int)) (lo hi:Option Int):G9 (ss.map tI) lo hi=(qW ss lo hi).map tI:=qV tI ss lo hi
theorem AV (ss ts:List (List Int)):ss.map tI++ts.map tI=(ss++ts).map tI:=by rw [List.map_append]
theorem AW (ss ts:List Int):ss.map W.int++ts.map W.int=(ss++ts).map W.int:=by rw [List.map_append]
theorem xt {lo hi:Int} (h:-1000000<=lo/\lo<=1000000 /\ -1000000<=hi/\hi<=1000000):J7 lo hi=.ok ((List.range (hi-lo).toNat).map fun k=>W.int (lo+(k:Nat))):=by
 unfold J7
 rw [if_pos h]
theorem eqv_refl:∀ w:W,PyData.eqv (pd w) (pd w)=true:=by
 intro w
 refine W.rec (motive_1:=fun w=>PyData.eqv (pd w) (pd w)=true) (motive_2:=fun ws=>PyData.eqvAll (pds ws) (pds ws)=true) ?_ ?_ ?_ ?_ ?_ ?_ ?_ ?_ ?_ ?_ ?_ ?_ w
 ·rfl
 ·intro b; cases b <;> rfl
 ·intro b; exact beq_self_eq_true b
 ·intro b; exact beq_self_eq_true b
 ·intro b; rfl
 ·exact fun ws h=>h
 ·exact fun ws h=>h
 ·exact fun ws h=>h
 ·intro b c; rfl
 ·intro b; rfl
 ·rfl
 ·intro w ws h1 h2; exact (Bool.and_eq_true _ _).mpr ⟨h1,h2⟩
theorem qS (w:W):eqW w w=true:=eqv_refl w
theorem W3 {α:Type} (f:α->W) (n:Nat) (h:∀ a,shp n (f a)=true) (as:List α):N2 n (as.map f)=true:=by
 induction as with
 | nil=>rfl
 | cons a as ih=>rw [List.map_cons]; simp only [N2,h,ih,Bool.and_self]
theorem K8 (n:Nat) (i:Int):shp n (.int i)=true:=by cases n <;> rfl
theorem lP (n:Nat) (b:Bool):shp n (.bl b)=true:=by cases n <;> rfl
theorem bJ (n:Nat) (ns:List Int):shp (n+1) (tI ns)=true:=W3 W.int n (K8 n) ns
theorem lO (n:Nat) (ns:List Int):shp (n+1) (lI ns)=true:=W3 W.int n (K8 n) ns
theorem fB (n:Nat) (ss:List (List Int)):shp (n+2) (.lst (ss.map tI))=true:=W3 tI (n+1) (bJ n) ss
theorem hU {neg:Bool} {w:W} (h:shp 8 w=true):fEq neg w w=.ok (.bl (!neg)):=by
 unfold fEq
 rw [h,qS]
 cases neg <;> rfl
theorem eqI:∀ (a b:List Int),PyData.eqvAll (pds (a.map W.int)) (pds (b.map W.int))=decide (a=b)
 | [],[]=>by simp [pds,PyData.eqvAll]
 | [],_::_=>by simp [pds,PyData.eqvAll]
 | _::_,[]=>by simp [pds,PyData.eqvAll]
 | x::a,y::b=>by
  simp only [List.map_cons,pds,pd,PyData.eqvAll,PyData.eqv,eqI a b]
  by_cases h:x=y <;> by_cases h':a=b <;> simp [h,h']
theorem Al (neg:Bool) (a b:List Int):fEq neg (tI a) (tI b)=.ok (.bl (if neg then !decide (a=b) else decide (a=b))):=by
 unfold fEq
 rw [bJ,bJ]
 have:eqW (tI a) (tI b)=decide (a=b):=eqI a b
 rw [this]; rfl
theorem Ao (neg:Bool) (a b:List Int):fEq neg (lI a) (lI b)=.ok (.bl (if neg then !decide (a=b) else decide (a=b))):=by
 unfold fEq
 rw [lO,lO]
 have:eqW (lI a) (lI b)=decide (a=b):=eqI a b
 rw [this]; rfl
theorem Ax:∀ (a b:List (List Int)),PyData.eqvAll (pds (a.map tI)) (pds (b.map tI))=decide (a=b)
 | [],[]=>by simp [pds,PyData.eqvAll]
 | [],_::_=>by simp [pds,PyData.eqvAll]
 | _::_,[]=>by simp [pds,PyData.eqvAll]
 | x::a,y::b=>by
  simp only [List.map_cons,pds,pd,PyData.eqvAll,PyData.eqv,Ax a b,eqI]
  by_cases h:x=y <;> by_cases h':a=b <;> simp [h,h']
theorem nH (neg:Bool) (a b:List (List Int)):fEq neg (.lst (a.map tI)) (.lst (b.map tI))=.ok (.bl (if neg then !decide (a=b) else decide (a=b))):=by
 unfold fEq
 rw [fB,fB]
 have:eqW (.lst (a.map tI)) (.lst (b.map tI))=decide (a=b):=Ax a b
 rw [this]; rfl
theorem nI (neg:Bool) (i j:Int):fEq neg (.int i) (.int j)=.ok (.bl (if neg then !decide (i=j) else decide (i=j))):=by
 unfold fEq
 rw [K8,K8]
 have:eqW (.int i) (.int j)=decide (i=j):=by
  by_cases h:i=j <;> simp [eqW,pd,PyData.eqv,h]
 rw [this]; rfl
theorem Aq (neg:Bool) (i j:Bool):fEq neg (.bl i) (.bl j)=.ok (.bl (if neg then !decide (i=j) else decide (i=j))):=by
 unfold fEq
 rw [lP,lP]
 have:eqW (.bl i) (.bl j)=decide (i=j):=by cases i <;> cases j <;> rfl
 rw [this]; rfl
theorem An (neg:Bool) (j:Int):fEq neg .non (.int j)=.ok (.bl neg):=by cases neg <;> rfl
theorem Ap (neg:Bool) (j:Int):fEq neg (.int j) .non=.ok (.bl neg):=by cases neg <;> rfl
theorem Am (neg:Bool):fEq neg .non .non=.ok (.bl (!neg)):=by cases neg <;> rfl
theorem qR (g:List Bool->Bool) (bs:List Bool):cE g [.lst (bs.map W.bl)]=.ok (.bl (g bs)):=by
 show (toR (R5 (bs.map W.bl))>>=_)=_
 rw [wj]; rfl
theorem vH (g:List Int->Int) (ns:List Int):Cu g [.lst (ns.map W.int)]=.ok (.int (g ns)):=by
 show (toR (t5 (ns.map W.int))>>=_)=_
 rw [ints_map]; rfl
theorem Ag (i:Int):Ai [.int i]=.ok (.int i):=rfl
theorem Ah (b:Bool):Ai [.bl b]=.ok (.int (if b then 1 else 0)):=rfl
theorem Ar (i:Int):fAbs [.int i]=.ok (.int (if i<0 then -i else i)):=rfl
def Au (o:Option Sl) (r:R W) (c:Bool) (i:Nat) (ρ:Rho):R Fl:=match o with
 | some (.own ws)=>r>>=fun w=>(match w with
  | .lst us=>if ws.length+us.length<=1000 then (if c||k9 us then .ok (.nx (ρ.set i (.own (ws++us)))) else .stuck) else .stuck
  | _=>.stuck)
 | _=>.stuck
theorem vc (i:Nat) (c:Bool) (m:Rho->R W) (ρ:Rho):gI i c m ρ=Au (ρ[i]?) (m ρ) c i ρ:=rfl
theorem As {ws us:List W} {c:Bool} {i:Nat} {ρ:Rho} (h:ws.length+us.length<=1000):Au (some (.own ws)) (.ok (.lst us)) c i ρ=if c||k9 us then .ok (.nx (ρ.set i (.own (ws++us)))) else .stuck:=by
 show (if ws.length+us.length<=1000 then _ else _)=_
 rw [if_pos h]
def xz (o:Option Sl) (i:Nat) (ρ:Rho):R Fl:=match o with
 | some (.own ws)=>.ok (.nx (ρ.set i (.own ws.reverse)))
 | _=>.stuck
theorem vb (i:Nat) (ρ:Rho):mRev i ρ=xz (ρ[i]?) i ρ:=rfl
theorem tO (ws:List W) (i:Nat) (ρ:Rho):xz (some (.own ws)) i ρ=.ok (.nx (ρ.set i (.own ws.reverse))):=rfl
theorem fW {r:R Fl} {n:Rho->R Fl} {Jn:Rho->Prop} {Jr:W->Prop} (J:Rho->Prop) (h1:Po r J Jr) (h2:∀ ρ,J ρ->Po (n ρ) Jn Jr):Po (andThen r n) Jn Jr:=M8 (h1.mono h2 fun _ h=>h)
theorem vB (i j:Int):v5 i j=.int (i+j):=rfl
theorem vz (i j:Int):TP.gSub i j=.int (i-j):=rfl
theorem zR (i j:Int):gLt i j=.bl (decide (i<j)):=rfl
theorem zS (i j:Int):gLe i j=.bl (decide (i<=j)):=rfl
theorem zT (i j:Int):gGt i j=.bl (decide (j<i)):=rfl
theorem zU (i j:Int):gGe i j=.bl (decide (j<=i)):=rfl
theorem vA (i:Int):gZ i=.int (-i):=rfl
theorem qM (i j:Int):sh i j=i+j:=rfl
theorem qI (i j:Int):Cn i j=i-j:=rfl
theorem zZ {i:Int} (h:0<=i/\i<1000):fStr [.int i]=.ok (.str (toString i)):=by
 show (if i.natAbs.log2<1920 then _ else _)=_
 rw [if_pos]
 refine Nat.lt_of_le_of_lt (Nat.log2_le_self _) ?_
 omega
theorem Af (neg:Bool) (u:W) (b:Bool):fIsB neg u (.bl b)=.ok (.bl (if neg then !T7 u b else T7 u b)):=rfl
theorem zH (i:Int) (b:Bool):T7 (.int i) b=false:=rfl
theorem zF (b:Bool):T7 .non b=false:=rfl
theorem zE (x:Str) (b:Bool):T7 (.str x) b=false:=rfl
theorem zD (x:List W) (b:Bool):T7 (.tup x) b=false:=rfl
theorem zG (x:List W) (b:Bool):T7 (.lst x) b=false:=rfl
theorem zI (a b:Bool):T7 (.bl a) b=(a == b):=rfl
def Rcu (c:Bool) (r:R (List W)) (f:List W->R W) (i:Nat) (ρ:Rho):R Fl:=if c then (r>>=fun ws=>f ws>>=fun w=>.ok (.nx (ρ.set i (.par w)))) else .stuck
theorem xg (i:Nat) (f:List W->R W) (ma:Rho->R (List W)) (ρ:Rho):sCU i f ma ρ=Rcu (noOwn ρ) (ma ρ) f i ρ:=rfl
def Bz (r:R W) (i:Nat) (ρ:Rho):R Fl:=r>>=fun w=>.ok (.nx (ρ.set i (.par w)))
theorem Dh (ws:List W) (f:List W->R W) (i:Nat) (ρ:Rho):Rcu true (.ok ws) f i ρ=Bz (f ws) i ρ:=rfl
theorem ww (w:W) (i:Nat) (ρ:Rho):Bz (.ok w) i ρ=.ok (.nx (ρ.set i (.par w))):=rfl
theorem mT:noOwn []=true:=rfl
theorem uK (w:W) (ρ:Rho):noOwn (.val w::ρ)=noOwn ρ:=rfl
theorem uM (w:W) (ρ:Rho):noOwn (.par w::ρ)=noOwn ρ:=rfl
theorem uL (ρ:Rho):noOwn (.un::ρ)=noOwn ρ:=rfl
theorem vO {g:List Int->Int} {ns:List Int} (h:0<ns.length):sj g [tI ns]=.ok (.int (g ns)):=by
 show (toR (t5 (ns.map W.int))>>=_)=_
 rw [ints_map]
 show (if 0<ns.length then _ else _)=_
 rw [if_pos h]
theorem vP {g:List Int->Int} {ns:List Int} (h:0<ns.length):sj g [lI ns]=.ok (.int (g ns)):=by
 show (toR (t5 (ns.map W.int))>>=_)=_
 rw [ints_map]
 show (if 0<ns.length then _ else _)=_
 rw [if_pos h]
theorem xy (ws:List W):revW [.lst ws]=.ok ws.reverse:=rfl
def rp0:=Z1 (@qL) (Z1 (@qK) (Z1 (@BU) (Z1 (@BT) (Z1 (@Ci) (Z1 (@Ch) (Z1 (@yR) (Z1 (@div_ii) (Z1 (@yq) (Z1 (@Bu) (Z1 (@uV) (Z1 (@uW) (Z1 (@nJ) (Z1 (@Aa) (Z1 (@Da) (Z1 (@Cl) (Z1 (@xr) (Z1 (@AD) (Z1 (@wT) (Z1 (@Bt) (Z1 (@xA) (Z1 (@va) (Z1 (@kT) (Z1 (@kS) (@kW))))))))))))))))))))))))
def rp1:=Z1 (@kU) (Z1 (@Cj) (Z1 (@CZ) (Z1 (@CY) (Z1 (@BB) (Z1 (@CW) (Z1 (@CV) (Z1 (@CU) (Z1 (@Df) (Z1 (@Dg) (Z1 (@rA) (Z1 (@wl) (Z1 (@ri) (Z1 (@tj) (Z1 (@wL) (Z1 (@tf) (Z1 (@tZ) (Z1 (@uc) (Z1 (@tY) (Z1 (@xR) (Z1 (@xQ) (Z1 (@xS) (Z1 (@tU) (Z1 (@sY) (@wD))))))))))))))))))))))))
def rp2:=Z1 (@sW) (Z1 (@pG) (Z1 (@pH) (Z1 (@pF) (Z1 (@tR) (Z1 (@tQ) (Z1 (@tS) (Z1 (@pE) (Z1 (@wE) (Z1 (@tV) (Z1 (@tX) (Z1 (@tW) (Z1 (@lq) (Z1 (@ow) (Z1 (@sT) (Z1 (@sX) (Z1 (@Cb) (Z1 (@Ca) (Z1 (@mK) (Z1 (@wC) (Z1 (@wt) (Z1 (@wq) (Z1 (@oG) (Z1 (@rB) (@xc))))))))))))))))))))))))
def rp3:=Z1 (@xh) (Z1 (@xf) (Z1 (@pc) (Z1 (@rq) (Z1 (@tG) (Z1 (@tP) (Z1 (@oZ) (Z1 (@BE) (Z1 (@BF) (Z1 (@BI) (Z1 (@wu) (Z1 (@lL) (Z1 (@lH) (Z1 (@lN) (Z1 (@oT) (Z1 (@lK) (Z1 (@lJ) (Z1 (@BH) (Z1 (@wx) (Z1 (@lD) (Z1 (@tJ) (Z1 (@wv) (Z1 (@tH) (Z1 (@zW) (@qP))))))))))))))))))))))))
def rp4:=Z1 (@qN) (Z1 (@qO) (Z1 (@vD) (Z1 (@dg) (Z1 (@xD) (Z1 (@xB) (Z1 (@xC) (Z1 (@xE) (Z1 (@xF) (Z1 (@xI) (Z1 (@xG) (Z1 (@xH) (Z1 (@xJ) (Z1 (@xK) (Z1 (@xL) (Z1 (@xM) (Z1 (@kB) (Z1 (@pv) (Z1 (@pk) (Z1 (@pq) (Z1 (@ve) (Z1 (@uZ) (Z1 (@tE) (Z1 (@lR) (@vd))))))))))))))))))))))))
def rp5:=Z1 (@wm) (Z1 (@yT) (Z1 (@zL) (Z1 (@zM) ((((((Z1 (@vU) (Z1 (@vV) (Z1 (@Ak) (Z1 (@fU_i) (Z1 (@Ct) (Z1 (@Cr) (Z1 (@Cs) (Z1 (@oM) (Z1 (@wJ) (Z1 (@Ad) (Z1 (@Ab) (Z1 (@Ac) (Z1 (@vF) (Z1 (@vE) (Z1 (@nG) (@zY))))))))))))))))))))))))
def rp6:=Z1 (@AK) (Z1 (@AS) (Z1 (@AN) (Z1 (@nU) (Z1 (@vY) (Z1 (@AR) (Z1 (@vW) (Z1 (@vX) (Z1 (@AO) (Z1 (@Cv) (Z1 (@wY) (Z1 (@wW) (Z1 (@wX) (Z1 (@xv) (Z1 (@xu) (Z1 (@gN_U) (Z1 (@gN_V) (Z1 (@gT_t) (Z1 (@qH) (Z1 (@vx) (Z1 (@vG) (Z1 (@zj) (Z1 (@zk) (Z1 (@zn) (@zd))))))))))))))))))))))))
def rp7:=Z1 (@Ae) (Z1 (@E1) (Z1 (@vM) (Z1 (@vN) (Z1 (@vI) (Z1 (@vJ) (Z1 (@vK) (@vL)))))))
def rp8:=Z1 (@oW_n) (Z1 (@oW_s) (Z1 (@AQ) (Z1 (@db) (Z1 (@AM) (Z1 (@AU) (Z1 (@zC) (Z1 (@oS) (Z1 (@De) (@appO)))))))))
def rp9:=Z1 (@bY) (Z1 (@AL) (Z1 (@AT) (Z1 (@Db) (Z1 (@Bs) (Z1 (@AB) (Z1 (@AV) (Z1 (@AW) (Z1 (@xt) (Z1 (@Al) (Z1 (@Ao) (Z1 (@nH) (Z1 (@nI) (Z1 (@Aq) (Z1 (@An) (Z1 (@Ap) (Z1 (@Am) ((Z1 (@qR) (Z1 (@vH) (Z1 (@Ag) (Z1 (@Ah) (Z1 (@Ar) (Z1 (@vc) (Z1 (@As) (Z1 (@vb) (@tO))))))))))))))))))))))))))
def rp10:=Z1 (@vB) (Z1 (@vz) (Z1 (@zR) (Z1 (@zS) (Z1 (@zT) (Z1 (@zU) (Z1 (@vA) (Z1 (@qM) (@qI))))))))
def rp11:=Z1 (@zZ) (Z1 (@Af) (Z1 (@zH) (Z1 (@zF) (Z1 (@zE) (Z1 (@zD) (Z1 (@zG) (@zI)))))))
def rp12:=Z1 (@xg) (Z1 (@Dh) (Z1 (@ww) (Z1 (@mT) (Z1 (@uK) (Z1 (@uM) (@uL))))))
def rp13:=Z1 (@vO) (Z1 (@vP) (@xy))
end TP
set_option maxHeartbeats 4000000
open PySem L2 TP
namespace K85
def gD:Rho->R Fl:=
 (c8 (B0 (bI F9 (aC (a9 .U 0) (aC (a9 .U 1) aN))) (gT 2 (l9 (gN .U 2) (l9 (gN .U 3) gsNil)))
   (mIf (f6 (b2 (fI0 gLt) (a9 .B 2) (a9 .B 3))) (f8 (mC (.bl false))) sNx))
  (f8 (mC (.bl true))))
abbrev Q8:List W->R W:=f7 2 4 gD
def nc:Rho->R Fl:=
 (f8 (bA Q8 (aC (a9 .B 0) (aC (b2 fIx (a9 .B 1) (mC (.int 0))) aN))))
abbrev cA:List W->R W:=f7 2 2 nc
def gF:Rho->R Fl:=
 (f8 (bA (F4 true) (aC (r9 3 (bI F9 (aC (b2 fIx (a9 .B 0) (mC (.int 0))) (aC (b2 fIx (a9 .B 0) (mC (.int 1))) aN))) (gT 2 (l9 (gN .U 1) (l9 (gN .U 2) gsNil))) yes (b2 (fI0 gSub) (a9 .B 2) (a9 .B 1))) aN)))
abbrev bw:List W->R W:=f7 1 1 gF
def jh:Rho->R Fl:=
 (c8 (mIf (D3 (f6 (bA cA (aC (a9 .B 0) (aC (a9 .B 1) aN))))) lV sNx)
  (f8 (bA (F4 true) (aC (r9 4 (bI F9 (aC (a9 .B 0) (aC (bA bw (aC (a9 .B 1) aN)) aN))) (gT 2 (l9 (gN .U 2) (l9 (gN .U 3) gsNil))) yes (b2 (fI0 v5) (a9 .B 2) (a9 .B 3))) aN))))
abbrev aL:List W->R W:=f7 2 2 jh
def gA:Rho->R Fl:=
 (c8 (B0 (bS (a9 .U 1)) (gN .U 2)
   (mIf (f6 (bA Q8 (aC (a9 .B 0) (aC (a9 .B 2) aN)))) (f8 (mC (.bl true))) sNx))
  (f8 (mC (.bl false))))
abbrev G8:List W->R W:=f7 2 3 gA
def jf:Rho->R Fl:=
 (c8 (sF 1 (z8 aN))
  (c8 (B0 (bS (bA fSortA (aC (a9 .B 0) aN))) (gN .U 2)
   (mIf (D3 (f6 (bA G8 (aC (a9 .B 2) (aC (a9 .B 1) aN))))) (L3 1 (a9 .V 2)) sNx))
  (D0 .F 1)))
abbrev aK:List W->R W:=f7 1 3 jf
def gx:Rho->R Fl:=
 (f8 (bA (F4 true) (aC (r9 5 (bI F9 (aC (a9 .B 0) (aC (b2 fIx (a9 .B 1) (mC (.int 0))) (aC (b2 fIx (a9 .B 1) (mC (.int 1))) aN)))) (gT 3 (l9 (gN .U 2) (l9 (gN .U 3) (l9 (gN .U 4) gsNil)))) yes (bA (f2 T8) (aC (a9 .B 3) (aC (b2 (fI0 v5) (b2 (fI0 gSub) (a9 .B 2) (a9 .B 4)) (a9 .B 3)) aN)))) aN)))
abbrev bt:List W->R W:=f7 2 2 gx
def dQ:Rho->R Fl:=
 (c8 (sF 2 (z8 aN))
  (c8 (B0 (bS (a9 .U 0)) (gN .U 3)
   (gI 2 true (r9 5 (bS (a9 .B 1)) (gN .U 4) yes (bA bt (aC (a9 .B 4) (aC (a9 .B 3) aN))))))
  (D0 .F 2)))
abbrev N1:List W->R W:=f7 2 4 dQ
def aP:Rho->R Fl:=
 (f8 (bA aK (aC (b2 (dw true) (bA (cD false) (aC (a9 .B 1) aN)) (bA N1 (aC (a9 .B 0) (aC (a9 .B 1) aN)))) aN)))
abbrev M3:List W->R W:=f7 2 2 aP
def dR:Rho->R Fl:=
 (f8 (bA (cE br) (aC (r9 3 (bS (bA N1 (aC (a9 .B 0) (aC (a9 .B 1) aN)))) (gN .U 2) yes (bA G8 (aC (a9 .B 2) (aC (a9 .B 1) aN)))) aN)))
abbrev ai:List W->R W:=f7 2 2 dR
def ae:Rho->R Fl:=
 (f8 (bA (F4 true) (aC (r9 4 (bI F9 (aC (a9 .B 0) (aC (a9 .B 1) aN))) (gT 2 (l9 (gN .U 2) (l9 (gN .U 3) gsNil))) yes (bA (f2 T8) (aC (a9 .B 2) (aC (a9 .B 3) aN)))) aN)))
abbrev Q7:List W->R W:=f7 2 2 ae
def gC:Rho->R Fl:=
 (c8 (sV 4 (b2 fIx (a9 .C 1) (b1 (fU gZ) (mC (.int 1)))))
  (c8 (sV 5 (b2 (fI0 gSub) (bA fLen (aC (a9 .B 1) aN)) (mC (.int 1))))
  (c8 (mIf (f6 (b2 (fI0 gGt) (bA fLen (aC (a9 .B 4) aN)) (a9 .B 2))) (f8 (t6 (aC (mC (.str "open")) (aC (a9 .V 5) aN)))) sNx)
  (c8 (mIf (f6 (bA ai (aC (a9 .B 0) (aC (a9 .B 4) aN)))) (f8 (t6 (aC (a9 .V 3) (aC (a9 .V 4) aN)))) sNx)
  (c8 (mIf (f6 (b2 (fEq false) (a9 .B 5) (a9 .B 2))) (f8 (t6 (aC (mC (.str "open")) (aC (a9 .V 5) aN)))) sNx)
  (f8 (mC .non)))))))
abbrev L5:List W->R W:=Q2 4 6 gC
def gB:Rho->R Fl:=
 (c8 (sF 3 (z8 (aC (z8 (aC (a9 .V 1) aN)) aN)))
  (c8 (sCX 4 [3] L5 (aC (a9 .V 0) (aC (a9 .V 3) (aC (a9 .V 2) (aC (mC (.str "basis")) aN)))))
  (c8 (F7 (f6 (b2 (aj false) (a9 .B 4) (mC .non))) (c8 (L3 3 (bA M3 (aC (a9 .B 0) (aC (b2 fIx (a9 .B 3) (b1 (fU gZ) (mC (.int 1)))) aN))))
   (sCX 4 [3] L5 (aC (a9 .V 0) (aC (a9 .V 3) (aC (a9 .V 2) (aC (mC (.str "basis")) aN)))))))
  (D0 .V 4))))
abbrev bv:List W->R W:=f7 3 5 gB
def ca:Rho->R Fl:=
 (c8 (sF 2 (z8 aN))
  (c8 (sV 3 (a9 .V 1))
  (c8 (F7 (f6 (b2 (aj true) (a9 .B 3) (mC .non))) (c8 (L3 2 (a9 .V 3))
   (sU 3 (b2 fIx (b2 fIx (a9 .B 0) (a9 .B 3)) (mC (.int 1))))))
  (D0 .F 2))))
abbrev P0:List W->R W:=f7 2 4 ca
def rV:Rho->R Fl:=
 (f8 (bA cC (aC (bA P0 (aC (a9 .B 0) (aC (a9 .B 1) aN))) aN)))
abbrev kK:List W->R W:=f7 2 2 rV
def Y4:Rho->R Fl:=
 (c8 (sF 3 (bA kK (aC (a9 .B 0) (aC (a9 .B 2) aN))))
  (f8 (r9 5 (bS (vSl true (a9 .C 3) (pS (b2 (fI0 v5) (gG (a9 .B 3) (a9 .B 1)) (mC (.int 1)))) pN)) (gN .U 4) yes (bB (b2 fIx (b2 fIx (a9 .B 0) (a9 .B 4)) (mC (.int 2)))))))
abbrev N7:List W->R W:=f7 3 4 Y4
def S2:Rho->R Fl:=
 (f8 (r9 4 (bI ak (aC (b2 fIx (a9 .B 0) (mC (.int 1))) aN)) (gT 2 (l9 (gN .U 2) (l9 (gN .U 3) gsNil))) (f6 (bA cA (aC (a9 .B 1) (aC (a9 .B 3) aN)))) (t6 (aC (bA aL (aC (a9 .B 1) (aC (a9 .B 3) aN))) (aC (a9 .V 2) aN)))))
abbrev K1:List W->R W:=f7 2 2 S2
def jg:Rho->R Fl:=
 (c8 (sF 2 (z8 (aC (t6 (aC (bB (b2 fIx (a9 .B 0) (mC (.int 0)))) (aC (mC .non) (aC (mC .non) aN)))) aN)))
  (c8 (fb 3 (b2 fIx (a9 .B 0) (mC (.int 0))) (mC (.bl true)))
  (c8 (sV 4 (mC (.int 0)))
  (c8 (F7 (f6 (b2 (fI0 gLt) (a9 .B 4) (bA fLen (aC (a9 .B 2) aN)))) (c8 (sV 5 (b2 fIx (b2 fIx (a9 .C 2) (a9 .C 4)) (mC (.int 0))))
   (c8 (B0 (bS (bA K1 (aC (a9 .B 0) (aC (a9 .B 5) aN)))) (gT 2 (l9 (gN .U 6) (l9 (gN .U 7) gsNil)))
    (c8 (mIf (mIn false 3 (a9 .B 6)) sCt sNx)
    (c8 (mIf (f6 (b2 (o9 false) (bA fLen (aC (a9 .B 2) aN)) (a9 .B 1))) (Q0 2 (f8 (t6 (aC (a9 .V 2) (aC (mC (.bl false)) aN))))) sNx)
    (c8 (ci 3 (a9 .B 6) (mC (.bl true)))
    (L3 2 (t6 (aC (a9 .V 6) (aC (a9 .V 4) (aC (a9 .V 7) aN)))))))))
   (gL 4 sh (mC (.int 1))))))
  (Q0 2 (f8 (t6 (aC (a9 .V 2) (aC (mC (.bl true)) aN)))))))))
abbrev dv:List W->R W:=f7 2 8 jg
def aQ:Rho->R Fl:=
 (f8 (r9 2 (bS (a9 .B 0)) (gN .U 1) yes (bB (b2 fIx (a9 .B 1) (mC (.int 0))))))
abbrev M4:List W->R W:=f7 1 1 aQ
def gy:Rho->R Fl:=
 (f8 (bA N7 (aC (a9 .B 0) (aC (mC (.int 0)) (aC (a9 .B 1) aN)))))
abbrev bu:List W->R W:=f7 2 2 gy
def S3:Rho->R Fl:=
 (c8 (B0 (bS (a9 .U 0)) (gN .U 2)
   (c8 (sF 3 (r9 5 (bS (a9 .B 1)) (gN .U 4) yes (bA aL (aC (bA Q7 (aC (a9 .B 4) (aC (b2 fIx (a9 .B 2) (mC (.int 0))) aN))) (aC (a9 .B 2) aN)))))
   (mIf (D3 (f6 (bA (cE br) (aC (r9 5 (bS (a9 .B 3)) (gN .U 4) yes (bA G8 (aC (a9 .B 4) (aC (a9 .B 1) aN)))) aN)))) (f8 (mC (.bl false))) sNx)))
  (f8 (mC (.bl true))))
abbrev D6:List W->R W:=f7 2 4 S3
def de:Rho->R Fl:=
 (c8 (sV 3 (bA bv (aC (b2 fIx (a9 .B 0) (mC (.int 1))) (aC (b2 fIx (b2 fIx (b2 fIx (a9 .B 0) (mC (.int 1))) (a9 .B 1)) (mC (.int 0))) (aC (a9 .B 2) aN)))))
  (c8 (mIf (f6 (b2 (o9 false) (b2 fIx (a9 .B 3) (mC (.int 0))) (mC (.str "open")))) (f8 (t6 (aC (mC (.str "open")) aN))) sNx)
  (c8 (sV 4 (b2 fIx (a9 .C 3) (mC (.int 1))))
  (c8 (sF 5 (bA dv (aC (a9 .B 0) (aC (a9 .B 2) aN))))
  (c8 (B0 (bI ak (aC (bA M4 (aC (b2 fIx (a9 .B 5) (mC (.int 0))) aN)) aN)) (gT 2 (l9 (gN .U 6) (l9 (gN .U 7) gsNil)))
   (mIf (D3 (f6 (bA G8 (aC (a9 .B 7) (aC (a9 .B 4) aN))))) (f8 (t6 (aC (mC (.str "dies")) (aC (bA bu (aC (b2 fIx (a9 .B 5) (mC (.int 0))) (aC (a9 .B 6) aN))) (aC (a9 .V 4) aN))))) sNx))
  (c8 (mIf (f6 (b2 fIx (a9 .B 5) (mC (.int 1)))) (f8 (t6 (aC (mC (.str "lives")) (aC (bA M4 (aC (b2 fIx (a9 .B 5) (mC (.int 0))) aN)) aN)))) sNx)
  (f8 (vIf (f6 (bA D6 (aC (b2 fIx (a9 .B 0) (mC (.int 1))) (aC (a9 .B 4) aN)))) (t6 (aC (mC (.str "always")) (aC (a9 .V 4) aN))) (t6 (aC (mC (.str "open")) aN))))))))))
abbrev U8:List W->R W:=f7 3 8 de
def M2:Rho->R Fl:=
 (c8 (mIf (f6 (b2 (fI0 gLt) (a9 .B 1) (bA fLen (aC (a9 .B 0) aN)))) (f8 (bB (b2 fIx (a9 .B 0) (a9 .B 1)))) sNx)
  (c8 (sV 2 (b2 (fI0 v5) (b2 (fI CMulB t9) (mC (.int 40009)) (a9 .B 1)) (mC (.int 23))))
  (c8 (mIf (f6 (b2 (fI0 gGt) (bA fLen (aC (a9 .B 0) aN)) (mC (.int 0)))) (sV 2 (b2 (fI0 v5) (b2 (fI0 v5) (b2 (fI CMulB t9) (b2 fIx (a9 .B 0) (b2 (fI l4 m5) (b2 (fI CMulB t9) (a9 .B 1) (mC (.int 13))) (bA fLen (aC (a9 .B 0) aN)))) (mC (.int 39373))) (b2 (fI CMulB t9) (b2 (fI CMulB t9) (a9 .B 1) (a9 .B 1)) (mC (.int 3001)))) (mC (.int 19)))) sNx)
  (f8 (b2 (fI l4 m5) (b2 (fI CMulB t9) (a9 .B 2) (a9 .B 2)) (mC (.int 2147483549)))))))
abbrev j7:List W->R W:=f7 2 3 M2
def aR:Rho->R Fl:=
 (c8 (sF 4 (z8 aN))
  (c8 (sF 5 (z8 aN))
  (c8 (B0 (bI J8 (aC (a9 .B 2) aN)) (gN .U 6)
   (c8 (sF 7 (bA j7 (aC (a9 .B 0) (aC (b2 (fI0 v5) (a9 .B 1) (a9 .B 6)) aN))))
   (c8 (L3 4 (b2 fIx (z8 (aC (mC (.int 0)) (aC (mC (.int 1)) (aC (mC (.int 0)) (aC (mC (.int 1)) (aC (mC (.int 0)) (aC (mC (.int 1)) (aC (mC (.int 2)) (aC (b2 (fI0 v5) (mC (.int 1)) (b2 (fI B8 G7) (a9 .B 3) (mC (.int 2)))) aN))))))))) (b2 (fI l4 m5) (a9 .B 7) (mC (.int 8)))))
   (L3 5 (b2 (fI CMulB t9) (b2 fIx (z8 (aC (mC (.int 0)) (aC (mC (.int 1)) (aC (mC (.int 0)) (aC (mC (.int 0)) (aC (mC (.int 1)) (aC (mC (.int 2)) aN))))))) (b2 (fI l4 m5) (b2 (fI B8 G7) (a9 .B 7) (mC (.int 8))) (mC (.int 6)))) (a9 .B 3))))))
  (f8 (t6 (aC (bA (F4 true) (aC (a9 .C 4) aN)) (aC (bA (F4 true) (aC (a9 .C 5) aN)) aN)))))))
abbrev T9:List W->R W:=f7 4 8 aR
def Y8:Rho->R Fl:=
 (c8 (B0 (bI J8 (aC (bA fLen (aC (a9 .B 0) aN)) aN)) (gN .U 2)
   (mIf (f6 (b2 (fI0 gLt) (b2 fIx (a9 .B 0) (a9 .B 2)) (b2 fIx (a9 .B 1) (a9 .B 2)))) (f8 (mC (.bl false))) sNx))
  (f8 (mC (.bl true))))
abbrev y8:List W->R W:=f7 2 3 Y8
def Y6:Rho->R Fl:=
 (c8 (B0 (bS (a9 .U 1)) (gN .U 2)
   (mIf (f6 (bA y8 (aC (a9 .B 0) (aC (a9 .B 2) aN)))) (f8 (mC (.bl true))) sNx))
  (f8 (mC (.bl false))))
abbrev y6:List W->R W:=f7 2 3 Y6
def Y9:Rho->R Fl:=
 (f8 (bA (F4 true) (aC (r9 3 (bI J8 (aC (bA fLen (aC (a9 .B 0) aN)) aN)) (gN .U 2) yes (b2 (fI0 v5) (b2 (fI0 gSub) (b2 fIx (a9 .B 0) (a9 .B 2)) (b2 fIx (b2 fIx (a9 .B 1) (mC (.int 0))) (a9 .B 2))) (b2 fIx (b2 fIx (a9 .B 1) (mC (.int 1))) (a9 .B 2)))) aN)))
abbrev F8:List W->R W:=f7 2 2 Y9
def Y5:Rho->R Fl:=
 (f8 (bA (F4 true) (aC (r9 3 (bI J8 (aC (bA fLen (aC (a9 .B 0) aN)) aN)) (gN .U 2) yes (b2 (fI0 v5) (b2 fIx (b2 fIx (a9 .B 1) (mC (.int 0))) (a9 .B 2)) (bA (f2 T8) (aC (mC (.int 0)) (aC (b2 (fI0 gSub) (b2 fIx (a9 .B 0) (a9 .B 2)) (b2 fIx (b2 fIx (a9 .B 1) (mC (.int 1))) (a9 .B 2))) aN))))) aN)))
abbrev N8:List W->R W:=f7 2 2 Y5
def aS:Rho->R Fl:=
 (c8 (sF 2 (bA (cD false) (aC (a9 .B 1) aN)))
  (c8 (B0 (bS (a9 .U 1)) (gN .U 3)
   (B0 (bS (a9 .U 0)) (gN .U 4)
    (c8 (sF 5 (bA N8 (aC (a9 .B 3) (aC (a9 .B 4) aN))))
    (mIf (D3 (f6 (bA y6 (aC (a9 .B 5) (aC (a9 .B 2) aN))))) (Q0 5 (sF 2 (b2 (dw true) (r9 7 (bS (a9 .B 2)) (gN .U 6) (D3 (f6 (bA y8 (aC (a9 .B 6) (aC (a9 .B 5) aN))))) (a9 .V 6)) (z8 (aC (a9 .V 5) aN))))) sNx))))
  (f8 (bA fSortA (aC (a9 .C 2) aN)))))
abbrev M5:List W->R W:=f7 2 6 aS
def Y7:Rho->R Fl:=
 (c8 (sF 3 (z8 (aC (a9 .V 1) aN)))
  (c8 (B0 (bI J8 (aC (b2 (fI0 v5) (a9 .B 2) (mC (.int 1))) aN)) (gN .U 4)
   (c8 (mIf (f6 (b2 (fI0 gGt) (bA fLen (aC (a9 .B 3) aN)) (a9 .B 2))) (f8 (mC .non)) sNx)
   (c8 (sF 5 (bA M5 (aC (a9 .B 0) (aC (a9 .B 3) aN))))
   (c8 (mIf (f6 (b2 (fEq false) (a9 .B 5) (a9 .B 3))) (D0 .V 3) sNx)
   (Q0 5 (sV 3 (a9 .V 5)))))))
  (f8 (mC .non))))
abbrev N9:List W->R W:=f7 3 6 Y7
def af:Rho->R Fl:=
 (c8 (sF 3 (z8 (aC (a9 .V 0) aN)))
  (c8 (sF 4 (z8 (aC (z8 aN) aN)))
  (c8 (sV 5 (mC (.int 0)))
  (c8 (F7 (f6 (b2 (fI0 gLt) (a9 .B 5) (bA fLen (aC (a9 .B 3) aN)))) (c8 (B0 (bI J8 (aC (bA fLen (aC (a9 .B 1) aN)) aN)) (gN .U 6)
    (mIf (f6 (bA y8 (aC (b2 fIx (a9 .B 3) (a9 .B 5)) (aC (b2 fIx (b2 fIx (a9 .B 1) (a9 .B 6)) (mC (.int 0))) aN)))) (c8 (sF 7 (bA F8 (aC (b2 fIx (a9 .B 3) (a9 .B 5)) (aC (b2 fIx (a9 .B 1) (a9 .B 6)) aN))))
     (mIf (f6 (b2 (fIn true) (a9 .B 7) (a9 .B 3))) (c8 (mIf (f6 (b2 (o9 false) (bA fLen (aC (a9 .B 3) aN)) (a9 .B 2))) (Q0 4 (Q0 3 (f8 (t6 (aC (a9 .V 3) (aC (a9 .V 4) (aC (mC (.bl false)) aN))))))) sNx)
      (c8 (Q0 7 (L3 3 (a9 .V 7)))
      (L3 4 (b2 (dw true) (b2 fIx (a9 .C 4) (a9 .C 5)) (z8 (aC (a9 .V 6) aN)))))) sNx)) sNx))
   (sV 5 (b2 (fI0 v5) (a9 .B 5) (mC (.int 1))))))
  (Q0 4 (Q0 3 (f8 (t6 (aC (a9 .V 3) (aC (a9 .V 4) (aC (mC (.bl true)) aN)))))))))))
abbrev Q9:List W->R W:=f7 3 8 af
def cf:Rho->R Fl:=
 (c8 (B0 (bS (a9 .U 1)) (gN .U 2)
   (B0 (bS (a9 .U 0)) (gN .U 3)
    (c8 (sF 4 (bA (F4 true) (aC (r9 6 (bI J8 (aC (bA fLen (aC (a9 .B 2) aN)) aN)) (gN .U 5) yes (bA (f2 T8) (aC (b2 fIx (a9 .B 2) (a9 .B 5)) (aC (b2 fIx (b2 fIx (a9 .B 3) (mC (.int 0))) (a9 .B 5)) aN)))) aN)))
    (mIf (D3 (f6 (bA y6 (aC (bA F8 (aC (a9 .B 4) (aC (a9 .B 3) aN))) (aC (a9 .B 1) aN))))) (f8 (mC (.bl false))) sNx))))
  (f8 (mC (.bl true))))
abbrev P1:List W->R W:=f7 2 5 cf
def X1:Rho->R Fl:=
 (c8 (sV 4 (bA N9 (aC (a9 .B 1) (aC (b2 fIx (b2 fIx (a9 .B 1) (a9 .B 2)) (mC (.int 0))) (aC (a9 .B 3) aN)))))
  (c8 (mIf (f6 (b2 (aj false) (a9 .B 4) (mC .non))) (f8 (t6 (aC (mC (.str "open")) aN))) sNx)
  (c8 (sG (gT 3 (l9 (gN .V 5) (l9 (gN .V 6) (l9 (gN .V 7) gsNil)))) (bA Q9 (aC (a9 .B 0) (aC (a9 .B 1) (aC (a9 .B 3) aN)))))
  (c8 (B0 (bI J8 (aC (bA fLen (aC (a9 .B 5) aN)) aN)) (gN .U 8)
   (mIf (D3 (f6 (bA y6 (aC (b2 fIx (a9 .B 5) (a9 .B 8)) (aC (a9 .B 4) aN))))) (f8 (t6 (aC (mC (.str "dies")) (aC (b2 fIx (a9 .C 6) (a9 .C 8)) (aC (a9 .V 4) aN))))) sNx))
  (c8 (mIf (f6 (a9 .B 7)) (f8 (t6 (aC (mC (.str "lives")) (aC (a9 .V 5) aN)))) sNx)
  (c8 (mIf (f6 (bA P1 (aC (a9 .B 1) (aC (a9 .B 4) aN)))) (f8 (t6 (aC (mC (.str "always")) (aC (a9 .V 4) aN)))) sNx)
  (f8 (t6 (aC (mC (.str "open")) aN)))))))))
abbrev P2:List W->R W:=f7 4 9 X1
def B2 (F:List W->R W):Rho->R Fl:=
 (c8 (mIf (fw (f6 (bA fIsi (aC (a9 .B 1) (aC (mC (.ty "tuple")) aN)))) (f6 (bA fIsi (aC (a9 .B 1) (aC (mC (.ty "list")) aN))))) (c8 (mIf (fw (f6 (b2 (o9 true) (bA fIsi (aC (a9 .B 1) (aC (mC (.ty "tuple")) aN))) (bA fIsi (aC (a9 .B 0) (aC (mC (.ty "tuple")) aN))))) (f6 (b2 (o9 true) (bA fIsi (aC (a9 .B 1) (aC (mC (.ty "list")) aN))) (bA fIsi (aC (a9 .B 0) (aC (mC (.ty "list")) aN)))))) (f8 (mC (.bl false))) sNx)
   (c8 (mIf (f6 (b2 (o9 true) (bA fLen (aC (a9 .B 0) aN)) (bA fLen (aC (a9 .B 1) aN)))) (f8 (mC (.bl false))) sNx)
   (f8 (b2 (o9 false) (bA fLen (aC (r9 3 (bI J8 (aC (bA fLen (aC (a9 .B 1) aN)) aN)) (gN .U 2) (D3 (f6 (bA F (aC (b2 fIx (a9 .B 0) (a9 .B 2)) (aC (b2 fIx (a9 .B 1) (a9 .B 2)) aN))))) (a9 .V 2)) aN)) (mC (.int 0)))))) sNx)
  (c8 (mIf (f6 (bA fIsi (aC (a9 .B 1) (aC (mC (.ty "int")) aN)))) (f8 (fq (bA fIsi (aC (a9 .B 0) (aC (mC (.ty "int")) aN))) (fq (oF (bA fIsi (aC (a9 .B 0) (aC (mC (.ty "bool")) aN)))) (b2 (fEq false) (a9 .B 0) (a9 .B 1))))) sNx)
  (f8 (fq (bA fIsi (aC (a9 .B 0) (aC (mC (.ty "str")) aN))) (b2 (fEq false) (a9 .B 0) (a9 .B 1))))))
def x9:Nat->Rho->R Fl
 | 0=>fun _=>.stuck
 | d+1=>B2 (f7 2 2 (x9 d))
abbrev B4:List W->R W:=f7 2 2 (x9 6)
def rW:Rho->R Fl:=
 (c8 (sV 1 (b2 (fI0 v5) (mC (.int 1)) (b2 (fI l4 m5) (bA j7 (aC (a9 .B 0) (aC (mC (.int 0)) aN))) (mC (.int 4)))))
  (c8 (sV 2 (b2 (fI0 v5) (mC (.int 1)) (b2 (fI l4 m5) (bA j7 (aC (a9 .B 0) (aC (mC (.int 1)) aN))) (mC (.int 8)))))
  (c8 (mIf (fw (f6 (b2 (o9 false) (a9 .B 1) (mC (.int 1)))) (eR (f6 (b2 (o9 false) (a9 .B 1) (mC (.int 2)))) (f6 (b2 (o9 false) (b2 (fI l4 m5) (b2 (fI B8 G7) (bA j7 (aC (a9 .B 0) (aC (mC (.int 1)) aN))) (mC (.int 8))) (mC (.int 3))) (mC (.int 1)))))) (sV 2 (b2 (fI0 v5) (mC (.int 1)) (b2 (fI l4 m5) (b2 (fI B8 G7) (bA j7 (aC (a9 .B 0) (aC (mC (.int 1)) aN))) (mC (.int 24))) (b2 fIx (z8 (aC (mC (.int 30)) (aC (mC (.int 16)) aN))) (b2 (fI0 gSub) (a9 .B 1) (mC (.int 1))))))) sNx)
  (c8 (sV 3 (mC (.int 1)))
  (c8 (mIf (f6 (b2 (o9 false) (b2 (fI l4 m5) (bA j7 (aC (a9 .B 0) (aC (mC (.int 2)) aN))) (mC (.int 4))) (mC (.int 1)))) (sV 3 (b2 (fI0 v5) (mC (.int 1)) (b2 (fI l4 m5) (b2 (fI B8 G7) (bA j7 (aC (a9 .B 0) (aC (mC (.int 2)) aN))) (mC (.int 4))) (b2 (fI CMulB t9) (mC (.int 3)) (b2 (fI bC qJ) (mC (.int 10)) (mC (.int 8))))))) sNx)
  (c8 (sV 4 (b2 (fI0 v5) (mC (.int 1)) (b2 (fI l4 m5) (bA j7 (aC (a9 .B 0) (aC (mC (.int 3)) aN))) (mC (.int 5)))))
  (c8 (mIf (eR (f6 (b2 (fI0 gGt) (a9 .B 1) (mC (.int 2)))) (f6 (b2 (o9 false) (b2 (fI l4 m5) (b2 (fI B8 G7) (bA j7 (aC (a9 .B 0) (aC (mC (.int 1)) aN))) (mC (.int 8))) (mC (.int 4))) (mC (.int 2))))) (c8 (sV 2 (b2 (fI0 v5) (mC (.int 9)) (b2 (fI l4 m5) (b2 (fI B8 G7) (bA j7 (aC (a9 .B 0) (aC (mC (.int 1)) aN))) (mC (.int 32))) (mC (.int 12)))))
   (sV 4 (b2 (fI0 v5) (mC (.int 1)) (b2 (fI l4 m5) (a9 .B 4) (mC (.int 3)))))) sNx)
  (c8 (sF 5 (z8 aN))
  (c8 (B0 (bI J8 (aC (a9 .B 4) aN)) (gN .U 6)
   (L3 5 (bA T9 (aC (a9 .B 0) (aC (b2 (fI0 v5) (mC (.int 10)) (b2 (fI CMulB t9) (a9 .B 1) (a9 .B 6))) (aC (a9 .B 1) (aC (a9 .B 3) aN)))))))
  (c8 (sV 7 (b2 (fI l4 m5) (bA j7 (aC (a9 .B 0) (aC (mC (.int 4)) aN))) (bA fLen (aC (a9 .B 5) aN))))
  (c8 (sF 8 (bA (F4 true) (aC (r9 15 (bI J8 (aC (a9 .B 1) aN)) (gN .U 14) yes (b2 (fI CMulB t9) (b2 (fI l4 m5) (bA j7 (aC (a9 .B 0) (aC (b2 (fI0 v5) (mC (.int 5)) (a9 .B 14)) aN))) (mC (.int 3))) (a9 .B 3))) aN)))
  (c8 (sF 9 (t6 (aC (a9 .V 8) (aC (bA (F4 true) (aC (a9 .C 5) aN)) aN))))
  (c8 (sF 10 (bA P2 (aC (a9 .B 8) (aC (a9 .B 5) (aC (a9 .B 7) (aC (a9 .B 2) aN))))))
  (c8 (sCN 11 U8 (aC (a9 .B 9) (aC (a9 .B 7) (aC (a9 .B 2) aN))))
  (c8 (mIf (D3 (f6 (bA B4 (aC (a9 .B 11) (aC (a9 .B 10) aN))))) (f8 (mC (.bl false))) sNx)
  (c8 (sV 12 (b2 (fI l4 m5) (b2 (fI0 v5) (a9 .B 7) (mC (.int 1))) (bA fLen (aC (a9 .B 5) aN))))
  (c8 (mIf (D3 (f6 (bA B4 (aC (bA U8 (aC (a9 .B 9) (aC (a9 .B 12) (aC (a9 .B 2) aN)))) (aC (bA P2 (aC (a9 .B 8) (aC (a9 .B 5) (aC (a9 .B 12) (aC (a9 .B 2) aN))))) aN))))) (f8 (mC (.bl false))) sNx)
  (c8 (mIf (D3 (f6 (bA B4 (aC (a9 .B 11) (aC (a9 .B 10) aN))))) (f8 (mC (.bl false))) sNx)
  (c8 (df 11 13 (b2 fRepT (t6 (aC (mC (.int 0)) aN)) (a9 .C 1)))
  (f8 (bA B4 (aC (bA U8 (aC (a9 .B 9) (aC (a9 .B 7) (aC (a9 .B 2) aN)))) (aC (a9 .B 10) aN)))))))))))))))))))))))
abbrev fg:List W->R W:=f7 1 14 rW
end K85
set_option maxHeartbeats 4000000
open PySem L2 TP
namespace K85
--RPX: jq, ji, ou, iJ, sC, ng, nC, gJ, bz, iL, iM, iK, mY, mX, mV
def rp14:=Z1 (@zA) (Z1 (@zw) (Z1 (@zu) (Z1 (@zr) (Z1 (@zc) (Z1 (@zo) (Z1 (@zl) (Z1 (@zm) (Z1 (@zg) (Z1 (@zh) (Z1 (@zp) (Z1 (@zq) (Z1 (@ze) (@zf)))))))))))))
def rp15:=Z1 (@Bool.not_true) (Z1 (@Bool.not_false) (Z1 (@Bool.true_or) (Z1 (@Bool.or_true) (Z1 (@Bool.false_or) (Z1 (@Bool.or_false) (Z1 (@Bool.true_and) (Z1 (@Bool.and_true) (Z1 (@Bool.false_and) (Z1 (@Bool.and_false) (Z1 (@Int.sub_zero) (Z1 (@Int.zero_add) (Z1 (@Int.toNat_natCast) (Z1 (@Bool.false_eq_true) (Z1 (@Bool.true_eq_false) (Z1 (@and_true) (Z1 (@true_and) (Z1 (@or_true) (Z1 (@true_or) (@and_self)))))))))))))))))))
def rp18:=Z1 (@List.length_cons.{0}) (Z1 (@List.length_nil.{0}) (Z1 (@List.length_map.{0,0}) (Z1 (@List.length_append.{0}) (Z1 (@List.length_set.{0}) (@List.length_range)))))
def rp16:=Z1 rp14 (Z1 rp15 (Z1 rp13 (Z1 rp12 (Z1 rp11 (Z1 rp10 (Z1 rp9 (Z1 rp8 (Z1 rp0 (Z1 rp1 (Z1 rp2 (Z1 rp3 (Z1 rp4 (Z1 rp5 (Z1 rp6 rp7))))))))))))))
def rp17:=Z1 (@List.map_cons.{0,0}) (Z1 (@List.map_nil.{0,0}) (Z1 (@List.replicate_succ.{0}) (Z1 (@List.replicate_zero.{0}) (Z1 (@List.cons_append.{0}) (Z1 (@List.nil_append.{0}) (Z1 (@List.append_nil.{0}) (Z1 (@R.ok_bind) (Z1 (@R.stuck_bind) (@R.ex_bind)))))))))
def rp19:=Z1 (@beq_self_eq_true.{0}) (Z1 (@Option.isNone_none.{0}) (Z1 (@Option.isNone_some.{0}) (Z1 (@Option.bind_some.{0,0}) (Z1 (@if_true.{1}) (Z1 (@if_false.{1}) (Z1 (@decide_true) (@decide_false)))))))
def Z3 (r:R Fl):R Fl:=match r with
 | .ok (.ct ρ)=>.ok (.nx ρ)
 | r=>r
theorem iL (ρ:Rho):Z3 (.ok (.nx ρ))=.ok (.nx ρ):=rfl
theorem iM (ρ:Rho):Z3 (.ok (.ct ρ))=.ok (.nx ρ):=rfl
theorem iK (w:W):Z3 (.ok (.rt w))=.ok (.rt w):=rfl
theorem bQ {mg:W->Rho->Option Rho} {mb:Rho->R Fl} {Jr:W->Prop} (I:Nat->Rho->Prop):∀ (ws:List W) (k:Nat) (ρ:Rho),I k ρ ->
  (∀ (i:Nat) (w:W) (ρ:Rho),ws[i]?=some w->I (k+i) ρ->∃ ρ1,mg w ρ=some ρ1/\Po (Z3 (mb ρ1)) (I (k+i+1)) Jr)->Po (z9 mg mb ws ρ) (I (k+ws.length)) Jr
 | [],k,ρ,h,_=>h
 | w::ws,k,ρ,h,st=>by
  obtain ⟨ρ1,e1,p⟩:=st 0 w ρ rfl h
  unfold z9
  rw [e1]
  show Po (mb ρ1>>=_) _ _
  have go:∀ ρ2,I (k+0+1) ρ2->Po (z9 mg mb ws ρ2) (I (k+(w::ws).length)) Jr:=fun ρ2 p=>by
   have:=bQ (mg:=mg) (mb:=mb) I ws (k+1) ρ2 p fun i w ρ hw hp=>by
    have:=st (i+1) w ρ (by simpa using hw) (by rw [show k+(i+1)=k+1+i by omega]; exact hp)
    rw [show k+(i+1)+1=k+1+i+1 by omega] at this
    exact this
   rw [List.length_cons,show k+(ws.length+1)=k+1+ws.length by omega]
   exact this
  revert p
  cases mb ρ1 with
  | ex _=>exact fun p=>p.elim
  | stuck=>exact fun p=>p.elim
  | ok f=>cases f with
   | bk _=>exact fun p=>p.elim
   | ct ρ2=>exact fun p=>go ρ2 p
   | rt w=>exact fun p=>p
   | nx ρ2=>exact fun p=>go ρ2 p
theorem pK {mg:W->Rho->Option Rho} {mb n:Rho->R Fl} {ws:List W} {ρ:Rho} {Jn:Rho->Prop} {Jr:W->Prop} (I:Nat->Rho->Prop) (h0:I 0 ρ)
  (st:∀ (i:Nat) (w:W) (ρ:Rho),ws[i]?=some w->I i ρ->∃ ρ1,mg w ρ=some ρ1/\Po (Z3 (mb ρ1)) (I (i+1)) Jr) (hn:∀ ρ,I ws.length ρ->Po (n ρ) Jn Jr):Po (andThen (z9 mg mb ws ρ) n) Jn Jr:=by
 have:=bQ (mg:=mg) (mb:=mb) (Jr:=Jr) I ws 0 ρ h0 fun i w ρ hw hp=>by rw [Nat.zero_add] at hp ⊢; exact st i w ρ hw hp
 rw [Nat.zero_add] at this
 exact M8 (this.mono hn fun _ h=>h)
theorem iX {b:Bool} {m n:Rho->R Fl} {ρ:Rho} {k:Rho->R Fl} {Jn:Rho->Prop} {Jr:W->Prop} (h1:b=true->Po (Z3 (andThen (m ρ) k)) Jn Jr) (h2:b=false->Po (Z3 (andThen (n ρ) k)) Jn Jr):Po (Z3 (andThen (ifS (.ok b) m n ρ) k)) Jn Jr:=by
 cases b with
 | true=>exact h1 rfl
 | false=>exact h2 rfl
theorem sC (ns:List Int) (l u:Option Int):Rst (.ok (.tup (ns.map W.int))) (.ok l) (.ok u)=.ok (.tup (G9 (ns.map W.int) l u)):=Bw (E1 ns) l u
def rpZ:=Z1 rp19 (Z1 rp16 (Z1 rp17 (Z1 rp18 (Z1 @jq (Z1 @ji (Z1 @ou (Z1 @iJ (Z1 @sC (Z1 @ng (Z1 @nC (Z1 @gJ (Z1 @bz (Z1 @iL (Z1 @iM (Z1 @iK (Z1 @mY (Z1 @mX (Z1 @mV (@decide_eq_true_eq)))))))))))))))))))
def rpB:=Z1 (@xo) (Z1 (@xn) (Z1 (@xm) (Z1 (@xl) (@xk))))
local macro_rules | `(tactic| exists $[$es],*)=>`(tactic| simp (disch:=first | with_reducible assumption | omega | (simp only [rp18]; omega)) only [List.getElem?_cons_zero,List.getElem?_cons_succ,List.set_cons_succ,List.set_cons_zero,tyW,isN,simprocAttr,rpZ,$[$es:term],*])
theorem memD {ns:List Int} {P:Int->Prop} (h:∀ x∈ns,P x) {i:Nat} (hi:i<ns.length):P (ns.getD i 0):=mem_getD h hi
def d8 (a b:List Int):Bool:=(List.range a.length).all fun k=>decide (b.getD k 0<=a.getD k 0)
theorem sv {a b:List Int} {i:Nat} (hi:i<a.length) (h:a.getD i 0<b.getD i 0):d8 a b=false:=by
 unfold d8
 rw [List.all_eq_false]
 exact ⟨i,by simpa using hi,fun h'=>by have:=of_decide_eq_true h'; omega⟩
theorem fj {a b:List Int} (h:∀ k,k<a.length->b.getD k 0<=a.getD k 0):d8 a b=true:=by
 unfold d8
 rw [List.all_eq_true]
 exact fun k hk=>decide_eq_true (h k (by simpa using hk))
theorem eA {a b:List Int} (hl:b.length=a.length):Q8 [tI a,tI b]=.ok (.bl (d8 a b)):=by
 have fin:Ok (Q8 [tI a,tI b]) fun v=>v=.bl (d8 a b):=by
  have hz:=bD (tI a) (tI b) _ _ rfl rfl
  rw [ay hl] at hz
  exists rpB,gD,hz
  refine o6 (p9 (fun i ρ=>∃ u v,ρ = [.par (tI a),.par (tI b),u,v]/\∀ k,k<i->b.getD k 0<=a.getD k 0) ⟨_,_,rfl,fun k hk=>absurd hk (Nat.not_lt_zero _)⟩ ?_ ?_)
  ·rintro i u ρ hu ⟨_,_,rfl,hall⟩
   obtain ⟨hi,rfl⟩:=pC hu
   refine ⟨_,rfl,?_⟩
   exists rp18
   refine C0 (fun h=>?_) (fun h=>?_)
   ·exists rp18
    rw [sv hi (by simpa using h)]
   ·exists rp18
    refine ⟨_,_,rfl,fun k hk=>?_⟩
    by_cases e:k=i
    ·subst e; simpa using h
    ·exact hall k (by omega)
  ·rintro ρ ⟨_,_,rfl,hall⟩
   rw [List.length_map,List.length_range] at hall
   exists rp18
   rw [fj hall]
 obtain ⟨v,e,rfl⟩:=fin
 exact e
def h7 (s:List Int) (ss:List (List Int)):Bool:=ss.any (d8 s)
theorem ad {ss:List (List Int)} {i:Nat} (h:i<ss.length):ss.getD i []∈ss:=by
 rw [List.getD_eq_getElem?_getD]; simp [h]
theorem U5 {ss:List (List Int)} {i:Nat} {w:W} (h:(ss.map tI)[i]?=some w):i<ss.length/\w=tI (ss.getD i []):=by
 rw [List.getElem?_map] at h
 cases q:ss[i]? with
 | none=>rw [q] at h; cases h
 | some k=>
  rw [q] at h
  cases h
  exact ⟨(List.getElem?_eq_some_iff.mp q).1,by rw [List.getD_eq_getElem?_getD,q]; rfl⟩
theorem rX {s:List Int} {ss:List (List Int)} {i:Nat} (hi:i<ss.length) (h:d8 s (ss.getD i [])=true):h7 s ss=true:=by
 unfold h7
 rw [List.any_eq_true]
 exact ⟨_,ad hi,h⟩
theorem rY {s:List Int} {ss:List (List Int)} (h:∀ k,k<ss.length->d8 s (ss.getD k [])=false):h7 s ss=false:=by
 unfold h7
 rw [List.any_eq_false]
 intro x hx
 obtain ⟨i,hi,e⟩:=List.mem_iff_getElem.mp hx
 have:=h i hi
 rw [List.getD_eq_getElem?_getD] at this
 simp [hi,e] at this
 simp [this]
theorem S5 {s:List Int} {ss:List (List Int)} (hl:∀ x∈ss,x.length=s.length):G8 [tI s,.lst (ss.map tI)]=.ok (.bl (h7 s ss)):=by
 have fin:Ok (G8 [tI s,.lst (ss.map tI)]) fun v=>v=.bl (h7 s ss):=by
  exists rpB,gA
  refine o6 (p9 (fun i ρ=>∃ u,ρ = [.par (tI s),.par (.lst (ss.map tI)),u]/\∀ k,k<i->d8 s (ss.getD k [])=false) ⟨_,rfl,fun k hk=>absurd hk (Nat.not_lt_zero _)⟩ ?_ ?_)
  ·rintro i u ρ hu ⟨_,rfl,hall⟩
   obtain ⟨hi,rfl⟩:=U5 hu
   have hc:=eA (a:=s) (b:=ss.getD i []) (hl _ (ad hi))
   refine ⟨_,rfl,?_⟩
   exists hc
   refine C0 (fun h=>?_) (fun h=>?_)
   ·exists rp18
    rw [rX hi h]
   ·exists rp18
    refine ⟨_,rfl,fun k hk=>?_⟩
    by_cases e:k=i
    ·subst e; exact h
    ·exact hall k (by omega)
  ·rintro ρ ⟨_,rfl,hall⟩
   rw [List.length_map] at hall
   exists rp18
   rw [rY hall]
 obtain ⟨v,e,rfl⟩:=fin
 exact e
def v7 (g t p:List Int):List Int:=(List.range g.length).map fun k=>max (t.getD k 0) (g.getD k 0-p.getD k 0+t.getD k 0)
theorem W2 (g t p:List Int):(v7 g t p).length=g.length:=by simp [v7]
theorem lF {g t p:List Int} (ht:t.length=g.length) (hp:p.length=g.length) (hg:g.length<=6):bt [tI g,.tup [tI t,tI p]]=.ok (tI (v7 g t p)):=by
 have a0:L2.atI [tI t,tI p] 0=some (tI t):=rfl
 have a1:L2.atI [tI t,tI p] 1=some (tI p):=rfl
 have hz:=wy (tI g) (tI t) (tI p) _ _ _ rfl rfl rfl
 rw [sP ht hp] at hz
 exists rpB,gx,a0,a1,hz
 have e:∀ N mg me ρ (h:∀ k,k<g.length->∃ ρ1,mg (.tup [.int (g.getD k 0),.int (t.getD k 0),.int (p.getD k 0)]) (ρ++List.replicate (N-ρ.length) Sl.un)=some ρ1/\me ρ1=.ok (.int (max (t.getD k 0) (g.getD k 0-p.getD k 0+t.getD k 0)))),k7 N mg yes me ((List.range g.length).map fun k=>.tup [.int (g.getD k 0),.int (t.getD k 0),.int (p.getD k 0)]) ρ=.ok (lI (v7 g t p)):=fun N mg me ρ h=>by
  rw [n6 (fun k=>.int (max (t.getD k 0) (g.getD k 0-p.getD k 0+t.getD k 0))) _ _ ρ (by simpa using (by omega:g.length<=1000)) (fun k hk=>h k (by simpa using hk)),kA]
  rfl
 rw [e]
 ·exists rp18
 ·intro k hk
  refine ⟨_,rfl,?_⟩
  exists rp18
abbrev Mv:=List Int×List Int
abbrev mW (m:Mv):W:=.tup [tI m.1,tI m.2]
abbrev lS (ss:List (List Int)):W:=.lst (ss.map tI)
abbrev tM_ (ms:List Mv):W:=.tup (ms.map mW)
theorem yN (m:Mv):noL (mW m)=true:=by simp [noL,k9,E1]
theorem yM (ms:List Mv):k9 (ms.map mW)=true:=bj mW yN ms
theorem aI {ms:List Mv} {i:Nat} {w:W} (h:(ms.map mW)[i]?=some w):∃ m,m∈ms/\ms[i]?=some m/\w=mW m:=by
 rw [List.getElem?_map] at h
 cases q:ms[i]? with
 | none=>rw [q] at h; cases h
 | some m=>rw [q] at h; cases h; exact ⟨m,List.mem_of_getElem? q,rfl,rfl⟩
def okM (n:Nat) (m:Mv):Prop:=m.1.length=n/\m.2.length=n
def m8 (ms:List Mv) (ss:List (List Int)):List (List Int):=ms.flatMap fun m=>ss.map fun s=>v7 s m.1 m.2
theorem W1 {ms:List Mv} {ss:List (List Int)}:(m8 ms ss).length=ms.length*ss.length:=by
 unfold m8
 induction ms with
 | nil=>simp
 | cons m ms ih=>rw [List.flatMap_cons,List.length_append,ih,List.length_map,List.length_cons,Nat.succ_mul,Nat.add_comm]
theorem bf {n:Nat} {ms:List Mv} {ss:List (List Int)} (hs:∀ x∈ss,x.length=n):∀ x∈m8 ms ss,x.length=n:=fun x hx=>by
 unfold m8 at hx
 obtain ⟨m,_,hx⟩:=List.mem_flatMap.mp hx
 obtain ⟨s,hs',rfl⟩:=List.mem_map.mp hx
 rw [W2]; exact hs s hs'
theorem bG {n:Nat} {ms:List Mv} {ss:List (List Int)} (h6:n<=6) (hm:∀ m∈ms,okM n m) (hs:∀ x∈ss,x.length=n) (hml:ms.length<=8) (hsl:ss.length<=100):N1 [tM_ ms,lS ss]=.ok (lS (m8 ms ss)):=by
 have fin:Ok (N1 [tM_ ms,lS ss]) fun v=>v=lS (m8 ms ss):=by
  exists rpB,dQ
  refine o6 (p9 (fun i ρ=>∃ (u:Sl),ρ = [.par (tM_ ms),.par (lS ss),.own ((m8 (ms.take i) ss).map tI),u]/\i<=ms.length) ⟨_,rfl,Nat.zero_le _⟩ ?_ ?_)
  ·rintro i w ρ hw ⟨u,rfl,hi⟩
   obtain ⟨m,hmm,hmi,rfl⟩:=aI hw
   have hi':i<ms.length:=(List.getElem?_eq_some_iff.mp hmi).1
   refine ⟨_,rfl,?_⟩
   have e:∀ N mg me ρ (h:∀ s∈ss,∃ ρ1,mg (tI s) (ρ++List.replicate (N-ρ.length) Sl.un)=some ρ1/\me ρ1=.ok (tI (v7 s m.1 m.2))),k7 N mg yes me (ss.map tI) ρ=.ok (lS (ss.map fun s=>v7 s m.1 m.2)):=fun N mg me ρ h=>by
    rw [n6 (fun s=>tI (v7 s m.1 m.2)) _ _ ρ (by omega) h]; exact congrArg (fun l=>R.ok (W.lst l)) (by rw [List.map_map]; rfl)
   exists rp18
   rw [e]
   ·have hl:(m8 (ms.take i) ss).length+ss.length<=1000:=by
     rw [W1,List.length_take,Nat.min_eq_left (by omega)]
     have:=Nat.mul_le_mul (show i<=8 by omega) hsl
     omega
    exists rp18
    refine ⟨.par (mW m),?_,hi'⟩
    have:m8 (ms.take (i+1)) ss=m8 (ms.take i) ss++ss.map fun s=>v7 s m.1 m.2:=by
     unfold m8
     rw [List.take_succ,hmi]
     simp
    rw [this]
   ·intro s hss
    have hk:=lF (g:=s) (t:=m.1) (p:=m.2) (by rw [hs s hss,(hm m hmm).1]) (by rw [hs s hss,(hm m hmm).2]) (by rw [hs s hss]; exact h6)
    refine ⟨_,rfl,?_⟩
    exists hk
  ·rintro ρ ⟨u,rfl,hi⟩
   rw [List.length_map,List.take_length]
   exists rp18
 obtain ⟨v,e,rfl⟩:=fin
 exact e
theorem cov_iff {a b:List Int}:d8 a b=true↔∀ k,k<a.length->b.getD k 0<=a.getD k 0:=by
 unfold d8
 rw [List.all_eq_true]
 exact ⟨fun h k hk=>of_decide_eq_true (h k (by simpa using hk)),fun h k hk=>decide_eq_true (h k (by simpa using hk))⟩
theorem jA:∀ {a b:List Int},a.length=b.length->d8 a b=true->TP.lexLt a b=false
 | [],[],_,_=>rfl
 | [],_::_,h,_=>by simp at h
 | _::_,[],h,_=>by simp at h
 | x::a,y::b,h,hc=>by
  have hc:=cov_iff.mp hc
  have h0:=hc 0 (by simp)
  have h0:y<=x:=h0
  unfold TP.lexLt
  by_cases e:x=y
  ·rw [if_pos e]
   refine jA (by simpa using h) (cov_iff.mpr fun k hk=>?_)
   have:=hc (k+1) (by simpa using hk)
   simpa using this
  ·rw [if_neg e]
   exact decide_eq_false (by omega)
def bst (acc:List (List Int)) (s:List Int):List (List Int):=if h7 s acc then acc else acc ++ [s]
def x8 (ss:List (List Int)):List (List Int):=(y9 ss).foldl bst []
theorem cM:∀ (l acc:List (List Int)),(acc.Pairwise fun a b=>d8 b a=false) ->
  (∃ t,t.Sublist l/\l.foldl bst acc=acc++t)/\((l.foldl bst acc).Pairwise fun a b=>d8 b a=false)/\∀ z∈l,∃ s∈l.foldl bst acc,d8 z s=true
 | [],acc,h2=>⟨⟨[],.slnil,by simp⟩,h2,fun _ h=>nomatch h⟩
 | z::l,acc,h2=>by
  rw [List.foldl_cons]
  cases c:h7 z acc with
  | true=>
   have e:bst acc z=acc:=by unfold bst; rw [if_pos c]
   rw [e]
   obtain ⟨⟨t,ht,et⟩,i3,i4⟩:=cM l acc h2
   refine ⟨⟨t,ht.cons z,et⟩,i3,fun y hy=>?_⟩
   rcases List.mem_cons.mp hy with rfl | hy
   ·unfold h7 at c
    obtain ⟨s,hs,hw⟩:=List.any_eq_true.mp c
    exact ⟨s,by rw [et]; exact List.mem_append_left _ hs,hw⟩
   ·exact i4 y hy
  | false=>
   have e:bst acc z=acc ++ [z]:=by unfold bst; rw [if_neg (by rw [c]; exact Bool.false_ne_true)]
   rw [e]
   have hno:∀ s∈acc,d8 z s=false:=fun s hs=>by
    unfold h7 at c
    rw [List.any_eq_false] at c
    simpa using c s hs
   obtain ⟨⟨t,ht,et⟩,i3,i4⟩:=cM l (acc ++ [z]) (by
    rw [List.pairwise_append]
    refine ⟨h2,List.pairwise_singleton _ _,fun a ha b hb=>?_⟩
    rw [List.mem_singleton.mp hb]; exact hno a ha)
   refine ⟨⟨z::t,ht.cons₂ z,by rw [et]; simp⟩,i3,fun y hy=>?_⟩
   rcases List.mem_cons.mp hy with rfl | hy
   ·refine ⟨y,?_,fj fun k hk=>Int.le_refl _⟩
    rw [et]; simp
   ·exact i4 y hy
structure Bas (n:Nat) (B:List (List Int)):Prop where
 len:∀ b∈B,b.length=n
 up:B.Pairwise fun a b=>TP.lexLt b a=false
 a1:B.Pairwise fun a b=>d8 b a=false
theorem X8 (a:List Int):d8 a a=true:=fj fun k hk=>Int.le_refl _
theorem Bas.a2 {n:Nat} {B:List (List Int)} (h:Bas n B):B.Pairwise fun a b=>d8 a b=false:=by
 refine List.Pairwise.imp_of_mem (fun {a b} ha hb q=>?_) (h.up.and h.a1)
 cases c:d8 a b with
 | false=>rfl
 | true=>
  exfalso
  have l1:=jA (by rw [h.len a ha,h.len b hb]) c
  have e:=L4 _ _ l1 q.1
  rw [e,X8] at q
  exact absurd q.2 (by decide)
theorem Bas.lt {n:Nat} {B:List (List Int)} (h:Bas n B):B.Pairwise fun a b=>TP.lexLt a b=true:=by
 refine List.Pairwise.imp_of_mem (fun {a b} ha hb q=>?_) (h.up.and h.a1)
 cases c:TP.lexLt a b with
 | true=>rfl
 | false=>
  exfalso
  have e:=L4 _ _ c q.1
  rw [e,X8] at q
  exact absurd q.2 (by decide)
theorem aH {n:Nat} {ss:List (List Int)} (h:∀ s∈ss,s.length=n):Bas n (x8 ss)/\(∀ b∈x8 ss,b∈ss)/\(∀ s∈ss,∃ b∈x8 ss,d8 s b=true)/\(x8 ss).length<=ss.length:=by
 have hp:=J1 ss
 obtain ⟨⟨t,ht,et⟩,i3,i4⟩:=cM (y9 ss) [] .nil
 rw [List.nil_append] at et
 have hs:(x8 ss).Sublist (y9 ss):=by unfold x8; rw [et]; exact ht
 refine ⟨⟨fun b hb=>h b (hp.mem_iff.mp (hs.subset hb)),(aB ss).sublist hs,i3⟩,fun b hb=>hp.mem_iff.mp (hs.subset hb),fun s q=>i4 s (hp.mem_iff.mpr q),?_⟩
 have:=hs.length_le
 rw [hp.length_eq] at this
 exact this
theorem dZ:∀ (l acc:List (List Int)),((acc++l).Pairwise fun a b=>d8 b a=false)->l.foldl bst acc=acc++l
 | [],acc,_=>by simp
 | z::l,acc,h=>by
  rw [List.foldl_cons]
  have hz:h7 z acc=false:=by
   unfold h7
   rw [List.any_eq_false]
   intro s hs
   have:=(List.pairwise_append.mp h).2.2 s hs z List.mem_cons_self
   rw [this]; exact Bool.false_ne_true
  have e:bst acc z=acc ++ [z]:=by unfold bst; rw [if_neg (by rw [hz]; exact Bool.false_ne_true)]
  rw [e,dZ l (acc ++ [z]) (by simpa using h)]
  simp
theorem qh {n:Nat} {B ss:List (List Int)} (h:Bas n B) (hp:ss.Perm B):x8 ss=B:=by
 have e:y9 ss=B:=List.Perm.eq_of_pairwise (le:=fun a b=>TP.lexLt b a=false) (fun a b _ _ x y=>L4 _ _ y x) (aB ss) h.up ((J1 ss).trans hp)
 unfold x8
 rw [e,dZ B [] (by simpa using h.a1)]
 rfl
theorem jo {ss:List (List Int)} (h:ss.length<=1000) (hne:∀ z∈ss,z ≠ []):fSortA [lS ss]=.ok (lS (y9 ss)):=by
 have hall:ss.all (fun x=>!x.isEmpty)=true:=by
  rw [List.all_eq_true]
  intro x hx
  have:=hne x hx
  cases x with
  | nil=>exact absurd rfl this
  | cons _ _=>rfl
 show (match O0 (ss.map fun x=>W.tup (x.map W.int)) with | some ss=>_ | none=>_)=_
 rw [fu]
 show (if _ then _ else _)=_
 rw [if_pos ⟨h,hall⟩]
theorem oN {l:List (List Int)} {i:Nat} (hi:i<l.length):(l.take (i+1)).foldl bst []=bst ((l.take i).foldl bst []) (l.getD i []):=by
 rw [List.take_succ,List.foldl_append,List.getD_eq_getElem?_getD]
 simp [List.getElem?_eq_getElem hi]
theorem fold_subB {l:List (List Int)}:(l.foldl bst []).Sublist l:=by
 obtain ⟨⟨t,ht,et⟩,_⟩:=cM l [] .nil
 rw [List.nil_append] at et
 rw [et]; exact ht
theorem qm {n:Nat} {ss:List (List Int)} (h1:1<=n) (h:∀ s∈ss,s.length=n) (h64:ss.length<=900):aK [lS ss]=.ok (lS (x8 ss)):=by
 have fin:Ok (aK [lS ss]) fun v=>v=lS (x8 ss):=by
  have k0:=jo (ss:=ss) (by omega) fun z hz e=>by have:=h z hz; rw [e] at this; simp at this; omega
  have hp:=J1 ss
  have hlen:=hp.length_eq
  have hSl:∀ s∈y9 ss,s.length=n:=fun s hs=>h s (hp.mem_iff.mp hs)
  exists rpB,jf,k0
  unfold x8
  generalize y9 ss=S at hlen hSl
  refine o6 (p9 (fun i ρ=>∃ a:Sl,ρ = [.par (lS ss),.own (((S.take i).foldl bst []).map tI),a]) ⟨_,rfl⟩ ?_ ?_)
  ·rintro i u ρ hu ⟨a,rfl⟩
   obtain ⟨hi,rfl⟩:=U5 hu
   have hmem:=ad hi
   have etk:=oN hi
   have hsub:((S.take i).foldl bst []).Sublist S:=fold_subB.trans (List.take_sublist _ _)
   generalize (S.take i).foldl bst []=F at etk hsub
   generalize S.getD i []=z at hmem etk
   have hFl:F.length<=900:=by have:=hsub.length_le; omega
   have k1:=S5 (s:=z) (ss:=F) fun x hx=>by rw [hSl x (hsub.subset hx),hSl z hmem]
   refine ⟨_,rfl,?_⟩
   exists k1
   refine C0 (fun h=>?_) (fun h=>?_)
   ·exists B6 (E2 z)
    refine ⟨.par (tI z),?_⟩
    rw [etk]
    unfold bst
    rw [if_neg (by simpa using h),List.map_append]
   ·exists rp18
    refine ⟨.par (tI z),?_⟩
    rw [etk]
    unfold bst
    rw [if_pos (by simpa using h)]
  ·rintro ρ ⟨a,rfl⟩
   rw [List.length_map,List.take_length]
   exists rp18
 obtain ⟨v,e,rfl⟩:=fin
 exact e
theorem atS {ss:List (List Int)} {i:Nat} (h:i<ss.length):L2.atI (ss.map tI) (i:Int)=some (tI (ss.getD i [])):=by
 have:=ik tI (as:=ss) (d:=[]) (i:=(i:Int)) (by omega)
 rw [Int.toNat_natCast] at this
 exact this
theorem jl (p:List Int):∀ qs:List (List Int),((pds (qs.map tI)).any fun y=>PyData.eqv y (pd (tI p)))=decide (p∈qs)
 | []=>by simp [pds]
 | q::qs=>by
  have g:=jl p qs
  have e:PyData.eqv (pd (tI q)) (pd (tI p))=decide (q=p):=eqI q p
  simp only [List.map_cons,pds,List.any_cons,g,e]
  by_cases h:q=p
  ·subst h; simp
  ·have h':¬ p=q:=fun e=>h e.symm
   simp [h,h']
theorem Aj (neg:Bool) (p:List Int) (qs:List (List Int)):fIn neg (tI p) (lS qs)=.ok (.bl (if neg then !decide (p∈qs) else decide (p∈qs))):=by
 have e:inW (tI p) (lS qs)=some (decide (p∈qs)):=congrArg some (jl p qs)
 unfold fIn
 rw [bJ,fB,Bool.and_self,if_pos rfl,e]
theorem au {a b c:List Int} (h1:a.length=b.length) (x:d8 a b=true) (y:d8 b c=true):d8 a c=true:=cov_iff.mpr fun k hk=>by
 have p:=cov_iff.mp x k hk
 have q:=cov_iff.mp y k (by omega)
 omega
section
variable {n:Nat} {ms:List Mv} {ss:List (List Int)} (hs:∀ x∈ss,x.length=n)
include hs
theorem fk:∀ x∈ss++m8 ms ss,x.length=n:=fun x hx=>by
 rcases List.mem_append.mp hx with q | q
 ·exact hs x q
 ·exact bf hs x q
end
theorem tq {n:Nat} {ms:List Mv} {ss:List (List Int)} (h1:1<=n) (h6:n<=6) (hm:∀ m∈ms,okM n m) (hs:∀ x∈ss,x.length=n) (hml:ms.length<=8) (hsl:ss.length<=100) (h64:ss.length+ms.length*ss.length<=900):M3 [tM_ ms,lS ss]=.ok (lS (x8 (ss++m8 ms ss))):=by
 have k1:=bG h6 hm hs hml hsl
 have k2:=qm (ss:=ss++m8 ms ss) h1 (fk hs) (by rw [List.length_append,W1]; exact h64)
 have k3:dw true (.lst (ss.map tI)) (lS (m8 ms ss))=.ok (lS (ss++m8 ms ss)):=by
  rw [nJ (by simp [W1]; omega),<- List.map_append]; rfl
 exists rpB,aP,k1,k3,k2
def E5 (ms:List Mv) (ss:List (List Int)):Bool:=(m8 ms ss).all fun s=>h7 s ss
theorem tD {n:Nat} {ms:List Mv} {ss:List (List Int)} (h6:n<=6) (hm:∀ m∈ms,okM n m) (hs:∀ x∈ss,x.length=n) (hml:ms.length<=8) (hsl:ss.length<=100):ai [tM_ ms,lS ss]=.ok (.bl (E5 ms ss)):=by
 have k1:=bG h6 hm hs hml hsl
 have e:∀ N mg me ρ (h:∀ s∈m8 ms ss,∃ ρ1,mg (tI s) (ρ++List.replicate (N-ρ.length) Sl.un)=some ρ1/\me ρ1=.ok (.bl (h7 s ss))),k7 N mg yes me ((m8 ms ss).map tI) ρ=.ok (.lst (((m8 ms ss).map fun s=>h7 s ss).map W.bl)):=fun N mg me ρ h=>by
  rw [n6 (fun s=>W.bl (h7 s ss)) _ _ ρ (by rw [W1]; have:=Nat.mul_le_mul hml hsl; omega) h,List.map_map]; rfl
 exists rpB,dR,k1
 rw [e]
 ·exists rp18
  unfold br E5
  rw [List.all_map]; rfl
 ·intro s hss
  have hk:=S5 (s:=s) (ss:=ss) (fun x hx=>by rw [hs x hx,bf hs s hss])
  refine ⟨_,rfl,?_⟩
  exists hk
def Bk (ms:List Mv) (t:List Int):Nat->List (List Int)
 | 0=>[t]
 | k+1=>x8 (Bk ms t k++m8 ms (Bk ms t k))
theorem R8 {n:Nat} {ms:List Mv} {t:List Int} (ht:t.length=n):∀ k,Bas n (Bk ms t k)
 | 0=>⟨fun b hb=>by rw [List.mem_singleton.mp hb]; exact ht,List.pairwise_singleton _ _,List.pairwise_singleton _ _⟩
 | k+1=>(aH (fk (ms:=ms) (R8 ht k).len)).1
section
variable {n:Nat} {ms:List Mv} {t:List Int} (ht:t.length=n)
include ht
end
theorem qX {a b:List Int} (h:a.length=b.length) (h1:d8 a b=true) (h2:d8 b a=true):a=b:=by
 apply List.ext_getElem h
 intro k ha hb
 have p:=cov_iff.mp h1 k ha
 have q:=cov_iff.mp h2 k hb
 have ea:a.getD k 0=a[k]:=by rw [List.getD_eq_getElem?_getD]; simp [ha]
 have eb:b.getD k 0=b[k]:=by rw [List.getD_eq_getElem?_getD]; simp [hb]
 rw [ea,eb] at p q
 omega
theorem Bas.one {n:Nat} {B:List (List Int)} (hB:Bas n B) {b b':List Int} (hb:b∈B) (hb':b'∈B) (h2:d8 b b'=true):b=b':=by
 obtain ⟨i,hi,e1⟩:=List.mem_iff_getElem.mp hb
 obtain ⟨i',hi',e2⟩:=List.mem_iff_getElem.mp hb'
 rcases Nat.lt_trichotomy i i' with q | q | q
 ·have:=List.pairwise_iff_getElem.mp hB.a2 i i' hi hi' q
  rw [e1,e2,h2] at this; cases this
 ·subst q; rw [<- e1,<- e2]
 ·have:=List.pairwise_iff_getElem.mp hB.a1 i' i hi' hi q
  rw [e1,e2,h2] at this; cases this
theorem jE {n:Nat} {A B:List (List Int)} (hA:Bas n A) (hB:Bas n B) (h1:∀ a∈A,∃ b∈B,d8 a b=true) (h2:∀ b∈B,∃ a∈A,d8 b a=true):∀ a∈A,a∈B:=fun a ha=>by
 obtain ⟨b,hb,c1⟩:=h1 a ha
 obtain ⟨a',ha',c2⟩:=h2 b hb
 have la:=hA.len a ha
 have lb:=hB.len b hb
 have e:=hA.one ha ha' (au (by omega) c1 c2)
 rw [<- e] at c2
 rw [qX (by omega) c1 c2]; exact hb
theorem oq {n:Nat} {A B:List (List Int)} (hA:Bas n A) (hB:Bas n B) (h1:∀ a∈A,∃ b∈B,d8 a b=true) (h2:∀ b∈B,∃ a∈A,d8 b a=true):A=B:=by
 have s1:=jE hA hB h1 h2
 have s2:=jE hB hA h2 h1
 have nd:∀ {L:List (List Int)},Bas n L->L.Nodup:=fun h=>h.lt.imp fun q e=>by subst e; rw [TP.lex_irr] at q; cases q
 have hp:A.Perm B:=(List.perm_ext_iff_of_nodup (nd hA) (nd hB)).mpr fun x=>⟨s1 x,s2 x⟩
 exact List.Perm.eq_of_pairwise (le:=fun a b=>TP.lexLt a b=true) (fun a b _ _ x y=>by have:=TP.lex_tr _ _ _ x y; rw [TP.lex_irr] at this; cases this) hA.lt hB.lt hp
theorem oU {n:Nat} {ms:List Mv} {ss:List (List Int)} (hs:∀ x∈ss,x.length=n):decide (x8 (ss++m8 ms ss)=x8 ss)=E5 ms ss:=by
 have m1:=aH (fk (ms:=ms) hs)
 have m2:=aH hs
 have up:∀ {b:List Int},b∈ss->∃ a∈x8 (ss++m8 ms ss),d8 b a=true:=fun hb=>m1.2.2.1 _ (List.mem_append_left _ hb)
 by_cases q:x8 (ss++m8 ms ss)=x8 ss
 ·rw [decide_eq_true q]
  symm
  unfold E5
  rw [List.all_eq_true]
  intro x hx
  obtain ⟨b,hb,c⟩:=m1.2.2.1 x (List.mem_append_right _ hx)
  rw [q] at hb
  exact List.any_eq_true.mpr ⟨b,m2.2.1 b hb,c⟩
 ·rw [decide_eq_false q]
  cases r:E5 ms ss with
  | false=>rfl
  | true=>
   exfalso
   refine q (oq m1.1 m2.1 (fun a ha=>?_) fun b hb=>up (m2.2.1 b hb))
   rcases List.mem_append.mp (m1.2.1 a ha) with h | h
   ·exact m2.2.2.1 a h
   ·unfold E5 at r
    have:=List.all_eq_true.mp r a h
    unfold h7 at this
    obtain ⟨d,hd,cd⟩:=List.any_eq_true.mp this
    obtain ⟨e,he,ce⟩:=m2.2.2.1 d hd
    exact ⟨e,he,au (by rw [hs d hd,bf hs a h]) cd ce⟩
theorem tK {n N:Nat} {m:Rho->R Fl} {ws:List W} (h:ws.length=n):Q2 n N m ws=R0 (m (ws.map Sl.val++List.replicate (N-n) Sl.un)):=by unfold Q2; rw [if_pos h]; rfl
theorem xj {N:Nat} {m:Rho->R Fl} (a b c d:W):Q2 4 N m [a,b,c,d]=R0 (m (Sl.val a::Sl.val b::Sl.val c::Sl.val d::List.replicate (N-4) Sl.un)):=tK rfl
def rgW (ms:List Mv) (t:List Int) (j:Nat):List W:=(List.range (j+1)).map fun i=>lS (Bk ms t i)
theorem fK (ms:List Mv) (t:List Int) (j:Nat):(rgW ms t j).length=j+1:=by simp [rgW]
theorem xx (ms:List Mv) (t:List Int) (j:Nat):rgW ms t (j+1)=rgW ms t j ++ [lS (Bk ms t (j+1))]:=by
 unfold rgW
 rw [List.range_succ,List.map_append]; rfl
theorem rL (ms:List Mv) (t:List Int) (j:Nat):L2.atI (rgW ms t j) (-1)=some (lS (Bk ms t j)):=by
 unfold L2.atI
 have:L2.ixN (rgW ms t j).length (-1)=some j:=by
  unfold L2.ixN
  rw [fK]
  simp
  omega
 rw [this]
 show (rgW ms t j)[j]?=_
 unfold rgW
 simp
def r6 (ms:List Mv) (t:List Int) (most:Nat) (word:String) (j:Nat):W:=if decide ((most:Int)<((Bk ms t j).length:Int))=true then .tup [.str "open",.int (j:Int)] else if E5 ms (Bk ms t j)=true then .tup [.str word,lS (Bk ms t j)] else if decide ((j:Int)=(most:Int))=true then .tup [.str "open",.int (j:Int)] else .non
theorem end_non {ms:List Mv} {t:List Int} {most:Nat} {word:String} {j:Nat}:r6 ms t most word j=.non↔((Bk ms t j).length<=most/\E5 ms (Bk ms t j)=false/\j≠most):=by
 unfold r6
 constructor
 ·intro h
  split at h
  ·cases h
  ·rename_i h1
   split at h
   ·cases h
   ·rename_i h2
    split at h
    ·cases h
    ·rename_i h3
     simp at h1 h2 h3
     exact ⟨by omega,h2,by omega⟩
 ·rintro ⟨h1,h2,h3⟩
  rw [if_neg (by simp; omega),h2,if_neg Bool.false_ne_true,if_neg (by simp; omega)]
theorem ef {n:Nat} {ms:List Mv} {t:List Int} {most j:Nat} {word:String} (h6:n<=6) (hm:∀ m∈ms,okM n m) (hml:ms.length<=8) (ht:t.length=n) (hmo:most<=30):L5 [tM_ ms,.lst (rgW ms t j),.int (most:Int),.str word]=.ok (r6 ms t most word j):=by
 have fin:Ok (L5 [tM_ ms,.lst (rgW ms t j),.int (most:Int),.str word]) fun v=>v=r6 ms t most word j:=by
  have a1:=rL ms t j
  have l1:=fK ms t j
  have hB:=R8 (ms:=ms) ht j
  have hnum:(((j+1:Nat):Int))-1=(j:Int):=by omega
  have ee:fEq false (.int (j:Int)) (.int (most:Int))=.ok (.bl (decide ((j:Int)=(most:Int)))):=nI false _ _
  have n1:k9 ((Bk ms t j).map tI)=true:=bY _
  exists xj,gC,a1,l1,hnum
  refine o6 (bP (fun h=>?_) (fun h=>?_))
  ·exists rp18
   unfold r6
   rw [if_pos h]
  have hle:(Bk ms t j).length<=most:=by have:=of_decide_eq_false h; omega
  have k1:=tD h6 hm hB.len hml (by omega)
  exists k1
  refine bP (fun h2=>?_) (fun h2=>?_)
  ·exists rp18
   unfold r6
   rw [if_neg (by rw [h]; exact Bool.false_ne_true),if_pos h2]
  exists ee
  refine bP (fun h3=>?_) (fun h3=>?_)
  ·exists rp18
   unfold r6
   rw [if_neg (by rw [h]; exact Bool.false_ne_true),if_neg (by rw [h2]; exact Bool.false_ne_true),if_pos h3]
  ·exists rp18
   unfold r6
   rw [if_neg (by rw [h]; exact Bool.false_ne_true),if_neg (by rw [h2]; exact Bool.false_ne_true),if_neg (by rw [h3]; exact Bool.false_ne_true)]
 obtain ⟨v,e,rfl⟩:=fin
 exact e
theorem lQ {a b c x:Sl} {R:List W} {w:W}:bg 4 [3] w [a,b,c,.own R,x] = [a,b,c,if noL w=true then .own R else .val (.lst R),.val w]:=by
 unfold bg
 split <;> rfl
theorem xq {n:Nat} {ms:List Mv} {t:List Int} {most j:Nat} {word:String} (hml:ms.length<=8) (hmo:most<=30) (h:r6 ms t most word j=.non):(Bk ms t j).length<=100/\(Bk ms t j).length+ms.length*(Bk ms t j).length<=900:=by
 have h:=(end_non.mp h).1
 have:=Nat.mul_le_mul hml (show (Bk ms t j).length<=30 by omega)
 omega
theorem nK {n:Nat} {ms:List Mv} {t:List Int} {most:Nat} (h1:1<=n) (h6:n<=6) (hm:∀ m∈ms,okM n m) (hml:ms.length<=8) (ht:t.length=n) (hmo:most<=30):Ok (bv [tM_ ms,tI t,.int (most:Int)]) fun w=>∃ j,w=r6 ms t most "basis" j/\w≠.non/\∀ i,i<j->r6 ms t most "basis" i=.non:=by
 have e0:=ef (j:=0) (word := "basis") h6 hm (by omega) ht hmo
 have e0':L5 [tM_ ms,.lst [.lst [tI t]],.int (most:Int),.str "basis"]=.ok (r6 ms t most "basis" 0):=e0
 have isn:∀ w:W,isN w=true↔w=.non:=fun w=>by cases w <;> simp [isN]
 have cm:chk (tM_ ms)=.ok (tM_ ms):=B6 (yM ms)
 have ct:=B6 (E2 t)
 exists rpB,gB,lX,dY,hJ,oy,ct,cm,e0',lQ
 refine o6 (M8 ?_)
 refine W8 (fun k ρ=>∃ (j:Nat) (x:Sl),ρ = [.par (tM_ ms),.par (tI t),.par (.int (most:Int)),x,.val (r6 ms t most "basis" j)]/\(noL (r6 ms t most "basis" j)=true->x=.own (rgW ms t j))/\k=most-j/\∀ i,i<j->r6 ms t most "basis" i=.non) ?_ most _ ⟨0,_,rfl,fun h=>by rw [if_pos h]; rfl,rfl,fun i hi=>absurd hi (Nat.not_lt_zero _)⟩
 rintro k ρ ⟨j,x,rfl,hx,hk,hall⟩
 by_cases hw:r6 ms t most "basis" j=.non
 ·refine ⟨true,?_,?_⟩
  ·rw [hw]
   exists rp18
  rw [if_pos rfl]
  rw [hx (by rw [hw]; rfl)]
  have rm:=xq (n:=n) hml hmo hw
  have hj:=(end_non.mp hw).2.2
  have a1:=rL ms t j
  have l1:=fK ms t j
  have k1:=tq h1 h6 hm (R8 (ms:=ms) ht j).len (by omega) rm.1 rm.2
  have k1':M3 [tM_ ms,lS (Bk ms t j)]=.ok (lS (Bk ms t (j+1))):=k1
  have e1:=ef (j:=j+1) (word := "basis") h6 hm (by omega) ht hmo
  have hjm:j<most:=by
   by_cases q:j<most
   ·exact q
   ·exfalso
    have:=hall most
    have hm2:most<j:=by omega
    exact (end_non.mp (this hm2)).2.2 rfl
  have r1:=xx ms t j
  exists a1,k1',lX,dY,hJ,oy,ct,cm
  rw [<- r1]
  exists e1,lQ
  refine ⟨most-(j+1),by omega,j+1,_,rfl,fun h=>by rw [if_pos h],rfl,fun i hi=>?_⟩
  by_cases q:i=j
  ·rw [q]; exact hw
  ·exact hall i (by omega)
 ·have hb:isN (r6 ms t most "basis" j)=false:=by
   cases q:isN (r6 ms t most "basis" j) with
   | false=>rfl
   | true=>exact absurd ((isn _).mp q) hw
  generalize hE:r6 ms t most "basis" j=w at hw hb
  refine ⟨false,?_,?_⟩
  ·exists hb
  ·rw [if_neg Bool.false_ne_true]
   exists rp18
   exact ⟨j,hE.symm,hw,hall⟩
def nn (xs:List Int):Prop:=∀ x∈xs,0<=x
def okN (n:Nat) (m:Mv):Prop:=m.1.length=n/\m.2.length=n/\nn m.1/\nn m.2
theorem atM {ms:List Mv} {r:Int} (h0:0<=r) (h1:r<ms.length):L2.atI (ms.map mW) r=some (mW (ms.getD r.toNat ([],[]))):=by
 unfold L2.atI
 rw [U7 h0 (by rw [List.length_map]; exact h1)]
 show (ms.map mW)[r.toNat]?=_
 have hi:r.toNat<ms.length:=by omega
 rw [List.getElem?_map,List.getD_eq_getElem?_getD]
 simp [hi]
theorem getM {n:Nat} {ms:List Mv} {i:Nat} (hm:∀ m∈ms,okN n m) (h1:i<ms.length):okN n (ms.getD i ([],[])):=by
 refine hm _ ?_
 rw [List.getD_eq_getElem?_getD]; simp [h1]
theorem jH {s:List Int} {m:Mv} (h:m.1.length=s.length):cA [tI s,mW m]=.ok (.bl (d8 s m.1)):=by
 have a0:L2.atI [tI m.1,tI m.2] 0=some (tI m.1):=rfl
 have k:=eA (a:=s) (b:=m.1) h
 exists rpB,nc,a0,k
theorem nV {n:Nat} {m:Mv} (h6:n<=6) (h:okN n m):bw [mW m]=.ok (tI ((List.range n).map fun k=>m.2.getD k 0-m.1.getD k 0)):=by
 have a0:L2.atI [tI m.1,tI m.2] 0=some (tI m.1):=rfl
 have a1:L2.atI [tI m.1,tI m.2] 1=some (tI m.2):=rfl
 have hz:=bD (tI m.1) (tI m.2) _ _ rfl rfl
 rw [ay (by rw [h.1,h.2.1]),h.1] at hz
 exists rpB,gF,a0,a1,hz
 have e:∀ N mg me ρ (h:∀ k,k<n->∃ ρ1,mg (.tup [.int (m.1.getD k 0),.int (m.2.getD k 0)]) (ρ++List.replicate (N-ρ.length) Sl.un)=some ρ1/\me ρ1=.ok (.int (m.2.getD k 0-m.1.getD k 0))),k7 N mg yes me ((List.range n).map fun k=>W.tup [.int (m.1.getD k 0),.int (m.2.getD k 0)]) ρ=.ok (lI ((List.range n).map fun k=>m.2.getD k 0-m.1.getD k 0)):=fun N mg me ρ h=>by
  rw [n6 (fun k=>.int (m.2.getD k 0-m.1.getD k 0)) _ _ ρ (by simpa using (by omega:n<=1000)) (fun k hk=>h k (by simpa using hk)),kA]
 rw [e]
 ·exists rp18
 ·intro k hk
  refine ⟨_,rfl,?_⟩
  exists rp18
theorem eE {n:Nat} {s:List Int} {m:Mv} (h6:n<=6) (h:okN n m) (hs:s.length=n) (hc:d8 s m.1=true):aL [tI s,mW m]=.ok (tI ((List.range n).map fun k=>s.getD k 0+(m.2.getD k 0-m.1.getD k 0))):=by
 have k1:=jH (s:=s) (m:=m) (by rw [hs,h.1])
 rw [hc] at k1
 have k2:=nV h6 h
 have hz:=bD (tI s) (tI ((List.range n).map fun k=>m.2.getD k 0-m.1.getD k 0)) _ _ rfl rfl
 rw [ay (by simp [hs]),hs] at hz
 exists rpB,jh,k1,k2,hz
 have e:∀ N mg me ρ (h:∀ k,k<n->∃ ρ1,mg (.tup [.int (s.getD k 0),.int (((List.range n).map fun k=>m.2.getD k 0-m.1.getD k 0).getD k 0)]) (ρ++List.replicate (N-ρ.length) Sl.un)=some ρ1/\me ρ1=.ok (.int (s.getD k 0+(m.2.getD k 0-m.1.getD k 0)))),k7 N mg yes me ((List.range n).map fun k=>W.tup [.int (s.getD k 0),.int (((List.range n).map fun k=>m.2.getD k 0-m.1.getD k 0).getD k 0)]) ρ=.ok (lI ((List.range n).map fun k=>s.getD k 0+(m.2.getD k 0-m.1.getD k 0))):=fun N mg me ρ h=>by
  rw [n6 (fun k=>.int (s.getD k 0+(m.2.getD k 0-m.1.getD k 0))) _ _ ρ (by simpa using (by omega:n<=1000)) (fun k hk=>h k (by simpa using hk)),kA]
 rw [e]
 ·exists rp18
 ·intro k hk
  refine ⟨_,rfl,?_⟩
  exists rp18
  rw [fm hk]
def k4 (s:List Int) (m:Mv):List Int:=(List.range s.length).map fun k=>s.getD k 0+(m.2.getD k 0-m.1.getD k 0)
theorem R6 (s:List Int) (m:Mv):(k4 s m).length=s.length:=by simp [k4]
abbrev Ent:=List Int×Nat×Nat
abbrev eW (e:Ent):W:=.tup [tI e.1,.int (e.2.1:Int),.int (e.2.2:Int)]
abbrev r0 (b:List Int):W:=.tup [tI b,.non,.non]
abbrev u9 (b:List Int) (es:List Ent):List W:=r0 b::es.map eW
def stS (b:List Int) (es:List Ent):List (List Int):=b::es.map (·.1)
def cd (e:Ent):Nat:=e.2.1*8+e.2.2
def mvN (ms:List Mv) (k:Nat):Mv:=ms.getD k ([],[])
def sA (b:List Int) (es:List Ent) (a:Nat):List Int:=(stS b es).getD a []
theorem E4 (b:List Int) (es:List Ent):(stS b es).length=es.length+1:=by simp [stS]
theorem cT {b:List Int} {es:List Ent} {e:Ent} {a:Nat} (h:a<es.length+1):sA b (es ++ [e]) a=sA b es a:=by
 unfold sA stS
 rw [List.map_append,<- List.cons_append,List.getD_eq_getElem?_getD,List.getD_eq_getElem?_getD,List.getElem?_append_left (by simpa using h)]
theorem lY {b:List Int} {es:List Ent} {a:Nat} (h:a<es.length+1):sA b es a∈stS b es:=by
 unfold sA
 rw [List.getD_eq_getElem?_getD,List.getElem?_eq_getElem (by rw [E4]; exact h)]
 exact List.getElem_mem _
def abN (b:List Int) (ms:List Mv) (es:List Ent) (a k:Nat):Bool:=d8 (sA b es a) (mvN ms k).1
def bhN (b:List Int) (ms:List Mv) (es:List Ent) (a k:Nat):List Int:=k4 (sA b es a) (mvN ms k)
structure FlK (b:List Int) (ms:List Mv) (es:List Ent) (A:Nat) (T:List Nat):Prop where
 len:∀ e∈es,e.1.length=b.length
 k8:∀ e∈es,e.2.2<ms.length
 lt:∀ e∈es,e.2.1<A\/(e.2.1=A/\e.2.2∈T)
 inc:es.Pairwise fun x y=>cd x<cd y
 par:∀ (i:Nat) (e:Ent),es[i]?=some e->e.2.1<=i
 beh:∀ e∈es,abN b ms es e.2.1 e.2.2=true/\e.1=bhN b ms es e.2.1 e.2.2
 nod:(stS b es).Nodup
 cl:∀ t∈T,∀ k,k<t->abN b ms es A k=true->k∈T
 set:∀ a k,a<A\/(a=A/\k∈T)->k<ms.length->abN b ms es a k=true->(∃ e∈es,e.2=(a,k))\/bhN b ms es a k=b\/∃ e∈es,cd e<a*8+k/\e.1=bhN b ms es a k
theorem FlK.start (b:List Int) (ms:List Mv):FlK b ms [] 0 [] where
 len:=by simp
 k8:=by simp
 lt:=by simp
 inc:=List.Pairwise.nil
 par:=by simp
 beh:=by simp
 nod:=by simp [stS]
 cl:=by simp
 set:=fun a k h=>by simp at h
section
variable {b:List Int} {ms:List Mv} {es:List Ent} {A:Nat} {T:List Nat}
theorem FlK.below (h:FlK b ms es A T) (h8:ms.length<=8) {k:Nat} (hT:∀ t∈T,t<k):∀ e∈es,cd e<A*8+k:=fun e he=>by
 have:=h.k8 e he
 unfold cd
 rcases h.lt e he with q | ⟨q,q'⟩
 ·omega
 ·have:=hT _ q'; omega
theorem FlK.known (h:FlK b ms es A T) (h8:ms.length<=8) {k:Nat} (hT:∀ t∈T,t<k) (hcl:∀ j,j<k->abN b ms es A j=true->j∈T) (hin:bhN b ms es A k∈stS b es):FlK b ms es A (T ++ [k]) where
 len:=h.len
 k8:=h.k8
 lt:=fun e he=>by
  rcases h.lt e he with q | ⟨q,q'⟩
  ·exact .inl q
  ·exact .inr ⟨q,List.mem_append_left _ q'⟩
 inc:=h.inc
 par:=h.par
 beh:=h.beh
 nod:=h.nod
 cl:=fun t ht j hj hab=>by
  rcases List.mem_append.mp ht with q | q
  ·exact List.mem_append_left _ (h.cl t q j hj hab)
  ·rw [List.mem_singleton.mp q] at hj
   exact List.mem_append_left _ (hcl j hj hab)
 set:=fun a j hj hjm hab=>by
  rcases hj with q | ⟨q,q'⟩
  ·exact h.set a j (.inl q) hjm hab
  ·rcases List.mem_append.mp q' with q2 | q2
   ·exact h.set a j (.inr ⟨q,q2⟩) hjm hab
   ·have ek:=List.mem_singleton.mp q2
    subst q ek
    unfold stS at hin
    rcases List.mem_cons.mp hin with e | e
    ·exact .inr (.inl e)
    ·obtain ⟨x,hx,ex⟩:=List.mem_map.mp e
     exact .inr (.inr ⟨x,hx,h.below h8 hT x hx,ex⟩)
theorem FlK.snoc (h:FlK b ms es A T) (h8:ms.length<=8) (hA:A<es.length+1) {k:Nat} (hk:k<ms.length) (hT:∀ t∈T,t<k) (hcl:∀ j,j<k->abN b ms es A j=true->j∈T) (hab:abN b ms es A k=true) (hln:(bhN b ms es A k).length=b.length) (hnin:bhN b ms es A k∉stS b es):FlK b ms (es ++ [(bhN b ms es A k,A,k)]) A (T ++ [k]):=by
 have hS:∀ a j,a<es.length+1->abN b ms (es ++ [(bhN b ms es A k,A,k)]) a j=abN b ms es a j/\bhN b ms (es ++ [(bhN b ms es A k,A,k)]) a j=bhN b ms es a j:=fun a j ha=>by
  unfold abN bhN
  rw [cT ha]
  exact ⟨rfl,rfl⟩
 have hpar:∀ e∈es,e.2.1<es.length+1:=fun e he=>by
  obtain ⟨i,hi,ei⟩:=List.mem_iff_getElem.mp he
  have:=h.par i e (by rw [List.getElem?_eq_getElem hi,ei])
  omega
 refine ⟨fun e he=>?_,fun e he=>?_,fun e he=>?_,?_,fun i e he=>?_,fun e he=>?_,?_,fun t ht j hj hab'=>?_,fun a j hj hjm hab'=>?_⟩
 ·rcases List.mem_append.mp he with q | q
  ·exact h.len e q
  ·rw [List.mem_singleton.mp q]; exact hln
 ·rcases List.mem_append.mp he with q | q
  ·exact h.k8 e q
  ·rw [List.mem_singleton.mp q]; exact hk
 ·rcases List.mem_append.mp he with q | q
  ·rcases h.lt e q with q1 | ⟨q1,q2⟩
   ·exact .inl q1
   ·exact .inr ⟨q1,List.mem_append_left _ q2⟩
  ·rw [List.mem_singleton.mp q]; exact .inr ⟨rfl,by simp⟩
 ·refine List.pairwise_append.mpr ⟨h.inc,List.pairwise_singleton _ _,fun x hx y hy=>?_⟩
  rw [List.mem_singleton.mp hy]
  exact h.below h8 hT x hx
 ·by_cases hi:i<es.length
  ·rw [List.getElem?_append_left hi] at he
   exact h.par i e he
  ·have hi':=(List.getElem?_eq_some_iff.mp he).1
   rw [List.length_append,List.length_singleton] at hi'
   have:i=es.length:=by omega
   subst this
   rw [List.getElem?_append_right (Nat.le_refl _),Nat.sub_self] at he
   cases he
   show A<=es.length
   omega
 ·rcases List.mem_append.mp he with q | q
  ·rw [(hS _ _ (hpar e q)).1,(hS _ _ (hpar e q)).2]; exact h.beh e q
  ·rw [List.mem_singleton.mp q]
   rw [(hS A k hA).1,(hS A k hA).2]
   exact ⟨hab,rfl⟩
 ·unfold stS
  rw [List.map_append,<- List.cons_append]
  refine List.nodup_append.mpr ⟨h.nod,by simp,fun x hx y hy=>?_⟩
  rw [List.map_singleton,List.mem_singleton] at hy
  subst hy
  intro e
  have e:x=bhN b ms es A k:=e
  rw [e] at hx
  exact hnin hx
 ·rw [(hS A j hA).1] at hab'
  rcases List.mem_append.mp ht with q | q
  ·exact List.mem_append_left _ (h.cl t q j hj hab')
  ·rw [List.mem_singleton.mp q] at hj
   exact List.mem_append_left _ (hcl j hj hab')
 ·have ha:a<es.length+1:=by
   rcases hj with q | ⟨q,_⟩
   ·omega
   ·omega
  rw [(hS a j ha).1] at hab'
  rw [(hS a j ha).2]
  have old:(a<A\/(a=A/\j∈T))->(∃ e∈es ++ [(bhN b ms es A k,A,k)],e.2=(a,j))\/bhN b ms es a j=b\/∃ e∈es ++ [(bhN b ms es A k,A,k)],cd e<a*8+j/\e.1=bhN b ms es a j:=fun hj=>by
   rcases h.set a j hj hjm hab' with ⟨e,he,q⟩ | q | ⟨e,he,q⟩
   ·exact .inl ⟨e,List.mem_append_left _ he,q⟩
   ·exact .inr (.inl q)
   ·exact .inr (.inr ⟨e,List.mem_append_left _ he,q⟩)
  rcases hj with q | ⟨q,q'⟩
  ·exact old (.inl q)
  ·rcases List.mem_append.mp q' with q2 | q2
   ·exact old (.inr ⟨q,q2⟩)
   ·have ek:=List.mem_singleton.mp q2
    subst q ek
    exact .inl ⟨_,List.mem_append_right _ (List.mem_singleton_self _),rfl⟩
theorem FlK.next (h:FlK b ms es A T) (hT:∀ k,k<ms.length->abN b ms es A k=true->k∈T):FlK b ms es (A+1) [] where
 len:=h.len
 k8:=h.k8
 lt:=fun e he=>by
  rcases h.lt e he with q | ⟨q,q'⟩
  ·exact .inl (by omega)
  ·exact .inl (by omega)
 inc:=h.inc
 par:=h.par
 beh:=h.beh
 nod:=h.nod
 cl:=by simp
 set:=fun a k hj hk hab=>by
  rcases hj with q | ⟨_,q⟩
  ·by_cases e:a=A
   ·subst e; exact h.set a k (.inr ⟨rfl,hT k hk hab⟩) hk hab
   ·exact h.set a k (.inl (by omega)) hk hab
  ·simp at q
end
def fsN (ms:List Mv) (s:List Int):List Nat:=(List.range ms.length).filter fun k=>d8 s (mvN ms k).1
theorem nF (ms:List Mv) (s:List Int):(fsN ms s).Pairwise (·<·):=List.Pairwise.filter _ List.pairwise_lt_range
theorem fs_mem {ms:List Mv} {s:List Int} {k:Nat}:k∈fsN ms s↔k<ms.length/\d8 s (mvN ms k).1=true:=by
 unfold fsN
 rw [List.mem_filter,List.mem_range]
theorem sZ {l:List Nat} (h:l.Pairwise (·<·)) {i:Nat} (hi:i<l.length):∀ t∈l.take i,t<l[i]:=fun t ht=>by
 obtain ⟨j,hj,e⟩:=List.mem_iff_getElem.mp ht
 rw [List.length_take] at hj
 rw [List.getElem_take] at e
 subst e
 exact List.pairwise_iff_getElem.mp h j i (by omega) hi (by omega)
theorem vg {l:List Nat} (h:l.Pairwise (·<·)) {i:Nat} (hi:i<l.length) {t:Nat} (ht:t∈l) (hlt:t<l[i]):t∈l.take i:=by
 obtain ⟨j,hj,e⟩:=List.mem_iff_getElem.mp ht
 subst e
 have hji:j<i:=by
  rcases Nat.lt_trichotomy j i with q | q | q
  ·exact q
  ·subst q; omega
  ·have:=List.pairwise_iff_getElem.mp h i j hi hj q; omega
 exact List.mem_iff_getElem.mpr ⟨j,by rw [List.length_take]; omega,by rw [List.getElem_take]⟩
theorem vR (ms:List Mv):((ms.map mW).mapIdx fun i x=>W.tup [.int (i:Int),x])=(List.range ms.length).map fun (k:Nat)=>W.tup [.int (k:Int),mW (mvN ms k)]:=by
 apply List.ext_getElem
 ·simp
 ·intro i h1 h2
  have hi:i<ms.length:=by simpa using h1
  simp [mvN,List.getD_eq_getElem?_getD,List.getElem?_eq_getElem hi]
theorem wk {b s:List Int} {ms:List Mv} (h6:s.length<=6) (hm:∀ m∈ms,okN s.length m) (hl:ms.length<=8):K1 [.tup [tI b,tM_ ms],tI s]=.ok (.lst ((fsN ms s).map fun (k:Nat)=>W.tup [tI (k4 s (mvN ms k)),.int (k:Int)])):=by
 have a1:L2.atI [tI b,tM_ ms] 1=some (tM_ ms):=rfl
 have he:ak [tM_ ms]=.ok ((List.range ms.length).map fun (k:Nat)=>W.tup [.int (k:Int),mW (mvN ms k)]):=by rw [<- vR]; rfl
 exists rpB,S2,a1,he
 have e:∀ N mg mc me ρ,(∀ k,k<ms.length->∃ ρ1,mg (.tup [.int (k:Int),mW (mvN ms k)]) (ρ++List.replicate (N-ρ.length) Sl.un)=some ρ1/\mc ρ1=.ok (d8 s (mvN ms k).1)/\(d8 s (mvN ms k).1=true->me ρ1=.ok (.tup [tI (k4 s (mvN ms k)),.int (k:Int)]))) ->
   k7 N mg mc me ((List.range ms.length).map fun (k:Nat)=>W.tup [.int (k:Int),mW (mvN ms k)]) ρ=.ok (.lst ((fsN ms s).map fun (k:Nat)=>W.tup [tI (k4 s (mvN ms k)),.int (k:Int)])):=fun N mg mc me ρ h=>
  Q4 (N':=N) (mg:=mg) (mc:=mc) (me:=me) (fun k=>W.tup [tI (k4 s (mvN ms k)),.int (k:Int)]) (fun k=>W.tup [.int (k:Int),mW (mvN ms k)]) (fun k=>d8 s (mvN ms k).1) (List.range ms.length) ρ (by rw [List.length_range]; omega) fun k hk=>h k (List.mem_range.mp hk)
 rw [e]
 ·exists rp18
 ·intro k hk
  have hmk:okN s.length (mvN ms k):=getM hm hk
  generalize mvN ms k=m at hmk
  have k1:=jH (s:=s) (m:=m) (by rw [hmk.1])
  refine ⟨_,rfl,?_,fun hc=>?_⟩
  ·exists k1
  ·have k2:=eE h6 hmk rfl hc
   have k3:(List.range s.length).map (fun k=>s.getD k 0+(m.2.getD k 0-m.1.getD k 0))=k4 s m:=rfl
   rw [k3] at k2
   exists k2,B6 (E2 (k4 s m))
def FlEnd (b:List Int) (ms:List Mv) (most:Nat) (es:List Ent) (wh:Bool):Prop:=
 es.length+1<=most/\((wh=true/\FlK b ms es (es.length+1) []) \/
  (wh=false/\es.length+1=most/\∃ A T k,FlK b ms es A T/\A<es.length+1/\k<ms.length/\(∀ t∈T,t<k)/\abN b ms es A k=true/\bhN b ms es A k∉stS b es))
theorem rp {ks:List (List Int)} {k:List Int} (h:k∉ks):io ks k=ks ++ [k]:=if_neg h
theorem tL {b:List Int} {es:List Ent} {a:Nat} (h:a<es.length+1):∃ x y:W,L2.atI (u9 b es) (a:Int)=some (.tup [tI (sA b es a),x,y]):=by
 cases a with
 | zero=>exact ⟨.non,.non,V7 (k:=0) rfl⟩
 | succ a=>
  have ha:a<es.length:=by omega
  have e1:(u9 b es)[a+1]?=some (eW es[a]):=by simp [ha]
  have e2:sA b es (a+1)=es[a].1:=by
   unfold sA stS
   simp [List.getD_eq_getElem?_getD,ha]
  rw [e2]
  exact ⟨_,_,V7 (k:=a+1) e1⟩
theorem qQ {b:List Int} {ms:List Mv} {most:Nat} (h6:b.length<=6) (hm:∀ m∈ms,okN b.length m) (hl:ms.length<=8) (h1:1<=most) (h30:most<=100):Ok (dv [.tup [tI b,tM_ ms],.int (most:Int)]) fun w=>∃ (es:List Ent) (wh:Bool),w=.tup [.lst (u9 b es),.bl wh]/\FlEnd b ms most es wh:=by
 have a0:L2.atI [tI b,tM_ ms] 0=some (tI b):=rfl
 have nw:=jd
 exists rpB,jg,a0,B6 (E2 b),ql,jd
 refine o6 (M8 ?_)
 refine W8 (fun m ρ=>∃ (es:List Ent) (at_:Nat) (a5 a6 a7:Sl),ρ = [.par (.tup [tI b,tM_ ms]),.par (.int (most:Int)),.own (u9 b es),.dic (stS b es),.val (.int (at_:Int)),a5,a6,a7]/\X3 a5=false/\X3 a6=false/\X3 a7=false/\FlK b ms es at_ []/\at_<=es.length+1/\es.length+1<=most/\m+at_=102) ?_ 102 _ ⟨[],0,.un,.un,.un,rfl,rfl,rfl,rfl,FlK.start b ms,by omega,by simpa using h1,rfl⟩
 rintro m ρ ⟨es,at_,a5,a6,a7,rfl,d5,d6,d7,hK,hat,hmo,hmm⟩
 by_cases hlt:at_<es.length+1
 ·refine ⟨true,?_,?_⟩
  ·exists rp18
   rw [show decide ((at_:Int)<((es.length+1:Nat):Int))=true from decide_eq_true (by omega)]
  rw [if_pos rfl]
  obtain ⟨x,y,er⟩:=tL (b:=b) (es:=es) hlt
  have hsl:(sA b es at_).length=b.length:=by
   have:=lY (b:=b) (es:=es) hlt
   unfold stS at this
   rcases List.mem_cons.mp this with e | e
   ·rw [e]
   ·obtain ⟨z,hz,ez⟩:=List.mem_map.mp e
    rw [<- ez]; exact hK.len z hz
  have kb:=wk (b:=b) (s:=sA b es at_) (by omega) (by rw [hsl]; exact hm) hl
  have a0':L2.atI [tI (sA b es at_),x,y] 0=some (tI (sA b es at_)):=rfl
  exists er,a0',kb
  generalize hs:sA b es at_=s at *
  have hfl:(fsN ms s).length<=8:=by
   have:=List.length_filter_le (fun k=>d8 s (mvN ms k).1) (List.range ms.length)
   rw [List.length_range] at this
   unfold fsN; omega
  refine pK (fun i ρ=>∃ (es':List Ent) (a6 a7:Sl),ρ = [.par (.tup [tI b,tM_ ms]),.par (.int (most:Int)),.own (u9 b es'),.dic (stS b es'),.val (.int (at_:Int)),.val (tI s),a6,a7]/\X3 a6=false/\X3 a7=false/\FlK b ms es' at_ ((fsN ms s).take i)/\at_<es'.length+1/\es'.length+1<=most/\sA b es' at_=s) ⟨es,a6,a7,rfl,d6,d7,hK,hlt,hmo,hs⟩ ?_ ?_
  ·rintro i u ρ hu ⟨es',a6,a7,rfl,d6,d7,hK',hlt',hmo',hs'⟩
   rw [List.getElem?_map] at hu
   cases hq:(fsN ms s)[i]? with
   | none=>rw [hq] at hu; cases hu
   | some k=>
    rw [hq] at hu
    cases hu
    obtain ⟨hi,hki⟩:=List.getElem?_eq_some_iff.mp hq
    have hkm:=fs_mem.mp (List.mem_of_getElem? hq)
    have htk:(fsN ms s).take (i+1)=(fsN ms s).take i ++ [k]:=by rw [List.take_succ,hq]; rfl
    have hT:∀ t∈(fsN ms s).take i,t<k:=fun t ht=>by rw [<- hki]; exact sZ (nF ms s) hi t ht
    have hcl:∀ j,j<k->abN b ms es' at_ j=true->j∈(fsN ms s).take i:=fun j hj hab=>by
     unfold abN at hab
     rw [hs'] at hab
     exact vg (nF ms s) hi (fs_mem.mpr ⟨by omega,hab⟩) (by rw [hki]; exact hj)
    have hab:abN b ms es' at_ k=true:=by unfold abN; rw [hs']; exact hkm.2
    have hbh:bhN b ms es' at_ k=k4 s (mvN ms k):=by unfold bhN; rw [hs']
    have hbl:(k4 s (mvN ms k)).length=b.length:=by rw [R6]; exact hsl
    have hput:=bz (stS b es') (.bl true) (k4 s (mvN ms k)) 3 [.par (.tup [tI b,tM_ ms]),.par (.int (most:Int)),.own (u9 b es'),.dic (stS b es'),.val (.int (at_:Int)),.val (tI s),.par (tI (k4 s (mvN ms k))),.par (.int (k:Int))] rfl (by rw [E4]; omega)
    dsimp only
    generalize hB:k4 s (mvN ms k)=B at *
    refine ⟨_,rfl,?_⟩
    exists rp18
    refine iX (fun h=>?_) (fun h=>?_)
    ·have h:=of_decide_eq_true h
     exists rp18
     exact ⟨es',_,_,rfl,rfl,rfl,by rw [htk]; exact hK'.known hl hT hcl (by rw [hbh]; exact h),hlt',hmo',hs'⟩
    ·have h:=of_decide_eq_false h
     rw [rp h] at hput
     exists rp18
     refine iX (fun h2=>?_) (fun h2=>?_)
     ·have h2:=of_decide_eq_true h2
      exists rp18
      exact ⟨es',false,rfl,hmo',.inr ⟨rfl,by omega,at_,_,k,hK',hlt',hkm.1,hT,hab,by rw [hbh]; exact h⟩⟩
     ·have h2:=of_decide_eq_false h2
      exists hput,B6 (E2 B)
      refine ⟨es' ++ [(B,at_,k)],.par (tI B),.par (.int (k:Int)),?_,rfl,rfl,?_,?_,?_,?_⟩
      ·simp [u9,stS]
      ·rw [htk,<- hbh]
       exact hK'.snoc hl hlt' hkm.1 hT hcl hab (by rw [hbh]; exact hbl) (by rw [hbh]; exact h)
      ·rw [List.length_append]; omega
      ·rw [List.length_append,List.length_singleton]; omega
      ·rw [cT hlt']; exact hs'
  ·rintro ρ ⟨es',a6,a7,rfl,d6,d7,hK',hlt',hmo',hs'⟩
   rw [List.length_map,List.take_length] at hK'
   exists rp18
   refine ⟨m-1,by omega,es',at_+1,_,_,_,rfl,rfl,d6,d7,hK'.next fun k hk hab=>fs_mem.mpr ⟨hk,?_⟩,by omega,hmo',by omega⟩
   unfold abN at hab
   rw [hs'] at hab
   exact hab
 ·refine ⟨false,?_,?_⟩
  ·exists rp18
   rw [show decide ((at_:Int)<((es.length+1:Nat):Int))=false from decide_eq_false (by omega)]
  ·rw [if_neg Bool.false_ne_true]
   have e:at_=es.length+1:=by omega
   subst e
   exists rp18
   exact ⟨es,true,rfl,hmo,.inl ⟨rfl,hK⟩⟩
def jT (b:List Int):Option Ent->W
 | none=>r0 b
 | some e=>eW e
def stO (b:List Int):Option Ent->List Int
 | none=>b
 | some e=>e.1
theorem xp (b:List Int) (es:List Ent):u9 b es=(none::es.map some).map (jT b):=by
 rw [List.map_cons,List.map_map]; rfl
theorem st_O (b:List Int) (es:List Ent):(none::es.map some).map (stO b)=stS b es:=by
 rw [List.map_cons,List.map_map]; rfl
inductive Pt (es:List Ent):Nat->List Int->List Int->Prop where
 | zero:Pt es 0 [0] []
 | succ {i:Nat} {e:Ent} {l r:List Int}:es[i]?=some e->Pt es e.2.1 l r->Pt es (i+1) (((i+1:Nat):Int)::l) (r ++ [(e.2.2:Int)])
theorem Pt.ex {es:List Ent} (hp:∀ (i:Nat) (e:Ent),es[i]?=some e->e.2.1<=i):∀ n,n<=es.length->∃ l r,Pt es n l r:=by
 intro n
 induction n using Nat.strongRecOn with
 | _ n ih=>
  intro hn
  cases n with
  | zero=>exact ⟨_,_,.zero⟩
  | succ i=>
   have hi:es[i]?=some es[i]:=List.getElem?_eq_getElem (by omega)
   have:=hp i _ hi
   obtain ⟨l,r,p⟩:=ih es[i].2.1 (by omega) (by omega)
   exact ⟨_,_,.succ hi p⟩
theorem Pt.len {es:List Ent} (hp:∀ (i:Nat) (e:Ent),es[i]?=some e->e.2.1<=i):∀ {n:Nat} {l r:List Int},Pt es n l r->l.length=r.length+1/\r.length<=n
 | _,_,_,.zero=>⟨rfl,Nat.le_refl _⟩
 | _,_,_,.succ h p=>by
  have:=Pt.len hp p
  have:=hp _ _ h
  rw [List.length_cons,List.length_append,List.length_singleton]
  omega
theorem Pt.rev {es:List Ent}:∀ {n:Nat} {l r:List Int},Pt es n l r->∃ t:List Nat,l.reverse=0::t.map (fun (k:Nat)=>((k+1:Nat):Int))/\(∀ k∈t,k<es.length)/\r=t.map fun k=>((es.getD k ([],0,0)).2.2:Int)
 | _,_,_,.zero=>⟨[],rfl,by simp,rfl⟩
 | _,_,_,.succ (i:=i) (e:=e) h p=>by
  obtain ⟨t,h1,h2,h3⟩:=Pt.rev p
  have hi:=(List.getElem?_eq_some_iff.mp h).1
  refine ⟨t ++ [i],?_,fun k hk=>?_,?_⟩
  ·rw [List.reverse_cons,h1,List.map_append]; rfl
  ·rcases List.mem_append.mp hk with q | q
   ·exact h2 k q
   ·rw [List.mem_singleton.mp q]; exact hi
  ·rw [List.map_append,<- h3]
   have:es.getD i ([],0,0)=e:=by rw [List.getD_eq_getElem?_getD,h]; rfl
   rw [List.map_singleton,this]
def ru (ms:List Mv) (b r:List Int):List Int:=r.foldl (fun s k=>k4 s (mvN ms k.toNat)) b
theorem iQ {b:List Int} {es:List Ent} {i:Nat} {e:Ent} (h:es[i]?=some e):L2.atI (u9 b es) ((i+1:Nat):Int)=some (eW e):=V7 (k:=i+1) (by show (es.map eW)[i]?=_; rw [List.getElem?_map,h]; rfl)
theorem sR {b:List Int} {es:List Ent} {n:Nat} {l r:List Int} (hp:∀ (i:Nat) (e:Ent),es[i]?=some e->e.2.1<=i) (hl:es.length<=100) (hn:n<=es.length) (p:Pt es n l r):P0 [.lst (u9 b es),.int (n:Int)]=.ok (lI l):=by
 have fin:Ok (P0 [.lst (u9 b es),.int (n:Int)]) fun v=>v=lI l:=by
  have hll:=(Pt.len hp p).1
  have hlr:=(Pt.len hp p).2
  exists rpB,ca
  refine o6 (M8 ?_)
  refine W8 (fun m ρ=>∃ (xs l':List Int) (w:W) (a3:Sl),ρ = [.par (.lst (u9 b es)),.par (.int (n:Int)),.own (xs.map W.int),a3]/\(a3=.val w\/a3=.par w)/\xs++l'=l/\((w=.non/\l' = [])\/∃ (n':Nat) (r':List Int),w=.int (n':Int)/\Pt es n' l' r'/\n'<m)) ?_ (n+1) _ ⟨[],l,.int (n:Int),.val (.int (n:Int)),rfl,.inl rfl,rfl,.inr ⟨n,r,rfl,p,Nat.lt_succ_self n⟩⟩
  rintro m ρ ⟨xs,l',w,a3,rfl,ha,hx,hc⟩
  rcases hc with ⟨rfl,rfl⟩ | ⟨n',r',rfl,p',hm⟩
  ·refine ⟨false,?_,?_⟩
   ·rcases ha with rfl | rfl
    ·exists rp18
    ·exists rp18
   ·rw [if_neg Bool.false_ne_true]
    rw [List.append_nil] at hx
    subst hx
    exists rp18
  ·refine ⟨true,?_,?_⟩
   ·rcases ha with rfl | rfl
    ·exists rp18
    ·exists rp18
   ·rw [if_pos rfl]
    have hxl:xs.length<=l.length:=by rw [<- hx,List.length_append]; omega
    cases p' with
    | zero=>
     have r00:L2.atI (u9 b es) (((0:Nat)):Int)=some (r0 b):=V7 (k:=0) rfl
     have r01:L2.atI (u9 b es) 0=some (r0 b):=r00
     have b1:L2.atI [tI b,W.non,W.non] 1=some W.non:=rfl
     rcases ha with rfl | rfl
     ·exists r00,r01,b1
      exact ⟨0,by omega,xs ++ [0],[],.non,_,by rw [List.map_append],.inr rfl,by simpa using hx,.inl ⟨rfl,rfl⟩⟩
     ·exists r00,r01,b1
      exact ⟨0,by omega,xs ++ [0],[],.non,_,by rw [List.map_append],.inr rfl,by simpa using hx,.inl ⟨rfl,rfl⟩⟩
    | @succ i e l2 r2 h p2=>
     have r1:=iQ (b:=b) h
     have b1:L2.atI [tI e.1,.int (e.2.1:Int),.int (e.2.2:Int)] 1=some (.int (e.2.1:Int)):=rfl
     have hpi:=hp i e h
     have hx2:(xs ++ [((i+1:Nat):Int)])++l2=l:=by rw [<- hx]; simp
     rcases ha with rfl | rfl
     ·exists r1,b1
      exact ⟨i+1,by omega,xs ++ [((i+1:Nat):Int)],l2,.int (e.2.1:Int),_,by rw [List.map_append],.inr rfl,hx2,.inr ⟨e.2.1,r2,rfl,p2,by omega⟩⟩
     ·exists r1,b1
      exact ⟨i+1,by omega,xs ++ [((i+1:Nat):Int)],l2,.int (e.2.1:Int),_,by rw [List.map_append],.inr rfl,hx2,.inr ⟨e.2.1,r2,rfl,p2,by omega⟩⟩
 obtain ⟨v,e,rfl⟩:=fin
 exact e
theorem ph {b:List Int} {es:List Ent} {n:Nat} {l r:List Int} (hp:∀ (i:Nat) (e:Ent),es[i]?=some e->e.2.1<=i) (hl:es.length<=100) (hn:n<=es.length) (p:Pt es n l r):bu [.lst (u9 b es),.int (n:Int)]=.ok (lI r):=by
 have k1:=sR (b:=b) hp hl hn p
 obtain ⟨t,h1,h2,h3⟩:=Pt.rev p
 have hll:=Pt.len hp p
 have htl:t.length=r.length:=by rw [h3,List.length_map]
 have k2:kK [.lst (u9 b es),.int (n:Int)]=.ok (lI l.reverse):=by
  exists rpB,rV,k1
 have k3:N7 [.lst (u9 b es),.int 0,.int (n:Int)]=.ok (lI r):=by
  have hix:gX (l.reverse.map W.int) (.int 0)=.ok (.int 0):=by
   rw [h1]
   have hs:(shp 8 (.int 0)&&shp 8 (.lst ((0::t.map fun (k:Nat)=>((k+1:Nat):Int)).map W.int)))=true:=by
    rw [K8,Bool.true_and]; exact W3 W.int 7 (K8 7) _
   unfold gX
   rw [if_pos hs]
   rfl
  have hcut:kN l.reverse (some 1) none=t.map fun (k:Nat)=>((k+1:Nat):Int):=by
   rw [h1]
   unfold kN
   rw [show (1:Int)=((1:Nat):Int) from rfl,HT.sIx_nat,HT.sIx_none]
   simp
   exact List.take_of_length_le (by simp)
  have e:∀ N mg me ρ,(∀ k∈t,∃ ρ1,mg (.int ((k+1:Nat):Int)) (ρ++List.replicate (N-ρ.length) Sl.un)=some ρ1/\me ρ1=.ok (.int ((es.getD k ([],0,0)).2.2:Int)))->k7 N mg yes me ((t.map fun (k:Nat)=>((k+1:Nat):Int)).map W.int) ρ=.ok (lI r):=fun N mg me ρ h=>by
   rw [List.map_map]
   refine (n6 (fun k=>W.int ((es.getD k ([],0,0)).2.2:Int)) (W.int∘fun (k:Nat)=>((k+1:Nat):Int)) t ρ (by omega) h).trans ?_
   rw [h3]
   exact congrArg (fun z=>R.ok (W.lst z)) (by rw [List.map_map]; rfl)
  exists rpB,Y4,k2,hix
  rw [hcut,e]
  ·exists rp18
  ·intro k hk
   have hkl:=h2 k hk
   have hg:es[k]?=some (es.getD k ([],0,0)):=by rw [List.getD_eq_getElem?_getD,List.getElem?_eq_getElem hkl]; rfl
   have r1:=iQ (b:=b) hg
   generalize es.getD k ([],0,0)=e at r1
   have b2:L2.atI [tI e.1,.int (e.2.1:Int),.int (e.2.2:Int)] 2=some (.int (e.2.2:Int)):=rfl
   refine ⟨_,rfl,?_⟩
   exists r1,b2
 exists rpB,gy,k3
theorem FlEnd.K {b:List Int} {ms:List Mv} {most:Nat} {es:List Ent} {wh:Bool} (h:FlEnd b ms most es wh):∃ A T,FlK b ms es A T:=by
 rcases h.2 with ⟨_,h⟩ | ⟨_,_,A,T,_,h,_⟩
 ·exact ⟨_,_,h⟩
 ·exact ⟨_,_,h⟩
theorem sd {b:List Int} {ms:List Mv} {es:List Ent} {A:Nat} {T:List Nat} (hK:FlK b ms es A T) {a k:Nat} (h:(∃ e∈es,e.2=(a,k))\/bhN b ms es a k=b\/∃ e∈es,cd e<a*8+k/\e.1=bhN b ms es a k):bhN b ms es a k∈stS b es:=by
 unfold stS
 rcases h with ⟨e,he,h⟩ | h | ⟨e,he,_,h⟩
 ·have:=(hK.beh e he).2
  rw [h] at this
  rw [<- this]
  exact List.mem_cons_of_mem _ (List.mem_map.mpr ⟨e,he,rfl⟩)
 ·rw [h]; exact List.mem_cons_self
 ·rw [<- h]; exact List.mem_cons_of_mem _ (List.mem_map.mpr ⟨e,he,rfl⟩)
section
variable {b:List Int} {ms:List Mv} {es fs:List Ent} {A B:Nat} {T U:List Nat}
theorem fG {i a:Nat} (hag:∀ j,j<i->es[j]?=fs[j]?) (ha:a<=i):sA b es a=sA b fs a:=by
 unfold sA stS
 rw [List.getD_eq_getElem?_getD,List.getD_eq_getElem?_getD]
 cases a with
 | zero=>rfl
 | succ a=>rw [List.getElem?_cons_succ,List.getElem?_cons_succ,List.getElem?_map,List.getElem?_map,hag a (by omega)]
theorem FlK.idx (h:FlK b ms es A T) {i j:Nat} {e f:Ent} (hi:es[i]?=some e) (hj:es[j]?=some f) (hc:cd e<cd f):i<j:=by
 obtain ⟨i1,e1⟩:=List.getElem?_eq_some_iff.mp hi
 obtain ⟨j1,f1⟩:=List.getElem?_eq_some_iff.mp hj
 rcases Nat.lt_trichotomy i j with q | q | q
 ·exact q
 ·subst q; rw [e1] at f1; subst f1; omega
 ·have:=List.pairwise_iff_getElem.mp h.inc j i j1 i1 q
  rw [e1,f1] at this; omega
theorem FlK.lt_cd (h:FlK b ms es A T) {i j:Nat} {e f:Ent} (hi:es[i]?=some e) (hj:es[j]?=some f) (hc:i<j):cd e<cd f:=by
 obtain ⟨i1,e1⟩:=List.getElem?_eq_some_iff.mp hi
 obtain ⟨j1,f1⟩:=List.getElem?_eq_some_iff.mp hj
 have:=List.pairwise_iff_getElem.mp h.inc i j i1 j1 hc
 rw [e1,f1] at this; exact this
theorem FlK.dif (h:FlK b ms es A T) {i j:Nat} {e f:Ent} (hi:es[i]?=some e) (hj:es[j]?=some f) (hc:i≠j):e.1≠f.1:=by
 obtain ⟨i1,e1⟩:=List.getElem?_eq_some_iff.mp hi
 obtain ⟨j1,f1⟩:=List.getElem?_eq_some_iff.mp hj
 have nd:=(List.nodup_cons.mp h.nod).2
 have pw:=fun (x y:Nat) (hx:x<es.length) (hy:y<es.length) (hxy:x<y)=>List.pairwise_iff_getElem.mp nd x y (by simpa using hx) (by simpa using hy) hxy
 rcases Nat.lt_or_gt_of_ne hc with q | q
 ·have:=pw i j i1 j1 q
  simpa [e1,f1] using this
 ·have:=pw j i j1 i1 q
  intro e
  exact this (by simp [e1,f1,e])
theorem FlK.nb (h:FlK b ms es A T) {i:Nat} {e:Ent} (hi:es[i]?=some e):e.1≠b:=fun q=>(List.nodup_cons.mp h.nod).1 (List.mem_map.mpr ⟨e,List.mem_of_getElem? hi,q⟩)
theorem FlK.met (h:FlK b ms es A T) (g:FlK b ms fs B U) {i:Nat} {e:Ent} (hag:∀ j,j<i->es[j]?=fs[j]?) (he:es[i]?=some e) (hpr:e.2.1<B\/(e.2.1=B/\(abN b ms fs e.2.1 e.2.2=true->e.2.2∈U))) (hup:∀ j f,fs[j]?=some f->cd f<=cd e->j<i):False:=by
 have hp:=h.par i e he
 have hem:=List.mem_of_getElem? he
 have hk:=h.k8 e hem
 obtain ⟨hab,hbe⟩:=h.beh e hem
 have hs:sA b es e.2.1=sA b fs e.2.1:=fG hag hp
 have hab':abN b ms fs e.2.1 e.2.2=true:=by unfold abN at hab ⊢; rw [<- hs]; exact hab
 have hbe':e.1=bhN b ms fs e.2.1 e.2.2:=by unfold bhN at hbe ⊢; rw [<- hs]; exact hbe
 have hpr':e.2.1<B\/(e.2.1=B/\e.2.2∈U):=by
  rcases hpr with q | ⟨q,q'⟩
  ·exact .inl q
  ·exact .inr ⟨q,q' hab'⟩
 rcases g.set e.2.1 e.2.2 hpr' hk hab' with ⟨f,hf,q⟩ | q | ⟨f,hf,hc,q⟩
 ·obtain ⟨j,hj,ej⟩:=List.mem_iff_getElem.mp hf
  have hj':fs[j]?=some f:=by rw [List.getElem?_eq_getElem hj,ej]
  have hcd:cd f=cd e:=by unfold cd; rw [q]
  have hji:=hup j f hj' (by omega)
  have:=h.lt_cd (by rw [hag j hji]; exact hj') he hji
  omega
 ·exact h.nb he (by rw [hbe',q])
 ·obtain ⟨j,hj,ej⟩:=List.mem_iff_getElem.mp hf
  have hj':fs[j]?=some f:=by rw [List.getElem?_eq_getElem hj,ej]
  have hcd:cd f<cd e:=hc
  have hji:=hup j f hj' (by omega)
  exact h.dif (by rw [hag j hji]; exact hj') he (by omega) (by rw [q,hbe'])
theorem FlK.not_lt (h:FlK b ms es A T) (g:FlK b ms fs B U) (h8:ms.length<=8) {i:Nat} {e f:Ent} (hag:∀ j,j<i->es[j]?=fs[j]?) (he:es[i]?=some e) (hf:fs[i]?=some f):¬ cd e<cd f:=fun hc=>by
 have hfm:=List.mem_of_getElem? hf
 have hk:=h.k8 e (List.mem_of_getElem? he)
 have hk':=g.k8 f hfm
 refine FlK.met h g hag he ?_ fun j f' hj q=>g.idx hj hf (by omega)
 unfold cd at hc
 rcases g.lt f hfm with q | ⟨q,q'⟩
 ·exact .inl (by omega)
 ·by_cases e1:e.2.1<B
  ·exact .inl e1
  ·have e2:e.2.1=B:=by omega
   exact .inr ⟨e2,fun hab=>g.cl f.2.2 q' e.2.2 (by omega) (by rw [<- e2]; exact hab)⟩
theorem FlK.agree (h:FlK b ms es A T) (g:FlK b ms fs B U) (h8:ms.length<=8):∀ i,i<es.length->i<fs.length->es[i]?=fs[i]?:=by
 intro i
 induction i using Nat.strongRecOn with
 | _ i ih=>
  intro hi hj
  have hag:∀ j,j<i->es[j]?=fs[j]?:=fun j hji=>ih j hji (by omega) (by omega)
  have he:es[i]?=some es[i]:=List.getElem?_eq_getElem hi
  have hf:fs[i]?=some fs[i]:=List.getElem?_eq_getElem hj
  have n1:=FlK.not_lt h g h8 hag he hf
  have n2:=FlK.not_lt g h h8 (fun j hji=>(hag j hji).symm) hf he
  have hc:cd es[i]=cd fs[i]:=by omega
  have hk:=h.k8 _ (List.mem_of_getElem? he)
  have hk':=g.k8 _ (List.mem_of_getElem? hf)
  unfold cd at hc
  have e1:es[i].2.1=fs[i].2.1:=by omega
  have e2:es[i].2.2=fs[i].2.2:=by omega
  have hp:=h.par i _ he
  have b1:=(h.beh _ (List.mem_of_getElem? he)).2
  have b2:=(g.beh _ (List.mem_of_getElem? hf)).2
  have hs:sA b es es[i].2.1=sA b fs es[i].2.1:=fG hag hp
  have e0:es[i].1=fs[i].1:=by
   rw [b1,b2]; unfold bhN; rw [hs,e1,e2]
  rw [he,hf]
  exact congrArg some (Prod.ext e0 (Prod.ext e1 e2))
theorem FlK.whole (h:FlK b ms es A T) (g:FlK b ms fs (fs.length+1) []) (h8:ms.length<=8):es.length<=fs.length:=by
 by_cases hl:fs.length<es.length
 ·exfalso
  have he:es[fs.length]?=some es[fs.length]:=List.getElem?_eq_getElem hl
  have hp:=h.par _ _ he
  refine FlK.met h g (i:=fs.length) (fun j hj=>FlK.agree h g h8 j (by omega) hj) he (.inl (by omega)) fun j f hj _=>(List.getElem?_eq_some_iff.mp hj).1
 ·omega
theorem V9 {i:Nat} (hag:∀ j,j<i->es[j]?=fs[j]?) (he:es.length=i) (hf:i<=fs.length):es=fs.take i:=by
 apply List.ext_getElem?
 intro j
 rw [List.getElem?_take]
 by_cases hj:j<i
 ·rw [if_pos hj]; exact hag j hj
 ·rw [if_neg hj]; exact List.getElem?_eq_none (by omega)
theorem zX {m M:Nat} {wh wh':Bool} (h8:ms.length<=8) (hE:FlEnd b ms m es wh) (hF:FlEnd b ms M fs wh') (hm:m<=M) (hm1:1<=m):es=fs.take (m-1)/\wh=(wh'&&decide (fs.length+1<=m)):=by
 obtain ⟨hE1,hE2⟩:=hE
 obtain ⟨hF1,hF2⟩:=hF
 rcases hE2 with ⟨rfl,hK⟩ | ⟨rfl,hlen,A,T,k,hK,hA,hk,hT,hab,hni⟩
 ·rcases hF2 with ⟨rfl,gK⟩ | ⟨rfl,hlen',A',T',k',gK,hA',hk',hT',hab',hni'⟩
  ·have l1:=FlK.whole hK gK h8
   have l2:=FlK.whole gK hK h8
   have e:=V9 (i:=es.length) (fun j hj=>FlK.agree hK gK h8 j hj (by omega)) rfl l1
   refine ⟨?_,by rw [decide_eq_true (by omega)]; rfl⟩
   rw [List.take_of_length_le (by omega)]
   rw [List.take_of_length_le (by omega)] at e
   exact e
  ·exfalso
   have l2:=FlK.whole gK hK h8
   have e:=V9 (es:=fs) (fs:=es) (i:=fs.length) (fun j hj=>FlK.agree gK hK h8 j hj (by omega)) rfl l2
   have:es.length=fs.length:=by omega
   rw [List.take_of_length_le (by omega)] at e
   subst e
   exact hni' (sd hK (hK.set A' k' (.inl hA') hk' hab'))
 ·have hle:es.length<=fs.length:=by
   rcases hF2 with ⟨_,gK⟩ | ⟨_,hlen',_⟩
   ·exact FlK.whole hK gK h8
   ·omega
  obtain ⟨B,U,gK⟩:∃ B U,FlK b ms fs B U:=FlEnd.K ⟨hF1,hF2⟩
  have e:=V9 (i:=es.length) (fun j hj=>FlK.agree hK gK h8 j hj (by omega)) rfl hle
  refine ⟨by rw [show m-1=es.length by omega]; exact e,?_⟩
  rcases hF2 with ⟨rfl,gK⟩ | ⟨rfl,_⟩
  ·by_cases hl:fs.length+1<=m
   ·exfalso
    rw [List.take_of_length_le (by omega)] at e
    subst e
    exact hni (sd gK (gK.set A k (.inl (by omega)) hk hab))
   ·rw [decide_eq_false hl]; rfl
  ·rfl
end
abbrev lM (ms:List Mv):W:=.lst (ms.map mW)
theorem tm {b:List Int} {es:List Ent} (hl:es.length<=100):M4 [.lst (u9 b es)]=.ok (lS (stS b es)):=by
 rw [xp,<- st_O]
 have ho:(none::es.map some).length<=1000:=by rw [List.length_cons,List.length_map]; omega
 generalize (none::es.map some)=os at ho
 exists rpB,aQ
 rw [n6 (fun o=>tI (stO b o)) (jT b) os _ ho fun o _=>?_]
 ·exists rp18
  rw [show lS (os.map (stO b))=.lst ((os.map (stO b)).map tI) from rfl,List.map_map]; rfl
 ·cases o with
  | none=>
   have a0:L2.atI [tI b,W.non,W.non] 0=some (tI b):=rfl
   have ct:=B6 (E2 b)
   refine ⟨_,rfl,?_⟩
   show _=R.ok (tI b)
   exists jT,a0,ct
  | some q=>
   have a0:L2.atI [tI q.1,W.int (q.2.1:Int),W.int (q.2.2:Int)] 0=some (tI q.1):=rfl
   have ct:=B6 (E2 q.1)
   refine ⟨_,rfl,?_⟩
   show _=R.ok (tI q.1)
   exists jT,a0,ct
theorem vS {ss:List (List Int)} {i:Nat} {w:W} (h:((ss.map tI).mapIdx fun i x=>W.tup [.int (i:Int),x])[i]?=some w):i<ss.length/\w=.tup [.int (i:Int),tI (ss.getD i [])]:=by
 rw [List.getElem?_mapIdx,List.getElem?_map] at h
 by_cases hi:i<ss.length
 ·rw [List.getElem?_eq_getElem hi] at h
  cases h
  exact ⟨hi,by rw [List.getD_eq_getElem?_getD,List.getElem?_eq_getElem hi]; rfl⟩
 ·rw [List.getElem?_eq_none (by omega)] at h; cases h
theorem FlK.slen {b:List Int} {ms:List Mv} {es:List Ent} {A:Nat} {T:List Nat} (hK:FlK b ms es A T) {a:Nat} (ha:a<es.length+1):(sA b es a).length=b.length:=by
 have:=lY (b:=b) (es:=es) ha
 rcases List.mem_cons.mp this with h | h
 ·rw [h]
 ·obtain ⟨e,he,h⟩:=List.mem_map.mp h
  rw [<- h]; exact hK.len e he
theorem Pt.uniq {es:List Ent}:∀ {n:Nat} {l r l' r':List Int},Pt es n l r->Pt es n l' r'->l=l'/\r=r'
 | _,_,_,_,_,.zero,.zero=>⟨rfl,rfl⟩
 | _,_,_,_,_,.succ h p,.succ h' p'=>by
  rw [h] at h'; cases h'
  obtain ⟨e1,e2⟩:=Pt.uniq p p'
  rw [e1,e2]; exact ⟨rfl,rfl⟩
inductive Pl:Nat->W->Prop where
 | int {d:Nat} {i:Int}:Pl (d+1) (.int i)
 | str {d:Nat} {s:Str}:PyData.strOk s=true->Pl (d+1) (.str s)
 | tup {d:Nat} {ws:List W}:ws.length<=1000->(∀ x∈ws,Pl d x)->Pl (d+1) (.tup ws)
 | lst {d:Nat} {ws:List W}:ws.length<=1000->(∀ x∈ws,Pl d x)->Pl (d+1) (.lst ws)
theorem atN {ws:List W} {k:Nat} (h:k<ws.length):L2.atI ws (k:Int)=some (ws.getD k .non):=V7 (by rw [List.getD_eq_getElem?_getD,List.getElem?_eq_getElem h]; rfl)
theorem il:∀ (d:Nat) (w:W),Pl d w->f7 2 2 (x9 d) [w,w]=.ok (.bl true):=by
 intro d
 induction d with
 | zero=>intro w h; cases h
 | succ d ih=>
  intro w h
  show f7 2 2 (B2 (f7 2 2 (x9 d))) [w,w]=_
  generalize f7 2 2 (x9 d)=F at ih
  have e:∀ (ws:List W) N mg mc me ρ,ws.length<=1000->(∀ k,k<ws.length->∃ ρ1,mg (.int (k:Nat)) (ρ++List.replicate (N-ρ.length) Sl.un)=some ρ1/\mc ρ1=.ok false) ->
    k7 N mg mc me ((List.range ws.length).map fun k=>W.int (k:Nat)) ρ=.ok (.lst []):=fun ws N mg mc me ρ hl h=>by
   rw [Q4 (fun k=>W.int (k:Nat)) _ (fun _=>false) _ ρ (by simpa using hl) fun k hk=>by
    obtain ⟨ρ1,e1,e2⟩:=h k (by simpa using hk)
    exact ⟨ρ1,e1,e2,fun q=>by cases q⟩]
   simp
  have d00:decide (((0:Nat):Int)=0)=true:=rfl
  cases h with
  | @int _ i=>
   have i1:fIsi [.int i,.ty "tuple"]=.ok (.bl false):=rfl
   have i2:fIsi [.int i,.ty "list"]=.ok (.bl false):=rfl
   have i3:fIsi [.int i,.ty "int"]=.ok (.bl true):=rfl
   have i4:fIsi [.int i,.ty "bool"]=.ok (.bl false):=rfl
   have f1:fEq false (.int i) (.int i)=.ok (.bl true):=hU (K8 8 i)
   exists rpB,B2,i1,i2,i3,i4,f1
  | @str _ s hs=>
   have i1:fIsi [.str s,.ty "tuple"]=.ok (.bl false):=rfl
   have i2:fIsi [.str s,.ty "list"]=.ok (.bl false):=rfl
   have i3:fIsi [.str s,.ty "int"]=.ok (.bl false):=rfl
   have i4:fIsi [.str s,.ty "str"]=.ok (.bl true):=rfl
   have f1:fEq false (.str s) (.str s)=.ok (.bl true):=hU (show PyData.strOk s=true from hs)
   exists rpB,B2,i1,i2,i3,i4,f1
  | @tup _ ws hl hw=>
   have i1:fIsi [.tup ws,.ty "tuple"]=.ok (.bl true):=rfl
   have i2:fIsi [.tup ws,.ty "list"]=.ok (.bl false):=rfl
   have b1:o9 true (.bl true) (.bl true)=.ok (.bl false):=rfl
   have b2:o9 true (.bl false) (.bl false)=.ok (.bl false):=rfl
   have g1:∀ r:R Bool,TP.rOr (.ok true) r=.ok true:=fun r=>rfl
   have dd:decide ((ws.length:Int)=(ws.length:Int))=true:=decide_eq_true rfl
   exists rpB,B2,i1,i2,b1,b2,g1,dd
   rw [e ws]
   ·exists d00
   ·exact hl
   ·intro k hk
    have a1:=atN hk
    have k1:=ih (ws.getD k .non) (hw _ (by rw [List.getD_eq_getElem?_getD,List.getElem?_eq_getElem hk]; exact List.getElem_mem _))
    refine ⟨_,rfl,?_⟩
    exists a1,k1
  | @lst _ ws hl hw=>
   have i1:fIsi [.lst ws,.ty "tuple"]=.ok (.bl false):=rfl
   have i2:fIsi [.lst ws,.ty "list"]=.ok (.bl true):=rfl
   have b1:o9 true (.bl true) (.bl true)=.ok (.bl false):=rfl
   have b2:o9 true (.bl false) (.bl false)=.ok (.bl false):=rfl
   have dd:decide ((ws.length:Int)=(ws.length:Int))=true:=decide_eq_true rfl
   exists rpB,B2,i1,i2,b1,b2,dd
   rw [e ws]
   ·exists d00
   ·exact hl
   ·intro k hk
    have a1:=atN hk
    have k1:=ih (ws.getD k .non) (hw _ (by rw [List.getD_eq_getElem?_getD,List.getElem?_eq_getElem hk]; exact List.getElem_mem _))
    refine ⟨_,rfl,?_⟩
    exists a1,k1
theorem small {z:Int} (h:-18446744073709551616<z/\z<18446744073709551616):Builtin.Int.intBits z<=64:=intBits_le_64 (by omega) (by omega)
theorem cr {s:List Int} {m:Mv} (h6:s.length<=6) (hm:okN s.length m):F8 [tI s,mW m]=.ok (tI (k4 s m)):=by
 have a0:L2.atI [tI m.1,tI m.2] 0=some (tI m.1):=rfl
 have a1:L2.atI [tI m.1,tI m.2] 1=some (tI m.2):=rfl
 have e1:=hm.1
 have e2:=hm.2.1
 have e:∀ N mg me ρ (h:∀ k∈List.range s.length,∃ ρ1,mg (.int (k:Nat)) (ρ++List.replicate (N-ρ.length) Sl.un)=some ρ1/\me ρ1=.ok (.int (s.getD k 0-m.1.getD k 0+m.2.getD k 0))),k7 N mg yes me ((List.range s.length).map fun k=>W.int (k:Nat)) ρ=.ok (lI (k4 s m)):=fun N mg me ρ h=>by
  rw [n6 (fun k=>W.int (s.getD k 0-m.1.getD k 0+m.2.getD k 0)) _ _ ρ (by simp; omega) h]
  unfold lI k4; rw [List.map_map]
  refine congrArg (fun l=>R.ok (W.lst l)) (List.map_congr_left fun k _=>?_)
  show W.int (s.getD k 0-m.1.getD k 0+m.2.getD k 0)=W.int (s.getD k 0+(m.2.getD k 0-m.1.getD k 0))
  rw [show s.getD k 0-m.1.getD k 0+m.2.getD k 0=s.getD k 0+(m.2.getD k 0-m.1.getD k 0) by omega]
 exists rpB,Y9
 rw [e]
 ·exists rp18
 ·intro k hk
  have hk:k<s.length:=by simpa using hk
  refine ⟨_,rfl,?_⟩
  exists a0,a1
theorem gu {ms:List Mv} {k:Nat} (h:k<ms.length):L2.atI (ms.map mW) (k:Int)=some (mW (mvN ms k)):=by
 have:=atM (ms:=ms) (r:=(k:Int)) (by omega) (by omega)
 rw [Int.toNat_natCast] at this
 exact this
theorem aa {ms:List Mv} {k:Nat} (h:k<ms.length):mvN ms k∈ms:=by
 unfold mvN; rw [List.getD_eq_getElem?_getD,List.getElem?_eq_getElem h]; exact List.getElem_mem _
theorem dh {a b:List Int} (h6:a.length<=6) (hl:b.length=a.length):y8 [tI a,tI b]=.ok (.bl (d8 a b)):=by
 have fin:Ok (y8 [tI a,tI b]) fun v=>v=.bl (d8 a b):=by
  exists rpB,Y8
  refine o6 (p9 (fun i ρ=>∃ x,ρ = [.par (tI a),.par (tI b),x]/\∀ k,k<i->b.getD k 0<=a.getD k 0) ⟨_,rfl,fun k hk=>absurd hk (Nat.not_lt_zero _)⟩ ?_ ?_)
  ·rintro i u ρ hu ⟨x,rfl,hall⟩
   obtain ⟨hi,rfl⟩:=U2 hu
   refine ⟨_,rfl,?_⟩
   exists rp18
   refine C0 (fun h=>?_) (fun h=>?_)
   ·have h:=of_decide_eq_true h
    exists sv hi h
   ·have h:=of_decide_eq_false h
    exists rp18
    refine ⟨_,rfl,fun k hk=>?_⟩
    by_cases e:k=i
    ·subst e; omega
    ·exact hall k (by omega)
  ·rintro ρ ⟨x,rfl,hall⟩
   rw [List.length_map,List.length_range] at hall
   exists fj hall
 obtain ⟨v,e,rfl⟩:=fin
 exact e
theorem bo {s:List Int} {ss:List (List Int)} (h6:s.length<=6) (hl:∀ x∈ss,x.length=s.length):y6 [tI s,lS ss]=.ok (.bl (h7 s ss)):=by
 have fin:Ok (y6 [tI s,lS ss]) fun v=>v=.bl (h7 s ss):=by
  exists rpB,Y6
  refine o6 (p9 (fun i ρ=>∃ u,ρ = [.par (tI s),.par (lS ss),u]/\∀ k,k<i->d8 s (ss.getD k [])=false) ⟨_,rfl,fun k hk=>absurd hk (Nat.not_lt_zero _)⟩ ?_ ?_)
  ·rintro i u ρ hu ⟨_,rfl,hall⟩
   obtain ⟨hi,rfl⟩:=U5 hu
   have hc:=dh (a:=s) (b:=ss.getD i []) h6 (hl _ (ad hi))
   refine ⟨_,rfl,?_⟩
   exists hc
   refine C0 (fun h=>?_) (fun h=>?_)
   ·exists rp18
    rw [rX hi h]
   ·exists rp18
    refine ⟨_,rfl,fun k hk=>?_⟩
    by_cases e:k=i
    ·subst e; exact h
    ·exact hall k (by omega)
  ·rintro ρ ⟨_,rfl,hall⟩
   rw [List.length_map] at hall
   exists rp18
   rw [rY hall]
 obtain ⟨v,e,rfl⟩:=fin
 exact e
theorem vh {s:List Int} {m:Mv} (h6:s.length<=6) (hm:okM s.length m):N8 [tI s,mW m]=.ok (tI (v7 s m.1 m.2)):=by
 have a0:L2.atI [tI m.1,tI m.2] 0=some (tI m.1):=rfl
 have a1:L2.atI [tI m.1,tI m.2] 1=some (tI m.2):=rfl
 have e1:=hm.1
 have e2:=hm.2
 have e:∀ N mg me ρ (h:∀ k∈List.range s.length,∃ ρ1,mg (.int (k:Nat)) (ρ++List.replicate (N-ρ.length) Sl.un)=some ρ1/\me ρ1=.ok (.int (m.1.getD k 0+max 0 (s.getD k 0-m.2.getD k 0)))),k7 N mg yes me ((List.range s.length).map fun k=>W.int (k:Nat)) ρ=.ok (lI (v7 s m.1 m.2)):=fun N mg me ρ h=>by
  rw [n6 (fun k=>W.int (m.1.getD k 0+max 0 (s.getD k 0-m.2.getD k 0))) _ _ ρ (by simp; omega) h]
  unfold lI v7; rw [List.map_map]
  refine congrArg (fun l=>R.ok (W.lst l)) (List.map_congr_left fun k _=>?_)
  show W.int (m.1.getD k 0+max 0 (s.getD k 0-m.2.getD k 0))=W.int (max (m.1.getD k 0) (s.getD k 0-m.2.getD k 0+m.1.getD k 0))
  congr 1
  omega
 exists rpB,Y5
 rw [e]
 ·exists rp18
 ·intro k hk
  have hk:k<s.length:=by simpa using hk
  refine ⟨_,rfl,?_⟩
  exists a0,a1
def AC (L:List (List Int)):Prop:=L.Pairwise fun a b=>d8 a b=false/\d8 b a=false
def G0 (L:List (List Int)) (o:List Int):List (List Int):=if h7 o L then L else L.filter (fun x=>!d8 x o) ++ [o]
theorem jk {L:List (List Int)} {o x:List Int} (h:x∈G0 L o):x∈L\/x=o:=by
 unfold G0 at h
 split at h
 ·exact .inl h
 ·rcases List.mem_append.mp h with h | h
  ·exact .inl ((List.mem_filter.mp h).1)
  ·exact .inr (by simpa using h)
theorem vv (L:List (List Int)) (o:List Int):(G0 L o).length<=L.length+1:=by
 unfold G0
 split
 ·omega
 ·have:=List.length_filter_le (fun x=>!d8 x o) L
  rw [List.length_append,List.length_singleton]; omega
theorem vq (L:List (List Int)) (o:List Int):∃ y∈G0 L o,d8 o y=true:=by
 unfold G0
 split
 ·rename_i h
  exact List.any_eq_true.mp h
 ·exact ⟨o,by simp,X8 o⟩
theorem dl {n:Nat} {L:List (List Int)} {o x:List Int} (hL:∀ y∈L,y.length=n) (hx:x.length=n) (h:∃ y∈L,d8 x y=true):∃ y∈G0 L o,d8 x y=true:=by
 obtain ⟨y,hy,c⟩:=h
 unfold G0
 split
 ·exact ⟨y,hy,c⟩
 ·cases q:d8 y o with
  | true=>exact ⟨o,by simp,au (by rw [hx,hL y hy]) c q⟩
  | false=>exact ⟨y,List.mem_append.mpr (.inl (List.mem_filter.mpr ⟨hy,by simp [q]⟩)),c⟩
theorem zK {L:List (List Int)} {o:List Int} (h:AC L):AC (G0 L o):=by
 unfold G0
 split
 ·exact h
 ·rename_i hl
  refine List.pairwise_append.mpr ⟨h.sublist List.filter_sublist,List.pairwise_singleton _ _,fun a ha b hb=>?_⟩
  have hb:b=o:=by simpa using hb
  subst hb
  have ha2:=(List.mem_filter.mp ha)
  refine ⟨by simpa using ha2.2,?_⟩
  cases q:d8 b a with
  | false=>rfl
  | true=>exact absurd (List.any_eq_true.mpr ⟨a,ha2.1,q⟩) hl
theorem Bv {n:Nat} {L:List (List Int)} (h:AC L) (hl:∀ x∈L,x.length=n):Bas n (y9 L):=by
 have hp:=J1 L
 have ha:AC (y9 L):=List.Perm.pairwise hp.symm h fun zz86=>by obtain ⟨x,y⟩:=zz86; exact ⟨y,x⟩
 exact ⟨fun b hb=>hl b (hp.mem_iff.mp hb),aB L,ha.imp fun zz87=>by obtain ⟨_,y⟩:=zz87; exact y⟩
theorem qq {n:Nat} {ms:List Mv} {ss:List (List Int)} (h1:1<=n) (h6:n<=6) (hm:∀ m∈ms,okM n m) (hB:Bas n ss) (hml:ms.length<=8) (hsl:ss.length<=100):M5 [lM ms,lS ss]=.ok (lS (x8 (ss++m8 ms ss))):=by
 have fin:Ok (M5 [lM ms,lS ss]) fun v=>v=lS (x8 (ss++m8 ms ss)):=by
  have acS:AC ss:=by
   have:=hB.a1
   have h2:=hB.a2
   exact List.Pairwise.and h2 this
  exists rpB,aS
  refine o6 (p9 (fun i ρ=>∃ (L:List (List Int)) (a3 a4 a5:Sl),ρ = [.par (lM ms),.par (lS ss),.own (L.map tI),a3,a4,a5]/\AC L/\(∀ x∈L,x.length=n)/\(∀ x∈L,x∈ss++m8 ms ss)/\(∀ x∈ss,∃ y∈L,d8 x y=true)/\(∀ k,k<i->∀ m∈ms,∃ y∈L,d8 (v7 (ss.getD k []) m.1 m.2) y=true)/\L.length<=100+i*8)
   ⟨ss,_,_,_,rfl,acS,hB.len,fun x hx=>List.mem_append.mpr (.inl hx),fun x hx=>⟨x,hx,X8 x⟩,fun k hk=>absurd hk (Nat.not_lt_zero _),by omega⟩ ?_ ?_)
  ·rintro i u ρ hu ⟨L,a3,a4,a5,rfl,hac,hle,hin,hcs,hck,hll⟩
   obtain ⟨hi,rfl⟩:=U5 hu
   have hsn:=hB.len _ (ad hi)
   have hmem:=ad hi
   generalize hs:ss.getD i []=s at hsn hmem ⊢
   refine ⟨_,rfl,?_⟩
   exists rp18
   refine fV (fun j ρ=>∃ (L:List (List Int)) (a4 a5:Sl),ρ = [.par (lM ms),.par (lS ss),.own (L.map tI),.par (tI s),a4,a5]/\AC L/\(∀ x∈L,x.length=n)/\(∀ x∈L,x∈ss++m8 ms ss)/\(∀ x∈ss,∃ y∈L,d8 x y=true)/\(∀ k,k<i->∀ m∈ms,∃ y∈L,d8 (v7 (ss.getD k []) m.1 m.2) y=true)/\(∀ q m,q<j->ms[q]?=some m->∃ y∈L,d8 (v7 s m.1 m.2) y=true)/\L.length<=100+i*8+j)
    ⟨L,a4,a5,rfl,hac,hle,hin,hcs,hck,fun q m hq=>absurd hq (Nat.not_lt_zero _),by omega⟩ ?_ ?_
   ·rintro j u ρ hu ⟨L,a4,a5,rfl,hac,hle,hin,hcs,hck,hcj,hll⟩
    obtain ⟨m,hmm,hmi,rfl⟩:=aI hu
    have hj:j<ms.length:=(List.getElem?_eq_some_iff.mp hmi).1
    have hol:(v7 s m.1 m.2).length=n:=by rw [W2,hsn]
    have k1:=vh (s:=s) (m:=m) (by omega) (by rw [hsn]; exact hm m hmm)
    have k2:=bo (s:=v7 s m.1 m.2) (ss:=L) (by omega) (fun x hx=>by rw [hol]; exact hle x hx)
    have hlen:=vv L (v7 s m.1 m.2)
    have hsrc:v7 s m.1 m.2∈ss++m8 ms ss:=List.mem_append.mpr (.inr (List.mem_flatMap.mpr ⟨m,hmm,List.mem_map.mpr ⟨s,hmem,rfl⟩⟩))
    have key:∀ L',L'=G0 L (v7 s m.1 m.2)->AC L'/\(∀ x∈L',x.length=n)/\(∀ x∈L',x∈ss++m8 ms ss)/\(∀ x∈ss,∃ y∈L',d8 x y=true)/\(∀ k,k<i->∀ m∈ms,∃ y∈L',d8 (v7 (ss.getD k []) m.1 m.2) y=true)/\(∀ q m,q<j+1->ms[q]?=some m->∃ y∈L',d8 (v7 s m.1 m.2) y=true)/\L'.length<=100+i*8+(j+1):=fun L' e=>by
     subst e
     refine ⟨zK hac,fun x hx=>?_,fun x hx=>?_,fun x hx=>dl hle (hB.len x hx) (hcs x hx),fun k hk m' hm'=>dl hle ?_ (hck k hk m' hm'),fun q m' hq hm'=>?_,by omega⟩
     ·rcases jk hx with h | rfl
      ·exact hle x h
      ·exact hol
     ·rcases jk hx with h | rfl
      ·exact hin x h
      ·exact hsrc
     ·rw [W2]; exact hB.len _ (ad (by omega))
     ·by_cases e:q=j
      ·subst e
       rw [hmi] at hm'; cases hm'
       exact vq _ _
      ·exact dl hle (by rw [W2,hsn]) (hcj q m' (by omega) hm')
    generalize v7 s m.1 m.2=o at *
    have hLl:L.length<=1000:=by omega
    have e:∀ N mg mc me ρ,(∀ x∈L,∃ ρ1,mg (tI x) (ρ++List.replicate (N-ρ.length) Sl.un)=some ρ1/\mc ρ1=.ok (!d8 x o)/\(me ρ1=.ok (tI x))) ->
      k7 N mg mc me (L.map tI) ρ=.ok (lS (L.filter fun x=>!d8 x o)):=fun N mg mc me ρ h=>
     Q4 tI tI (fun x=>!d8 x o) L ρ hLl fun x hx=>by
      obtain ⟨ρ1,e1,e2,e3⟩:=h x hx
      exact ⟨ρ1,e1,e2,fun _=>e3⟩
    refine ⟨_,rfl,?_⟩
    exists k1,k2
    refine C0 (fun h=>?_) (fun h=>?_)
    ·have h:h7 o L=false:=by simpa using h
     have ei:G0 L o=L.filter (fun x=>!d8 x o) ++ [o]:=by unfold G0; rw [h]; rfl
     have hfl:=List.length_filter_le (fun x=>!d8 x o) L
     exists rp18
     rw [e]
     ·exists rp18
      exact ⟨_,_,_,rfl,key _ ei.symm⟩
     ·intro x hx
      have k3:=dh (a:=x) (b:=o) (by rw [hle x hx]; exact h6) (by rw [hol,hle x hx])
      refine ⟨_,rfl,?_⟩
      exists k3
    ·have h:h7 o L=true:=by simpa using h
     have ei:G0 L o=L:=by unfold G0; rw [h]; rfl
     exists rp18
     exact ⟨_,_,_,rfl,key _ ei.symm⟩
   ·rintro ρ ⟨L,a4,a5,rfl,hac,hle,hin,hcs,hck,hcj,hll⟩
    rw [List.length_map] at hcj hll
    refine ⟨L,_,_,_,rfl,hac,hle,hin,hcs,fun k hk m hmm=>?_,by omega⟩
    by_cases e:k=i
    ·subst e
     rw [hs]
     obtain ⟨q,hq,eq⟩:=List.mem_iff_getElem.mp hmm
     exact hcj q m hq (by rw [List.getElem?_eq_getElem hq,eq])
    ·exact hck k (by omega) m hmm
  ·rintro ρ ⟨L,a3,a4,a5,rfl,hac,hle,hin,hcs,hck,hll⟩
   rw [List.length_map] at hck hll
   have k1:=jo (ss:=L) (by omega) (fun z hz e=>by have:=hle z hz; rw [e] at this; simp at this; omega)
   have hD:∀ x∈ss++m8 ms ss,x.length=n:=fk hB.len
   obtain ⟨b1,b2,b3,_⟩:=aH hD
   have hp:=J1 L
   have hall:∀ x∈ss++m8 ms ss,∃ y∈L,d8 x y=true:=fun x hx=>by
    rcases List.mem_append.mp hx with h | h
    ·exact hcs x h
    ·obtain ⟨m,hmm,h⟩:=List.mem_flatMap.mp h
     obtain ⟨s,hs,rfl⟩:=List.mem_map.mp h
     obtain ⟨k,hk,e⟩:=List.mem_iff_getElem.mp hs
     have:=hck k hk m hmm
     rw [List.getD_eq_getElem?_getD,List.getElem?_eq_getElem hk,e] at this
     exact this
   have ee:y9 L=x8 (ss++m8 ms ss):=oq (Bv hac hle) b1 (fun a ha=>b3 a (hin a (hp.mem_iff.mp ha))) fun b hb=>by
    obtain ⟨y,hy,c⟩:=hall b (b2 b hb)
    exact ⟨y,hp.mem_iff.mpr hy,c⟩
   exists k1
   rw [ee]
 obtain ⟨v,e,rfl⟩:=fin
 exact e
def opB (ms:List Mv) (t:List Int) (most j:Nat):Bool:=decide (most<(Bk ms t j).length)||!E5 ms (Bk ms t j)
def EnoP (ms:List Mv) (t:List Int) (most j:Nat):Prop:=r6 ms t most "basis" j≠.non/\∀ i,i<j->r6 ms t most "basis" i=.non
theorem EnoP.one {ms:List Mv} {t:List Int} {most j k:Nat} (h:EnoP ms t most j) (g:EnoP ms t most k):j=k:=by
 rcases Nat.lt_trichotomy j k with q | q | q
 ·exact absurd (g.2 j q) h.1
 ·exact q
 ·exact absurd (h.2 k q) g.1
theorem vT {ms:List Mv} {t:List Int} {most j:Nat} (h:r6 ms t most "basis" j≠.non):r6 ms t most "basis" j=if opB ms t most j=true then .tup [.str "open",.int (j:Int)] else .tup [.str "basis",lS (Bk ms t j)]:=by
 have hn:=fun z=>h (end_non.mpr z)
 unfold r6 opB
 by_cases q:most<(Bk ms t j).length
 ·rw [if_pos (decide_eq_true (by omega)),decide_eq_true q]; rfl
 ·rw [if_neg (by simp; omega),decide_eq_false q]
  cases sb:E5 ms (Bk ms t j) with
  | true=>rfl
  | false=>
   have:j=most:=Classical.byContradiction fun z=>hn ⟨by omega,sb,z⟩
   subst this
   simp
theorem kD {n:Nat} {ms:List Mv} {t:List Int} {most:Nat} (h1:1<=n) (h6:n<=6) (hm:∀ m∈ms,okM n m) (hml:ms.length<=8) (ht:t.length=n) (hmo:most<=30):Ok (N9 [lM ms,tI t,.int (most:Int)]) fun w=>∃ j,EnoP ms t most j/\w=if opB ms t most j=true then .non else lS (Bk ms t j):=by
 have ct:=B6 (E2 t)
 exists rpB,Y7,ct
 refine o6 (p9 (fun i ρ=>∃ (s3 a4 a5:Sl),ρ = [.par (lM ms),.par (tI t),.par (.int (most:Int)),s3,a4,a5]/\(s3=.own ((Bk ms t i).map tI)\/s3=.val (lS (Bk ms t i)))/\∀ q,q<i->(Bk ms t q).length<=most/\E5 ms (Bk ms t q)=false) ⟨_,_,_,rfl,.inl rfl,fun q hq=>absurd hq (Nat.not_lt_zero _)⟩ ?_ ?_)
 ·rintro i u ρ hu ⟨s3,a4,a5,rfl,hs,hall⟩
  obtain ⟨hi,rfl⟩:=U2 hu
  have hbas:=R8 (ms:=ms) ht i
  have hprev:∀ q,q<i->r6 ms t most "basis" q=.non:=fun q hq=>end_non.mpr ⟨(hall q hq).1,(hall q hq).2,by omega⟩
  by_cases hl:most<(Bk ms t i).length
  ·have d1:decide ((most:Int)<((Bk ms t i).length:Int))=true:=decide_eq_true (by omega)
   have hne:r6 ms t most "basis" i≠.non:=fun z=>by have:=(end_non.mp z).1; omega
   rcases hs with rfl | rfl
   all_goals
    refine ⟨_,rfl,?_⟩
    exists d1
    refine ⟨i,⟨hne,hprev⟩,?_⟩
    unfold opB
    rw [decide_eq_true hl]; rfl
  ·have d1:decide ((most:Int)<((Bk ms t i).length:Int))=false:=decide_eq_false (by omega)
   have k1:=qq h1 h6 hm hbas hml (by omega)
   have k2:x8 (Bk ms t i++m8 ms (Bk ms t i))=Bk ms t (i+1):=rfl
   rw [k2] at k1
   have fe:=nH false (Bk ms t (i+1)) (Bk ms t i)
   have sm:=oU (ms:=ms) hbas.len
   rw [qh hbas (List.Perm.refl _),k2] at sm
   rw [show (if false=true then !decide (Bk ms t (i+1)=Bk ms t i) else decide (Bk ms t (i+1)=Bk ms t i))=E5 ms (Bk ms t i) from sm] at fe
   cases sb:E5 ms (Bk ms t i) with
   | true=>
    rw [sb] at fe
    have hne:r6 ms t most "basis" i≠.non:=fun z=>by have:=(end_non.mp z).2.1; rw [sb] at this; cases this
    have ho:opB ms t most i=false:=by unfold opB; rw [decide_eq_false hl,sb]; rfl
    rcases hs with rfl | rfl
    all_goals
     refine ⟨_,rfl,?_⟩
     exists d1,k1,fe
     exact ⟨i,⟨hne,hprev⟩,by rw [ho]; rfl⟩
   | false=>
    rw [sb] at fe
    rcases hs with rfl | rfl
    all_goals
     refine ⟨_,rfl,?_⟩
     exists d1,k1,fe
     refine ⟨_,_,_,rfl,.inr rfl,fun q hq=>?_⟩
     by_cases e:q=i
     ·subst e; exact ⟨by omega,sb⟩
     ·exact hall q (by omega)
 ·rintro ρ ⟨s3,a4,a5,rfl,hs,hall⟩
  rw [List.length_map,List.length_range] at hall
  have hz:=hall most (by omega)
  exists rp18
  refine ⟨most,⟨fun z=>(end_non.mp z).2.2 rfl,fun q hq=>end_non.mpr ⟨(hall q (by omega)).1,(hall q (by omega)).2,by omega⟩⟩,?_⟩
  unfold opB
  rw [hz.2]; simp
theorem Pt.snoc {es:List Ent} {e:Ent}:∀ {n:Nat} {l r:List Int},Pt es n l r->Pt (es ++ [e]) n l r
 | _,_,_,.zero=>.zero
 | _,_,_,.succ h p=>.succ (by rw [List.getElem?_append_left (List.getElem?_eq_some_iff.mp h).1]; exact h) p.snoc
theorem Pt.last {es:List Ent} {B:List Int} {a k:Nat} {l r:List Int} (p:Pt es a l r):Pt (es ++ [(B,a,k)]) (es.length+1) (((es.length+1:Nat):Int)::l) (r ++ [(k:Int)]):=
 .succ (e:=(B,a,k)) (by simp) p.snoc
def waysP (es:List Ent) (WS:List (List Int)):Prop:=WS.length=es.length+1/\∀ n,n<=es.length->∃ l,Pt es n l (WS.getD n [])
theorem waysP.snoc {es:List Ent} {WS:List (List Int)} {B:List Int} {a k:Nat} (h:waysP es WS) (ha:a<=es.length):waysP (es ++ [(B,a,k)]) (WS ++ [WS.getD a [] ++ [(k:Int)]]):=by
 refine ⟨by simp [h.1],fun n hn=>?_⟩
 rw [List.length_append,List.length_singleton] at hn
 by_cases e:n=es.length+1
 ·subst e
  obtain ⟨l,p⟩:=h.2 a ha
  refine ⟨((es.length+1:Nat):Int)::l,?_⟩
  rw [List.getD_eq_getElem?_getD,List.getElem?_append_right (by rw [h.1]; exact Nat.le_refl _),h.1,Nat.sub_self]
  exact p.last
 ·obtain ⟨l,p⟩:=h.2 n (by omega)
  refine ⟨l,?_⟩
  rw [List.getD_eq_getElem?_getD,List.getElem?_append_left (by rw [h.1]; omega),<- List.getD_eq_getElem?_getD]
  exact p.snoc
theorem waysP.start:waysP [] [[]]:=⟨rfl,fun n hn=>by
 have:n=0:=by simpa using hn
 subst this
 exact ⟨[0],.zero⟩⟩
def fsT (ms:List Mv) (s:List Int) (i:Nat):List Nat:=(List.range i).filter fun k=>d8 s (mvN ms k).1
theorem fsT_mem {ms:List Mv} {s:List Int} {i k:Nat}:k∈fsT ms s i↔k<i/\d8 s (mvN ms k).1=true:=by
 unfold fsT; rw [List.mem_filter,List.mem_range]
theorem vC (ms:List Mv) (s:List Int) (i:Nat):fsT ms s (i+1)=if d8 s (mvN ms i).1=true then fsT ms s i ++ [i] else fsT ms s i:=by
 unfold fsT
 rw [List.range_succ,List.filter_append]
 cases q:d8 s (mvN ms i).1 <;> simp [q]
theorem wz {WS:List (List Int)} {k:Nat} (h:k<WS.length):L2.atI (WS.map lI) (k:Int)=some (lI (WS.getD k [])):=V7 (by rw [List.getElem?_map,List.getD_eq_getElem?_getD,List.getElem?_eq_getElem h]; rfl)
theorem ni {b:List Int} {ms:List Mv} {most:Nat} (h6:b.length<=6) (hm:∀ m∈ms,okN b.length m) (h8:ms.length<=8) (h1:1<=most) (h30:most<=100):Ok (Q9 [tI b,lM ms,.int (most:Int)]) fun w=>∃ (es:List Ent) (WS:List (List Int)) (wh:Bool),w=.tup [lS (stS b es),.lst (WS.map lI),.bl wh]/\FlEnd b ms most es wh/\waysP es WS:=by
 have ct:=B6 (E2 b)
 exists rpB,af,ct
 refine o6 (M8 ?_)
 refine W8 (fun m ρ=>∃ (es:List Ent) (WS:List (List Int)) (at_:Nat) (a6 a7:Sl),ρ = [.par (tI b),.par (lM ms),.par (.int (most:Int)),.own ((stS b es).map tI),.own (WS.map lI),.val (.int (at_:Int)),a6,a7]/\FlK b ms es at_ []/\waysP es WS/\at_<=es.length+1/\es.length+1<=most/\m+at_=102) ?_ 102 _ ⟨[],[[]],0,.un,.un,rfl,FlK.start b ms,waysP.start,by omega,by simpa using h1,rfl⟩
 rintro m ρ ⟨es,WS,at_,a6,a7,rfl,hK,hW,hat,hmo,hmm⟩
 have hsl:=E4 b es
 by_cases hlt:at_<es.length+1
 ·refine ⟨true,?_,?_⟩
  ·exists rp18
   rw [show decide ((at_:Int)<((stS b es).length:Int))=true from decide_eq_true (by omega)]
  rw [if_pos rfl]
  have hsn:=hK.slen hlt
  exists rp18
  generalize hs:sA b es at_=s at *
  refine p9 (fun i ρ=>∃ (es':List Ent) (WS':List (List Int)) (a6 a7:Sl),ρ = [.par (tI b),.par (lM ms),.par (.int (most:Int)),.own ((stS b es').map tI),.own (WS'.map lI),.val (.int (at_:Int)),a6,a7]/\FlK b ms es' at_ (fsT ms s i)/\waysP es' WS'/\at_<es'.length+1/\es'.length+1<=most/\sA b es' at_=s) ⟨es,WS,a6,a7,rfl,hK,hW,hlt,hmo,hs⟩ ?_ ?_
  ·rintro i u ρ hu ⟨es',WS',a6,a7,rfl,hK',hW',hlt',hmo',hs'⟩
   obtain ⟨hi,rfl⟩:=U2 hu
   have hsl':=E4 b es'
   have e1:=gu (ms:=ms) hi
   have hok:=hm _ (aa hi)
   have e2:L2.atI ((stS b es').map tI) (at_:Int)=some (tI s):=by
    rw [atS (by omega)]
    rw [<- hs']; rfl
   have a0:L2.atI [tI (mvN ms i).1,tI (mvN ms i).2] 0=some (tI (mvN ms i).1):=rfl
   have k1:=dh (a:=s) (b:=(mvN ms i).1) (by omega) (by rw [hok.1,hsn])
   have k2:=cr (s:=s) (m:=mvN ms i) (by omega) (by rw [hsn]; exact hok)
   have hT:∀ t∈fsT ms s i,t<i:=fun t ht=>(fsT_mem.mp ht).1
   have hcl:∀ j,j<i->abN b ms es' at_ j=true->j∈fsT ms s i:=fun j hj hab=>by
    unfold abN at hab
    rw [hs'] at hab
    exact fsT_mem.mpr ⟨hj,hab⟩
   have hbh:bhN b ms es' at_ i=k4 s (mvN ms i):=by unfold bhN; rw [hs']
   have hbl:(k4 s (mvN ms i)).length=b.length:=by rw [R6]; exact hsn
   have hts:=vC ms s i
   have hab0:abN b ms es' at_ i=d8 s (mvN ms i).1:=by unfold abN; rw [hs']
   have e3:=wz (WS:=WS') (k:=at_) (by rw [hW'.1]; exact hlt')
   have hwl:=hW'.1
   have hml2:(WS'.getD at_ []).length<=100:=by
    obtain ⟨l,p⟩:=hW'.2 at_ (by omega)
    have:=(Pt.len hK'.par p).2
    omega
   have fi:=Aj true (k4 s (mvN ms i)) (stS b es')
   generalize hB:k4 s (mvN ms i)=B at *
   refine ⟨_,rfl,?_⟩
   exists e2,e1,a0,k1
   refine C0 (fun h=>?_) (fun h=>?_)
   ·exists e2,e1,k2,fi
    refine C0 (fun h2=>?_) (fun h2=>?_)
    ·have h2:B∉stS b es':=by simpa using h2
     exists rp18
     refine bP (fun h3=>?_) (fun h3=>?_)
     ·have h3:=of_decide_eq_true h3
      exists rp18
      exact ⟨es',WS',false,rfl,⟨hmo',.inr ⟨rfl,by omega,at_,_,i,hK',hlt',hi,hT,by rw [hab0]; exact h,by rw [hbh]; exact h2⟩⟩,hW'⟩
     ·have h3:=of_decide_eq_false h3
      have cB:=B6 (E2 B)
      exists cB,e3
      refine ⟨es' ++ [(B,at_,i)],WS' ++ [WS'.getD at_ [] ++ [(i:Int)]],.par (.int (i:Int)),.val (tI B),?_,?_,hW'.snoc (by omega),?_,?_,?_⟩
      ·simp [stS]
      ·rw [hts,if_pos h,<- hbh]
       exact hK'.snoc h8 hlt' hi hT hcl (by rw [hab0]; exact h) (by rw [hbh]; exact hbl) (by rw [hbh]; exact h2)
      ·rw [List.length_append]; omega
      ·rw [List.length_append,List.length_singleton]; omega
      ·rw [cT hlt']; exact hs'
    ·have h2:B∈stS b es':=by simpa using h2
     exists rp18
     exact ⟨es',WS',_,_,rfl,by rw [hts,if_pos h]; exact hK'.known h8 hT hcl (by rw [hbh]; exact h2),hW',hlt',hmo',hs'⟩
   ·exists rp18
    exact ⟨es',WS',_,_,rfl,by rw [hts,if_neg (by rw [h]; exact Bool.false_ne_true)]; exact hK',hW',hlt',hmo',hs'⟩
  ·rintro ρ ⟨es',WS',a6,a7,rfl,hK',hW',hlt',hmo',hs'⟩
   rw [List.length_map,List.length_range] at hK'
   exists rp18
   refine ⟨m-1,by omega,es',WS',at_+1,a6,a7,?_,hK'.next fun k hk hab=>?_,hW',by omega,hmo',by omega⟩
   ·rw [show ((at_+1:Nat):Int)=(at_:Int)+1 by omega]
   ·unfold abN at hab
    rw [hs'] at hab
    exact fsT_mem.mpr ⟨hk,hab⟩
 ·refine ⟨false,?_,?_⟩
  ·exists rp18
   rw [show decide ((at_:Int)<((stS b es).length:Int))=false from decide_eq_false (by omega)]
  rw [if_neg (by decide)]
  have:at_=es.length+1:=by omega
  subst this
  exists rp18
  exact ⟨es,WS,true,rfl,⟨hmo,.inl ⟨rfl,hK⟩⟩,hW⟩
def q5 (s t:List Int):List Int:=(List.range s.length).map fun k=>max (s.getD k 0) (t.getD k 0)
theorem E3 (s t:List Int):(q5 s t).length=s.length:=by simp [q5]
def T6 (ms:List Mv) (B:List (List Int)):Bool:=ms.all fun m=>B.all fun s=>h7 (k4 (q5 s m.1) m) B
theorem Ck {ms:List Mv} {B:List (List Int)} {m:Mv} {s:List Int} (hm:m∈ms) (hs:s∈B) (h:h7 (k4 (q5 s m.1) m) B=false):T6 ms B=false:=by
 rw [Bool.eq_false_iff]
 intro z
 have:=List.all_eq_true.mp (List.all_eq_true.mp z m hm) s hs
 rw [h] at this; cases this
theorem rZ {ms:List Mv} {B:List (List Int)} (h:∀ m∈ms,∀ s∈B,h7 (k4 (q5 s m.1) m) B=true):T6 ms B=true:=List.all_eq_true.mpr fun m hm=>List.all_eq_true.mpr fun s hs=>h m hm s hs
theorem yU {s:List Int} {m:Mv} (h6:s.length<=6):∀ N mg me ρ (h:∀ k∈List.range s.length,∃ ρ1,mg (.int (k:Nat)) (ρ++List.replicate (N-ρ.length) Sl.un)=some ρ1/\me ρ1=.ok (.int (max (s.getD k 0) (m.1.getD k 0)))),k7 N mg yes me ((List.range s.length).map fun k=>W.int (k:Nat)) ρ=.ok (lI (q5 s m.1)):=fun N mg me ρ h=>by
 rw [n6 (fun k=>W.int (max (s.getD k 0) (m.1.getD k 0))) _ _ ρ (by simp; omega) h]
 unfold lI q5; rw [List.map_map]; rfl
theorem vi {n:Nat} {ms:List Mv} {B:List (List Int)} (h6:n<=6) (hm:∀ m∈ms,okN n m) (hB:∀ x∈B,x.length=n):P1 [lM ms,lS B]=.ok (.bl (T6 ms B)):=by
 have fin:Ok (P1 [lM ms,lS B]) fun v=>v=.bl (T6 ms B):=by
  exists rpB,cf
  refine o6 (p9 (fun i ρ=>∃ (a2 a3 a4:Sl),ρ = [.par (lM ms),.par (lS B),a2,a3,a4]/\∀ k,k<i->∀ m∈ms,h7 (k4 (q5 (B.getD k []) m.1) m) B=true) ⟨_,_,_,rfl,fun k hk=>absurd hk (Nat.not_lt_zero _)⟩ ?_ ?_)
  ·rintro i u ρ hu ⟨a2,a3,a4,rfl,hall⟩
   obtain ⟨hi,rfl⟩:=U5 hu
   have hsm:=ad hi
   have hsn:=hB _ hsm
   generalize hs:B.getD i []=s at hsm hsn ⊢
   refine ⟨_,rfl,?_⟩
   exists rp18
   refine fV (fun j ρ=>∃ (a3 a4:Sl),ρ = [.par (lM ms),.par (lS B),.par (tI s),a3,a4]/\∀ q m,q<j->ms[q]?=some m->h7 (k4 (q5 s m.1) m) B=true) ⟨_,_,rfl,fun q m hq=>absurd hq (Nat.not_lt_zero _)⟩ ?_ ?_
   ·rintro j u ρ hu ⟨a3,a4,rfl,hj⟩
    obtain ⟨m,hmm,hmi,rfl⟩:=aI hu
    have hok:=hm m hmm
    have a0:L2.atI [tI m.1,tI m.2] 0=some (tI m.1):=rfl
    have hml:=hok.1
    have k1:=cr (s:=q5 s m.1) (m:=m) (by rw [E3]; omega) (by rw [E3,hsn]; exact hok)
    have k2:=bo (s:=k4 (q5 s m.1) m) (ss:=B) (by rw [R6,E3]; omega) (fun x hx=>by rw [R6,E3,hsn]; exact hB x hx)
    refine ⟨_,rfl,?_⟩
    exists rp18
    rw [yU (s:=s) (m:=m) (by omega)]
    ·exists k1,k2
     refine C0 (fun h=>?_) (fun h=>?_)
     ·have h:h7 (k4 (q5 s m.1) m) B=false:=by simpa using h
      exists rp18
      rw [Ck hmm hsm h]
     ·have h:h7 (k4 (q5 s m.1) m) B=true:=by simpa using h
      exists rp18
      refine ⟨_,_,rfl,fun q m' hq hm'=>?_⟩
      by_cases e:q=j
      ·subst e
       rw [hmi] at hm'; cases hm'
       exact h
      ·exact hj q m' (by omega) hm'
    ·intro k hk
     have hk:k<s.length:=by simpa using hk
     refine ⟨_,rfl,?_⟩
     exists a0
   ·rintro ρ ⟨a3,a4,rfl,hj⟩
    rw [List.length_map] at hj
    refine ⟨_,_,_,rfl,fun k hk m hmm=>?_⟩
    by_cases e:k=i
    ·subst e
     rw [hs]
     obtain ⟨q,hq,eq⟩:=List.mem_iff_getElem.mp hmm
     exact hj q m hq (by rw [List.getElem?_eq_getElem hq,eq])
    ·exact hall k (by omega) m hmm
  ·rintro ρ ⟨a2,a3,a4,rfl,hall⟩
   rw [List.length_map] at hall
   exists rp18
   rw [rZ fun m hmm s hs=>?_]
   obtain ⟨k,hk,e⟩:=List.mem_iff_getElem.mp hs
   have:=hall k hk m hmm
   rw [List.getD_eq_getElem?_getD,List.getElem?_eq_getElem hk,e] at this
   exact this
 obtain ⟨v,e,rfl⟩:=fin
 exact e
theorem uw {s t:List Int} (h6:s.length<=6) (ht:t.length=s.length):Q7 [tI s,tI t]=.ok (tI (q5 s t)):=by
 have hz:=bD (tI s) (tI t) _ _ rfl rfl
 rw [ay ht] at hz
 exists rpB,ae,hz
 have e:∀ N mg me ρ (h:∀ k,k<s.length->∃ ρ1,mg (.tup [.int (s.getD k 0),.int (t.getD k 0)]) (ρ++List.replicate (N-ρ.length) Sl.un)=some ρ1/\me ρ1=.ok (.int (max (s.getD k 0) (t.getD k 0)))),k7 N mg yes me ((List.range s.length).map fun k=>.tup [.int (s.getD k 0),.int (t.getD k 0)]) ρ=.ok (lI (q5 s t)):=fun N mg me ρ h=>by
  rw [n6 (fun k=>.int (max (s.getD k 0) (t.getD k 0))) _ _ ρ (by simpa using (by omega:s.length<=1000)) (fun k hk=>h k (by simpa using hk)),kA]
  rfl
 rw [e]
 ·exists rp18
 ·intro k hk
  refine ⟨_,rfl,?_⟩
  exists rp18
theorem vo {n:Nat} {ms:List Mv} {B:List (List Int)} (h6:n<=6) (hm:∀ m∈ms,okN n m) (hB:∀ x∈B,x.length=n) (hBl:B.length<=900):D6 [tM_ ms,lS B]=.ok (.bl (T6 ms B)):=by
 have fin:Ok (D6 [tM_ ms,lS B]) fun v=>v=.bl (T6 ms B):=by
  exists rpB,S3
  refine o6 (p9 (fun i ρ=>∃ (a2 a3:Sl),ρ = [.par (tM_ ms),.par (lS B),a2,a3]/\∀ q m,q<i->ms[q]?=some m->∀ s∈B,h7 (k4 (q5 s m.1) m) B=true) ⟨_,_,rfl,fun q m hq=>absurd hq (Nat.not_lt_zero _)⟩ ?_ ?_)
  ·rintro i u ρ hu ⟨a2,a3,rfl,hall⟩
   obtain ⟨m,hmm,hmi,rfl⟩:=aI hu
   have hok:=hm m hmm
   have a0:L2.atI [tI m.1,tI m.2] 0=some (tI m.1):=rfl
   have e:∀ N mg me ρ (h:∀ s∈B,∃ ρ1,mg (tI s) (ρ++List.replicate (N-ρ.length) Sl.un)=some ρ1/\me ρ1=.ok (tI (k4 (q5 s m.1) m))),k7 N mg yes me (B.map tI) ρ=.ok (lS (B.map fun s=>k4 (q5 s m.1) m)):=fun N mg me ρ h=>by
    rw [n6 (fun s=>tI (k4 (q5 s m.1) m)) _ _ ρ (by omega) h]; exact congrArg (fun l=>R.ok (W.lst l)) (by rw [List.map_map]; rfl)
   refine ⟨_,rfl,?_⟩
   exists rp18
   rw [e]
   ·generalize hC:(B.map fun s=>k4 (q5 s m.1) m)=C
    have hCl:C.length<=900:=by rw [<- hC,List.length_map]; exact hBl
    have hCn:∀ x∈C,x.length=n:=fun x hx=>by
     rw [<- hC] at hx
     obtain ⟨s,hs,rfl⟩:=List.mem_map.mp hx
     rw [R6,E3,hB s hs]
    have e2:∀ N mg me ρ (h:∀ s∈C,∃ ρ1,mg (tI s) (ρ++List.replicate (N-ρ.length) Sl.un)=some ρ1/\me ρ1=.ok (.bl (h7 s B))),k7 N mg yes me (C.map tI) ρ=.ok (.lst ((C.map fun s=>h7 s B).map W.bl)):=fun N mg me ρ h=>by
     rw [n6 (fun s=>W.bl (h7 s B)) _ _ ρ (by omega) h,List.map_map]; rfl
    have hg:br (C.map fun s=>h7 s B)=B.all fun s=>h7 (k4 (q5 s m.1) m) B:=by
     unfold br
     rw [<- hC,List.all_map,List.all_map]; rfl
    exists rp18
    rw [e2]
    ·exists hg
     refine C0 (fun h=>?_) (fun h=>?_)
     ·have h:(B.all fun s=>h7 (k4 (q5 s m.1) m) B)=false:=by simpa using h
      have hl:T6 ms B=false:=by
       rw [Bool.eq_false_iff]
       intro z
       have:=List.all_eq_true.mp z m hmm
       rw [h] at this; cases this
      exists rp18
      rw [hl]
     ·have h:(B.all fun s=>h7 (k4 (q5 s m.1) m) B)=true:=by simpa using h
      exists rp18
      refine ⟨_,_,rfl,fun q m' hq hm'=>?_⟩
      by_cases e:q=i
      ·subst e
       rw [hmi] at hm'; cases hm'
       exact List.all_eq_true.mp h
      ·exact hall q m' (by omega) hm'
    ·intro s hs
     have hk:=S5 (s:=s) (ss:=B) (fun x hx=>by rw [hB x hx,hCn s hs])
     refine ⟨_,rfl,?_⟩
     exists hk
   ·intro s hs
    have hsn:=hB s hs
    have k1:=uw (s:=s) (t:=m.1) (by omega) (by rw [hok.1,hsn])
    have k2:=eE (s:=q5 s m.1) h6 hok (by rw [E3,hsn]) (cov_iff.mpr fun k hk=>by
     rw [E3] at hk
     unfold q5
     rw [fm hk]; omega)
    have k3:(List.range n).map (fun k=>(q5 s m.1).getD k 0+(m.2.getD k 0-m.1.getD k 0))=k4 (q5 s m.1) m:=by unfold k4; rw [E3,hsn]
    rw [k3] at k2
    refine ⟨_,rfl,?_⟩
    exists a0,k1,k2
  ·rintro ρ ⟨a2,a3,rfl,hall⟩
   rw [List.length_map] at hall
   exists rp18
   rw [rZ fun m hmm s hs=>?_]
   obtain ⟨q,hq,e⟩:=List.mem_iff_getElem.mp hmm
   exact hall q m hq (by rw [List.getElem?_eq_getElem hq,e]) s hs
 obtain ⟨v,e,rfl⟩:=fin
 exact e
inductive Rest (b:List Int) (ms:List Mv) (B:List (List Int)) (es:List Ent) (wh:Bool):W->Prop where
 | dies {a:Nat} {l r:List Int}:a<=es.length->h7 (sA b es a) B=false->(∀ i,i<a->h7 (sA b es i) B=true)->Pt es a l r->Rest b ms B es wh (.tup [.str "dies",lI r,lS B])
 | else_ {w:W}:(∀ i,i<=es.length->h7 (sA b es i) B=true)->w=(if wh=true then .tup [.str "lives",lS (stS b es)] else if T6 ms B=true then .tup [.str "always",lS B] else .tup [.str "open"])->Rest b ms B es wh w
theorem Rest.one {b:List Int} {ms:List Mv} {B:List (List Int)} {es:List Ent} {wh:Bool} {w w':W} (h:Rest b ms B es wh w) (g:Rest b ms B es wh w'):w=w':=by
 cases h with
 | @dies a l r h1 h2 h3 p=>
  cases g with
  | @dies a' l' r' g1 g2 g3 p'=>
   have:a=a':=by
    rcases Nat.lt_trichotomy a a' with q | q | q
    ·have:=g3 a q; rw [h2] at this; cases this
    ·exact q
    ·have:=h3 a' q; rw [g2] at this; cases this
   subst this
   rw [(p.uniq p').2]
  | else_ g1 _=>have:=g1 a h1; rw [h2] at this; cases this
 | else_ h1 e=>
  cases g with
  | @dies a' l' r' g1 g2 g3 p'=>have:=h1 a' g1; rw [g2] at this; cases this
  | else_ g1 e'=>rw [e,e']
def Ans (b:List Int) (ms:List Mv) (t:List Int) (most:Nat) (w:W):Prop:=∃ j,EnoP ms t most j/\((opB ms t most j=true/\w=.tup [.str "open"])\/(opB ms t most j=false/\∃ es wh,FlEnd b ms most es wh/\Rest b ms (Bk ms t j) es wh w))
theorem FlEnd.one {b:List Int} {ms:List Mv} {most:Nat} {es fs:List Ent} {wh wh':Bool} (h8:ms.length<=8) (h1:1<=most) (h:FlEnd b ms most es wh) (g:FlEnd b ms most fs wh'):es=fs/\wh=wh':=by
 obtain ⟨e1,e2⟩:=zX h8 h g (Nat.le_refl _) h1
 have hl:=g.1
 rw [List.take_of_length_le (by omega)] at e1
 refine ⟨e1,?_⟩
 rw [e2,decide_eq_true hl,Bool.and_true]
theorem Ans.one {b:List Int} {ms:List Mv} {t:List Int} {most:Nat} {w w':W} (h8:ms.length<=8) (h1:1<=most) (h:Ans b ms t most w) (g:Ans b ms t most w'):w=w':=by
 obtain ⟨j,hj,h⟩:=h
 obtain ⟨k,hk,g⟩:=g
 have:=hj.one hk
 subst this
 rcases h with ⟨h,e⟩ | ⟨h,es,wh,hE,hR⟩
 ·rcases g with ⟨_,e'⟩ | ⟨g,_⟩
  ·rw [e,e']
  ·rw [h] at g; cases g
 ·rcases g with ⟨g,_⟩ | ⟨_,fs,wh',gE,gR⟩
  ·rw [h] at g; cases g
  ·obtain ⟨rfl,rfl⟩:=hE.one h8 h1 gE
   exact hR.one gR
theorem gc {ms:List Mv} {t:List Int} {most j:Nat} (h:opB ms t most j=false):(Bk ms t j).length<=most:=by
 unfold opB at h
 rw [Bool.or_eq_false_iff] at h
 have:=of_decide_eq_false h.1
 omega
theorem Pl.I {d:Nat} (xs:List Int) (h:xs.length<=1000):Pl (d+2) (lI xs):=.lst (by simpa using h) fun x hx=>by
 obtain ⟨i,_,rfl⟩:=List.mem_map.mp hx
 exact .int
theorem Pl.S {d:Nat} {n:Nat} {ss:List (List Int)} (hn:n<=6) (hs:∀ x∈ss,x.length=n) (h:ss.length<=1000):Pl (d+3) (lS ss):=.lst (by simpa using h) fun x hx=>by
 obtain ⟨s,hs',rfl⟩:=List.mem_map.mp hx
 refine .tup (by rw [List.length_map,hs s hs']; omega) fun y hy=>?_
 obtain ⟨i,_,rfl⟩:=List.mem_map.mp hy
 exact .int
theorem str_ok:PyData.strOk "open" = true/\PyData.strOk "dies" = true/\PyData.strOk "lives" = true/\PyData.strOk "always" = true:=by decide +kernel
def Shp (w:W):Prop:=Pl 6 w/\∃ u us,w=.tup (u::us)/\L1 us=true/\us.length<=90
theorem Ans.shp {b:List Int} {ms:List Mv} {t:List Int} {most:Nat} {w:W} {n:Nat} (hn:n<=6) (ht:t.length=n) (hb:b.length=n) (hmo:most<=30) (h:Ans b ms t most w):Shp w:=by
 have op:Shp (.tup [.str "open"]):=⟨.tup (by simp) fun x hx=>by rw [List.mem_singleton.mp hx]; exact .str str_ok.1,_,_,rfl,rfl,by simp⟩
 have two:∀ (s:Str) (x:W),PyData.strOk s=true->Pl 5 x->L1 [x]=true->Shp (.tup [.str s,x]):=fun s x hs px ho=>⟨.tup (by simp) fun y hy=>by
  rcases List.mem_cons.mp hy with rfl | hy
  ·exact .str hs
  ·rw [List.mem_singleton.mp hy]; exact px,_,_,rfl,ho,by simp⟩
 obtain ⟨j,hj,⟨_,rfl⟩ | ⟨ho,es,wh,hE,hR⟩⟩:=h
 ·exact op
 ·have hBl:=gc ho
  have hel:=hE.1
  obtain ⟨A,T,hK⟩:=hE.K
  have pB:Pl 5 (lS (Bk ms t j)):=Pl.S hn (R8 ht j).len (by omega)
  have zB:L1 [lS (Bk ms t j)]=true:=by simp [L1]; omega
  cases hR with
  | @dies a l r h1 h2 h3 p=>
   have hr:=(Pt.len hK.par p).2
   refine ⟨.tup (by simp) fun y hy=>?_,_,_,rfl,?_,by simp⟩
   ·rcases List.mem_cons.mp hy with rfl | hy
    ·exact .str str_ok.2.1
    ·rcases List.mem_cons.mp hy with rfl | hy
     ·exact Pl.I r (by omega)
     ·rw [List.mem_singleton.mp hy]; exact pB
   ·simp [L1]; omega
  | else_ h1 e=>
   subst e
   split
   ·refine two _ _ str_ok.2.2.1 (Pl.S hn (fun x hx=>?_) (by rw [E4]; omega)) (by simp [L1,E4]; omega)
    obtain ⟨k,hk,e⟩:=List.mem_iff_getElem.mp hx
    have:=hK.slen (a:=k) (by rw [E4] at hk; exact hk)
    unfold sA at this
    rw [List.getD_eq_getElem?_getD,List.getElem?_eq_getElem hk] at this
    rw [<- e,<- hb]; exact this
   ·split
    ·exact two _ _ str_ok.2.2.2 pB zB
    ·exact op
theorem im {b:List Int} {ms:List Mv} {k most:Nat} (h1:1<=b.length) (h6:b.length<=6) (hm:∀ m∈ms,okN b.length m) (h8:ms.length<=8) (hk:k<ms.length) (hm1:1<=most) (h30:most<=30):Ok (U8 [.tup [tI b,tM_ ms],.int (k:Int),.int (most:Int)]) (Ans b ms (mvN ms k).1 most):=by
 have a1:L2.atI [tI b,tM_ ms] 1=some (tM_ ms):=rfl
 have f0:∀ x y:W,L2.atI [x,y] 0=some x:=fun _ _=>rfl
 have f1:∀ x y:W,L2.atI [x,y] 1=some y:=fun _ _=>rfl
 have hok:=hm _ (aa hk)
 have e1:=gu (ms:=ms) hk
 have hmM:∀ m∈ms,okM b.length m:=fun m q=>⟨(hm m q).1,(hm m q).2.1⟩
 obtain ⟨_,ke,j,ej,hne,hpr⟩:=nK (t:=(mvN ms k).1) h1 h6 hmM h8 hok.1 h30
 have hP:EnoP ms (mvN ms k).1 most j:=⟨by rw [<- ej]; exact hne,hpr⟩
 rw [ej,vT hP.1] at ke
 generalize ht:(mvN ms k).1=t at *
 have mw:mW (mvN ms k)=.tup [tI t,tI (mvN ms k).2]:=by rw [<- ht]
 rw [mw] at e1
 cases ho:opB ms t most j with
 | true=>
  rw [ho,if_pos rfl] at ke
  have s1:o9 false (.str "open") (.str "open")=.ok (.bl true):=rfl
  exists rpB,de,a1,e1,f0,ke,s1
  exact ⟨_,rfl,j,hP,.inl ⟨ho,rfl⟩⟩
 | false=>
  rw [ho,if_neg Bool.false_ne_true] at ke
  have s1:o9 false (.str "basis") (.str "open")=.ok (.bl false):=rfl
  have hBl:=gc ho
  have hBn:=(R8 (ms:=ms) (t:=t) (n:=b.length) (by rw [<- ht]; exact hok.1) j).len
  generalize hB:Bk ms t j=B at *
  obtain ⟨_,kf,es,wh,rfl,hE⟩:=qQ (b:=b) (ms:=ms) (most:=most) h6 hm h8 hm1 (by omega)
  have hel:es.length+1<=most:=hE.1
  have ks:=tm (b:=b) (es:=es) (by omega)
  obtain ⟨A,T,hK⟩:=hE.K
  have hsl:=E4 b es
  have hsl2:(stS b es).length<=100:=by omega
  have out:∀ w,Rest b ms B es wh w->Ans b ms t most w:=fun w r=>⟨j,hP,.inr ⟨ho,es,wh,hE,by rw [hB]; exact r⟩⟩
  exists rpB,de,a1,e1,f0,f1,ke,s1,kf,ks
  refine o6 (p9 (fun i ρ=>∃ (x y:Sl),ρ = [.par (.tup [tI b,tM_ ms]),.par (.int (k:Int)),.par (.int (most:Int)),.val (.tup [.str "basis",lS B]),.val (lS B),.val (.tup [.lst (u9 b es),.bl wh]),x,y]/\∀ q,q<i->h7 (sA b es q) B=true) ⟨_,_,rfl,fun q hq=>absurd hq (Nat.not_lt_zero _)⟩ ?_ ?_)
  ·rintro i u ρ hu ⟨x,y,rfl,hall⟩
   obtain ⟨hi,rfl⟩:=vS hu
   have hsl3:((stS b es).getD i []).length=b.length:=hK.slen (by omega)
   have k1:=S5 (s:=(stS b es).getD i []) (ss:=B) (fun x hx=>by rw [hsl3]; exact hBn x hx)
   refine ⟨_,rfl,?_⟩
   exists k1
   refine C0 (fun h=>?_) (fun h=>?_)
   ·have h:h7 (sA b es i) B=false:=by unfold sA; simpa using h
    obtain ⟨l,r,p⟩:=Pt.ex hK.par i (by omega)
    have kr:=ph (b:=b) hK.par (by omega) (show i<=es.length by omega) p
    exists f0,kr
    exact out _ (.dies (by omega) h hall p)
   ·have h:h7 (sA b es i) B=true:=by unfold sA; simpa using h
    exists rp18
    refine ⟨_,_,rfl,fun q hq=>?_⟩
    by_cases e:q=i
    ·subst e; exact h
    ·exact hall q (by omega)
  ·rintro ρ ⟨x,y,rfl,hall⟩
   have hall2:∀ i,i<=es.length->h7 (sA b es i) B=true:=fun i hi=>hall i (by rw [List.length_mapIdx,List.length_map]; omega)
   cases wh with
   | true=>
    exists f0,f1,ks
    exact out _ (.else_ hall2 rfl)
   | false=>
    have kn:=vo (B:=B) h6 hm hBn (by omega)
    cases hl:T6 ms B with
    | true=>
     rw [hl] at kn
     exists f0,f1,a1,kn
     exact out _ (.else_ hall2 (by rw [hl]; rfl))
    | false=>
     rw [hl] at kn
     exists f0,f1,a1,kn
     exact out _ (.else_ hall2 (by rw [hl]; rfl))
theorem nL {b:List Int} {ms:List Mv} {k most:Nat} (h1:1<=b.length) (h6:b.length<=6) (hm:∀ m∈ms,okN b.length m) (h8:ms.length<=8) (hk:k<ms.length) (hm1:1<=most) (h30:most<=30):Ok (P2 [tI b,lM ms,.int (k:Int),.int (most:Int)]) (Ans b ms (mvN ms k).1 most):=by
 have f0:∀ x y:W,L2.atI [x,y] 0=some x:=fun _ _=>rfl
 have hok:=hm _ (aa hk)
 have e1:=gu (ms:=ms) hk
 have hmM:∀ m∈ms,okM b.length m:=fun m q=>⟨(hm m q).1,(hm m q).2.1⟩
 obtain ⟨_,ke,j,hP,rfl⟩:=kD (t:=(mvN ms k).1) h1 h6 hmM h8 hok.1 h30
 generalize ht:(mvN ms k).1=t at *
 have mw:mW (mvN ms k)=.tup [tI t,tI (mvN ms k).2]:=by rw [<- ht]
 rw [mw] at e1
 cases ho:opB ms t most j with
 | true=>
  rw [ho,if_pos rfl] at ke
  have n1:aj false .non .non=.ok (.bl true):=rfl
  exists rpB,X1,e1,f0,ke,n1
  exact ⟨_,rfl,j,hP,.inl ⟨ho,rfl⟩⟩
 | false=>
  rw [ho,if_neg Bool.false_ne_true] at ke
  have hBl:=gc ho
  have hBn:=(R8 (ms:=ms) (t:=t) (n:=b.length) (by rw [<- ht]; exact hok.1) j).len
  generalize hB:Bk ms t j=B at *
  have n1:aj false (lS B) .non=.ok (.bl false):=rfl
  obtain ⟨_,kf,es,WS,wh,rfl,hE,hW⟩:=ni (b:=b) (ms:=ms) (most:=most) h6 hm h8 hm1 (by omega)
  have hel:es.length+1<=most:=hE.1
  obtain ⟨A,T,hK⟩:=hE.K
  have hsl:=E4 b es
  have hsl2:(stS b es).length<=100:=by omega
  have hwl:=hW.1
  have out:∀ w,Rest b ms B es wh w->Ans b ms t most w:=fun w r=>⟨j,hP,.inr ⟨ho,es,wh,hE,by rw [hB]; exact r⟩⟩
  exists rpB,X1,e1,f0,ke,n1,kf
  refine o6 (p9 (fun i ρ=>∃ (x:Sl),ρ = [.par (tI b),.par (lM ms),.par (.int (k:Int)),.par (.int (most:Int)),.val (lS B),.val (lS (stS b es)),.val (.lst (WS.map lI)),.val (.bl wh),x]/\∀ q,q<i->h7 (sA b es q) B=true) ⟨_,rfl,fun q hq=>absurd hq (Nat.not_lt_zero _)⟩ ?_ ?_)
  ·rintro i u ρ hu ⟨x,rfl,hall⟩
   obtain ⟨hi,rfl⟩:=U2 hu
   have hsl3:(sA b es i).length=b.length:=hK.slen (by omega)
   have e2:L2.atI ((stS b es).map tI) (i:Int)=some (tI (sA b es i)):=atS hi
   have e3:=wz (WS:=WS) (k:=i) (by omega)
   have k1:=bo (s:=sA b es i) (ss:=B) (by omega) (fun x hx=>by rw [hsl3]; exact hBn x hx)
   refine ⟨_,rfl,?_⟩
   exists e2,k1
   refine C0 (fun h=>?_) (fun h=>?_)
   ·have h:h7 (sA b es i) B=false:=by simpa using h
    obtain ⟨l,p⟩:=hW.2 i (by omega)
    exists e3
    exact out _ (.dies (by omega) h hall p)
   ·have h:h7 (sA b es i) B=true:=by simpa using h
    exists rp18
    refine ⟨_,rfl,fun q hq=>?_⟩
    by_cases e:q=i
    ·subst e; exact h
    ·exact hall q (by omega)
  ·rintro ρ ⟨x,rfl,hall⟩
   have hall2:∀ i,i<=es.length->h7 (sA b es i) B=true:=fun i hi=>hall i (by rw [List.length_map,List.length_range]; omega)
   cases wh with
   | true=>
    exists rp18
    exact out _ (.else_ hall2 rfl)
   | false=>
    have kn:=vi (B:=B) h6 hm hBn
    cases hl:T6 ms B with
    | true=>
     rw [hl] at kn
     exists kn
     exact out _ (.else_ hall2 (by rw [hl]; rfl))
    | false=>
     rw [hl] at kn
     exists kn
     exact out _ (.else_ hall2 (by rw [hl]; rfl))
theorem BC {k:Int} (h0:0<=k) (h1:k<=1000):0<=k*k/\k*k<=1000000:=⟨Int.mul_nonneg h0 h0,Int.le_trans (Int.mul_le_mul h1 h1 h0 (by omega)) (by omega)⟩
theorem L8 {ns:List Int} (hb:∀ x∈ns,Builtin.Int.intBits x<=1048576) {k:Int} (h0:0<=k) (h1:k<=1000):Ok (j7 [.scr (ns.map W.int),.int k]) fun w=>∃ z:Int,w=.int z:=by
 have hk2:=BC h0 h1
 by_cases h:k<(ns.length:Int)
 ·exists rpB,M2,decide_eq_true h
  exact ⟨_,rfl,_,rfl⟩
 ·by_cases hl:0<(ns.length:Int)
  ·have m0:0<=k*13%(ns.length:Int):=Int.emod_nonneg _ (by omega)
   have m1:k*13%(ns.length:Int)<(ns.length:Int):=Int.emod_lt_of_pos _ hl
   have hz:=memD (P:=fun x=>Builtin.Int.intBits x<=1048576) hb (i:=(k*13%(ns.length:Int)).toNat) (by omega)
   exists rpB,M2,decide_eq_false h,decide_eq_true hl
   generalize ns.getD (k*13%(ns.length:Int)).toNat 0=z at *
   have b1:=intBits_mul_le hz (small (z:=39373) (by omega))
   have b2:Builtin.Int.intBits (k*k*3001)<=64:=small (by omega)
   have b3:=intBits_add_le b1 b2
   have b4:=intBits_add_le b3 (small (z:=19) (by omega))
   have b5:Builtin.Int.intBits (z*39373+k*k*3001+19)+Builtin.Int.intBits (z*39373+k*k*3001+19)<=134217728:=by omega
   exists rp18
   exact ⟨_,rfl,_,rfl⟩
  ·exists rpB,M2,decide_eq_false h,decide_eq_false hl
   exact ⟨_,rfl,_,rfl⟩
theorem jc {xs:List Int} {z:Int} (h:nn xs) (hz:0<=z):nn (xs ++ [z]):=fun x hx=>by
 rcases List.mem_append.mp hx with q | q
 ·exact h x q
 ·rw [List.mem_singleton.mp q]; exact hz
theorem BV {f c:Int} (hf:0<=f):∃ z:Int,L2.atI [W.int 0,.int 1,.int 0,.int 1,.int 0,.int 1,.int 2,.int (1+f/2)] (c%8)=some (.int z)/\0<=z:=by
 have:c%8=0\/c%8=1\/c%8=2\/c%8=3\/c%8=4\/c%8=5\/c%8=6\/c%8=7:=by omega
 rcases this with e | e | e | e | e | e | e | e <;> rw [e]
 all_goals exact ⟨_,rfl,by omega⟩
theorem BW {c:Int}:∃ z:Int,L2.atI [W.int 0,.int 1,.int 0,.int 0,.int 1,.int 2] (c/8%6)=some (.int z)/\0<=z/\z<=2:=by
 have:c/8%6=0\/c/8%6=1\/c/8%6=2\/c/8%6=3\/c/8%6=4\/c/8%6=5:=by omega
 rcases this with e | e | e | e | e | e <;> rw [e]
 all_goals exact ⟨_,rfl,by omega,by omega⟩
theorem uO {ns:List Int} (hb:∀ x∈ns,Builtin.Int.intBits x<=1048576) {a f:Int} {n:Nat} (h6:n<=6) (a0:0<=a) (a1:a<=200) (hf:0<=f/\f<=300000001):Ok (T9 [.scr (ns.map W.int),.int a,.int (n:Int),.int f]) fun w=>∃ m:Mv,w=mW m/\okN n m:=by
 exists rpB,aR
 refine o6 (p9 (fun i ρ=>∃ (xs ys:List Int) (a6 a7:Sl),ρ = [.par (.scr (ns.map W.int)),.par (.int a),.par (.int (n:Int)),.par (.int f),.own (xs.map W.int),.own (ys.map W.int),a6,a7]/\xs.length=i/\ys.length=i/\nn xs/\nn ys) ⟨[],[],_,_,rfl,rfl,rfl,fun x h=>(nomatch h),fun x h=>(nomatch h)⟩ ?_ ?_)
 ·rintro i u ρ hu ⟨xs,ys,a6,a7,rfl,hxl,hyl,hx,hy⟩
  obtain ⟨hi,rfl⟩:=U2 hu
  obtain ⟨_,e1,c,rfl⟩:=L8 hb (k:=a+(i:Int)) (by omega) (by omega)
  obtain ⟨z,ez,z0⟩:=BV (f:=f) (c:=c) hf.1
  obtain ⟨y,ey,y0,y2⟩:=BW (c:=c)
  have p7:0<=y*f:=Int.mul_nonneg y0 hf.1
  refine ⟨_,rfl,?_⟩
  exists e1,ez,ey
  exact ⟨xs ++ [z],ys ++ [y*f],_,_,rfl,by simp [hxl],by simp [hyl],jc hx z0,jc hy p7⟩
 ·rintro ρ ⟨xs,ys,a6,a7,rfl,hxl,hyl,hx,hy⟩
  rw [List.length_map,List.length_range] at hxl hyl
  exists rp18
  exact ⟨(xs,ys),rfl,hxl,hyl,hx,hy⟩
theorem law_pure (ns:List Int) (h:ns.length<=63) (hb:∀ x∈ns,Builtin.Int.intBits x<=1048576):fg [.scr (ns.map W.int)]=.ok (.bl true):=by
 have fin:Ok (fg [.scr (ns.map W.int)]) fun v=>v=.bl true:=by
  obtain ⟨_,e0,c0,rfl⟩:=L8 hb (k:=0) (by omega) (by omega)
  obtain ⟨_,e1,c1,rfl⟩:=L8 hb (k:=1) (by omega) (by omega)
  obtain ⟨_,e2,c2,rfl⟩:=L8 hb (k:=2) (by omega) (by omega)
  obtain ⟨_,e3,c3,rfl⟩:=L8 hb (k:=3) (by omega) (by omega)
  obtain ⟨_,e4,c4,rfl⟩:=L8 hb (k:=4) (by omega) (by omega)
  exists rpB,rW,e0,e1
  obtain ⟨n,hn,hn1,hn4⟩:∃ n:Nat,1+c0%4=(n:Int)/\1<=n/\n<=4:=⟨(1+c0%4).toNat,by omega,by omega,by omega⟩
  rw [hn]
  refine o6 (fW (fun ρ=>∃ (m:Nat),ρ = [.par (.scr (ns.map W.int)),.val (.int (n:Int)),.val (.int (m:Int)),.un,.un,.un,.un,.un,.un,.un,.un,.un,.un,.un]/\1<=m/\m<=30) ?_ ?_)
  ·refine C0 (fun h=>?_) (fun h=>?_)
   ·have hc:n=1\/n=2:=by
     simp only [Bool.or_eq_true,Bool.and_eq_true,decide_eq_true_eq] at h
     omega
    rcases hc with rfl | rfl
    ·have l1:L2.atI [W.int 30,W.int 16] (((1:Nat):Int)-1)=some (.int 30):=rfl
     exists e1,l1
     exact ⟨(1+c1/24%30).toNat,by rw [Int.toNat_of_nonneg (by omega)]; rfl,by omega,by omega⟩
    ·have l1:L2.atI [W.int 30,W.int 16] (((2:Nat):Int)-1)=some (.int 16):=rfl
     exists e1,l1
     exact ⟨(1+c1/24%16).toNat,by rw [Int.toNat_of_nonneg (by omega)]; rfl,by omega,by omega⟩
   ·exists rp18
    exact ⟨(1+c1%8).toNat,by rw [Int.toNat_of_nonneg (by omega)],by omega,by omega⟩
  rintro ρ ⟨m,rfl,hm1,hm30⟩
  exists e2
  refine fW (fun ρ=>∃ (f:Int),ρ = [.par (.scr (ns.map W.int)),.val (.int (n:Int)),.val (.int (m:Int)),.val (.int f),.un,.un,.un,.un,.un,.un,.un,.un,.un,.un]/\0<=f/\f<=300000001) ?_ ?_
  ·refine C0 (fun h=>?_) (fun h=>?_)
   ·exists e2
    exact ⟨1+c2/4%300000000,rfl,by omega,by omega⟩
   ·exists rp18
    exact ⟨1,rfl,by omega,by omega⟩
  rintro ρ ⟨f,rfl,hf0,hf1⟩
  exists e3,e1
  refine fW (fun ρ=>∃ (m sz:Nat),ρ = [.par (.scr (ns.map W.int)),.val (.int (n:Int)),.val (.int (m:Int)),.val (.int f),.val (.int (sz:Int)),.un,.un,.un,.un,.un,.un,.un,.un,.un]/\(1<=m/\m<=30)/\1<=sz/\sz<=5) ?_ ?_
  ·refine C0 (fun h=>?_) (fun h=>?_)
   ·exists e1
    exact ⟨(9+c1/32%12).toNat,(1+(1+c3%5)%3).toNat,by rw [Int.toNat_of_nonneg (by omega),Int.toNat_of_nonneg (by omega)],by omega,by omega,by omega⟩
   ·exists rp18
    exact ⟨m,(1+c3%5).toNat,by rw [Int.toNat_of_nonneg (by omega)],⟨hm1,hm30⟩,by omega,by omega⟩
  clear hm1 hm30
  rintro ρ ⟨m,sz,rfl,⟨hm1,hm30⟩,hs1,hs5⟩
  exists rp18
  refine p9 (fun i ρ=>∃ (ms:List Mv) (a6:Sl),ρ = [.par (.scr (ns.map W.int)),.val (.int (n:Int)),.val (.int (m:Int)),.val (.int f),.val (.int (sz:Int)),.own (ms.map mW),a6,.un,.un,.un,.un,.un,.un,.un]/\(∀ m∈ms,okN n m)/\ms.length=i) ⟨[],_,rfl,fun m hm=>(nomatch hm),rfl⟩ ?_ ?_
  ·rintro i u ρ hu ⟨ms,a6,rfl,hms,hml⟩
   obtain ⟨hi,rfl⟩:=U2 hu
   have q1:0<=(n:Int)*(i:Int):=Int.mul_nonneg (by omega) (by omega)
   have q2:(n:Int)*(i:Int)<=4*5:=Int.mul_le_mul (by omega) (by omega) (by omega) (by omega)
   obtain ⟨_,em,mv,rfl,hmv⟩:=uO hb (a:=10+(n:Int)*(i:Int)) (f:=f) (n:=n) (by omega) (by omega) (by omega) ⟨hf0,hf1⟩
   refine ⟨_,rfl,?_⟩
   exists em
   refine ⟨ms ++ [mv],.par (.int (i:Int)),by rw [List.map_append]; rfl,fun m hm=>?_,by rw [List.length_append,hml]; rfl⟩
   rcases List.mem_append.mp hm with hm | hm
   ·exact hms m hm
   ·rw [List.mem_singleton.mp hm]; exact hmv
  rintro ρ ⟨ms,a6,rfl,hms,hml⟩
  rw [List.length_map,List.length_range] at hml
  have d0:(0:Int)<(ms.length:Int):=by omega
  obtain ⟨k,hk,hkl⟩:∃ k:Nat,c4%(ms.length:Int)=(k:Int)/\k<ms.length:=by
   have:=Int.emod_nonneg c4 (b:=(ms.length:Int)) (by omega)
   have:=Int.emod_lt_of_pos c4 d0
   exact ⟨(c4%(ms.length:Int)).toNat,by omega,by omega⟩
  exists e4
  rw [hk]
  refine ul ?_
  refine mP (fun _ z=>0<=z) (by omega) ?_ ?_
  ·intro j hj
   obtain ⟨_,ec,c,rfl⟩:=L8 hb (k:=5+(j:Int)) (by omega) (by omega)
   refine ⟨_,rfl,?_⟩
   exists ec
   exact ⟨_,rfl,_,rfl,Int.mul_nonneg (by omega) hf0⟩
  intro bs hbl _
  have h8:ms.length<=8:=by omega
  have hms':∀ m∈ms,okN bs.length m:=fun m q=>by rw [hbl]; exact hms m q
  obtain ⟨w,ka,hA⟩:=im (b:=bs) (k:=k) (by omega) (by omega) hms' h8 hkl hm1 hm30
  obtain ⟨w',kd,hD⟩:=nL (b:=bs) (k:=k) (by omega) (by omega) hms' h8 hkl hm1 hm30
  have:=hA.one h8 hm1 hD
  subst this
  have hl1:=(hms' _ (aa hkl)).1
  obtain ⟨pw,u,us,hw,hz,hz2⟩:=hA.shp (n:=bs.length) (by omega) hl1 rfl hm30
  have al:B4 [w,w]=.ok (.bl true):=il 6 w pw
  obtain ⟨k',hk',hkl'⟩:∃ k':Nat,((k:Int)+1)%(ms.length:Int)=(k':Int)/\k'<ms.length:=by
   have:=Int.emod_nonneg ((k:Int)+1) (b:=(ms.length:Int)) (by omega)
   have:=Int.emod_lt_of_pos ((k:Int)+1) d0
   exact ⟨(((k:Int)+1)%(ms.length:Int)).toNat,by omega,by omega⟩
  obtain ⟨x,kx,hX⟩:=im (b:=bs) (k:=k') (by omega) (by omega) hms' h8 hkl' hm1 hm30
  obtain ⟨x',ky,hY⟩:=nL (b:=bs) (k:=k') (by omega) (by omega) hms' h8 hkl' hm1 hm30
  have:=hX.one h8 hm1 hY
  subst this
  have hl2:=(hms' _ (aa hkl')).1
  obtain ⟨px,_⟩:=hX.shp (n:=bs.length) (by omega) hl2 rfl hm30
  have al2:B4 [x,x]=.ok (.bl true):=il 6 x px
  subst hw
  have rz:rdS .B (some (.hz (.tup (u::us))))=.ok (.tup (u::us)):=rfl
  exists kd,sCN,ka,rz,al
  rw [hk']
  exists kx,ky,al2,rz,al
  have fr:fRepT (.tup [.int 0]) (.int (n:Int))=.ok (.tup (List.replicate n [W.int 0]).flatten):=by
   show (if _ then _ else _)=_
   rw [if_pos ⟨by simp,by simp; omega,by omega,by omega⟩,Int.toNat_natCast]
  have er:(b2 fRepT (t6 (aC (mC (.int 0)) aN)) (a9 .C 1)) (u7 11 13 [.par (.scr (ns.map W.int)),.val (.int (n:Int)),.val (.int (m:Int)),.val (.int f),.val (.int (sz:Int)),.own (ms.map mW),a6,.val (.int (k:Int)),.val (tI bs),.val (.tup [tI bs,tM_ ms]),.val (.tup (u::us)),.hz (.tup (u::us)),.val (.int (k':Int)),.un])=.ok (.tup (List.replicate n [W.int 0]).flatten):=by
   exists u7,clI,fr
  rw [uY (u:=u) (us:=us) rfl ⟨hz,hz2,by simp⟩ er]
  exists u7,clI,ka,al
 obtain ⟨v,e,rfl⟩:=fin
 exact e
end K85
set_option maxHeartbeats 4000000
open PySem L2 TP
namespace K85
def w9 {K:Frag} {d:Mode}:=(eX (K:=K) (d:=d) (g:=v5) (fun _ _=>rfl) (fun _ _ _=>.int))
def cQ {K:Frag} {d:Mode}:=(eX (K:=K) (d:=d) (g:=gSub) (fun _ _=>rfl) (fun _ _ _=>.int))
def xLt {K:Frag} {d:Mode}:=(eX (K:=K) (d:=d) (g:=gLt) (fun _ _=>rfl) (fun _ _ _=>.bl))
def xGt {K:Frag} {d:Mode}:=(eX (K:=K) (d:=d) (g:=gGt) (fun _ _=>rfl) (fun _ _ _=>.bl))
local macro_rules | `(tactic| trivial)=>`(tactic| first | exact Or.inl rfl | exact Or.inr rfl | exact Or.inr (Or.inl rfl) | exact Or.inr (Or.inr rfl) | assumption | exact ⟨rfl,rfl,rfl,by decide +kernel,rfl,by decide +kernel,by decide +kernel⟩ | exact Room.mono (by assumption) (by decide) | exact ⟨rfl,by decide +kernel,by decide +kernel,by decide +kernel,by decide +kernel,by decide,by decide +kernel,by decide +kernel⟩)
def top (i:Nat):Stmt:=PySem.Challenge.pw_tokenmoor_k85_lost_moves_told.main.body.getD i (.Pass ⟨0,0,0,0⟩)
abbrev hxS (s:String) (t:Nat):Value:=.str (Str.ofString s) t
abbrev hxI (i:Int):Value:=.int i 0
abbrev hxO (c:String) (d:Data):Obj:=⟨.type c,none,d,#[]⟩
abbrev hxE (P:Params) (s:String) (t:Nat) (v:Value):DictEntry:=⟨PyData.keyHash P (Str.ofString s),.str (Str.ofString s) t,v⟩
abbrev hxF (n q:String) (st:Stmt) (dV kV doc pm:Value) (an:Option Addr) (cd ct:Value):Data:=.func (PySem.W.fnOf (Str.ofString n) (Str.ofString q) (L7 st) (B5 st) (b7 st) dV kV doc pm an cd ct)
abbrev hxG (n:String) (i:Nat) (pm:Value) (c:Nat):Obj:=hxO "function" (hxF n n (top i) .none .none .none pm none (.ref c) .none)
abbrev hxD (n:String) (t:Nat) (l a:Int) (r8:Nat) (r11:Nat) (v13 v14:Value) (r15:Nat) (x16:Int) (t18:Nat):Data:=.fields #[.str (Str.ofString n) t,.str (Str.ofString n) (t+1),.str (Str.ofString "/claim/cut.py") (t+2),hxI l,hxI a,hxI 0,hxI 0,hxI 3,.ref r8,.bool true,hxI 181,.ref r11,.none,v13,v14,.ref r15,hxI x16,hxI l,.str (Str.ofString "/claim/cut.py") t18]
abbrev j9:Value:=hxS "law_tokenmoor_k85_lost_moves_told" 427
abbrev dq:Value:=hxS "tokenmoor.backs" 316
abbrev A0:Value:=hxS "tokenmoor.bases" 264
abbrev dn:Value:=hxS "tokenmoor.climbs" 353
abbrev qC:Value:=hxS "tokenmoor.crowns" 341
abbrev dm:Value:=hxS "tokenmoor.ends" 405
abbrev N6:Value:=hxS "tokenmoor.floods" 369
abbrev N5:Value:=hxS "tokenmoor.moors" 232
@[irreducible] def nD:Params->Frag:=fun P=>
 (nat_lit 2,⟨.none,none,(.dict #[] 0),#[]⟩) ::
 (nat_lit 3,hxO "dict" (.dict #[hxE P "__name__" 165 (hxS "law_tokenmoor_k85_lost_moves_told" 427),hxE P "__doc__" 166 .none,hxE P "__package__" 167 .none,hxE P "__loader__" 168 (.builtin "__main__.__loader__#opaque"),hxE P "__spec__" 169 .none,hxE P "__annotations__" 170 (.ref 6),hxE P "__builtins__" 171 (.ref 4),hxE P "__file__" 173 (hxS "/claim/cut.py" 172),hxE P "__cached__" 174 .none,hxE P "MoorError" 206 (.ref 24),hxE P "Stuck" 231 (.ref 44),hxE P "covers" 243 (.ref 53),hxE P "able" 251 (.ref 60),hxE P "after" 257 (.ref 65),hxE P "change" 263 (.ref 70),hxE P "least" 274 (.ref 77),hxE P "lifted" 283 (.ref 84),hxE P "source" 289 (.ref 89),hxE P "sources" 295 (.ref 94),hxE P "step_back" 303 (.ref 101),hxE P "is_shut" 309 (.ref 106),hxE P "least_over" 315 (.ref 111),hxE P "enough" 328 (.ref 118),hxE P "ending" 340 (.ref 125),hxE P "way_back" 352 (.ref 132),hxE P "way" 362 (.ref 139),hxE P "row_between" 368 (.ref 144),hxE P "flood" 384 (.ref 151),hxE P "stands_behind" 390 (.ref 156),hxE P "stands_in" 396 (.ref 161),hxE P "row_to" 404 (.ref 168),hxE P "again" 420 (.ref 175),hxE P "is_never_left" 426 (.ref 180),hxE P "_law_cell" 437 (.ref 187),hxE P "_law_move" 451 (.ref 194),hxE P "_law_covers" 460 (.ref 201),hxE P "_law_lifted" 469 (.ref 208),hxE P "_law_behind" 475 (.ref 213),hxE P "_law_source" 481 (.ref 218),hxE P "_law_back" 487 (.ref 223),hxE P "_law_enough" 499 (.ref 230),hxE P "_law_flood" 513 (.ref 237),hxE P "_law_led" 519 (.ref 242),hxE P "_law_due" 534 (.ref 249),hxE P "_law_alike" 540 (.ref 254),hxE P "law" 546 (.ref 259)] 46)) ::
 (nat_lit 15,hxO "tuple" (.seq #[(.type "ValueError")] 0)) ::
 (nat_lit 22,hxO "tuple" (.seq #[] 0)) ::
 (nat_lit 23,hxO "dict" (.dict #[hxE P "__module__" 196 (hxS "tokenmoor.errors" 187),hxE P "__firstlineno__" 200 (.int 2 199),hxE P "__static_attributes__" 201 (.ref 22),hxE P "__weakref__" 203 (.ref 25),hxE P "__doc__" 204 .none] 3)) ::
 (nat_lit 25,hxO "getset_descriptor" (.fields #[(hxS "__weakref__" 202),(.ref 24),(.builtin "ExceptionGroup.__weakref__"),.none])) ::
 (nat_lit 28,hxO "tuple" (.seq #[(.ref 24)] 0)) ::
 (nat_lit 40,hxO "code" (.fields #[(hxS "__init__" 219),(hxS "Stuck.__init__" 220),(hxS "/claim/cut.py" 221),(hxI 6),(hxI 2),(hxI 0),(hxI 0),(hxI 3),(.ref 35),(.bool true),(hxI 181),(.ref 36),.none,(.ref 37),(.ref 38),(.ref 39),(hxI 224),(hxI 6),(hxS "/claim/cut.py" 225)])) ::
 (nat_lit 42,hxO "tuple" (.seq #[(hxS "at" 227)] 0)) ::
 (nat_lit 43,hxO "dict" (.dict #[hxE P "__module__" 214 (hxS "tokenmoor.errors" 187),hxE P "__firstlineno__" 218 (.int 4 217),hxE P "__init__" 226 (.ref 41),hxE P "__static_attributes__" 228 (.ref 42),hxE P "__doc__" 229 .none] 2)) ::
 (nat_lit 52,hxO "code" (hxD "covers" 234 9 2 47 48 (.ref 49) (.ref 50) 51 241 242)) ::
 (nat_lit 53,hxG "covers" 4 N5 52) ::
 (nat_lit 59,hxO "code" (hxD "able" 244 14 2 54 55 (.ref 56) (.ref 57) 58 249 250)) ::
 (nat_lit 60,hxG "able" 5 N5 59) ::
 (nat_lit 64,hxO "code" (hxD "after" 252 16 2 61 62 .none .none 63 255 256)) ::
 (nat_lit 65,hxG "after" 6 N5 64) ::
 (nat_lit 69,hxO "code" (hxD "change" 258 20 1 66 67 .none .none 68 261 262)) ::
 (nat_lit 70,hxG "change" 7 N5 69) ::
 (nat_lit 76,hxO "code" (hxD "least" 266 23 1 71 72 (.ref 73) (.ref 74) 75 272 273)) ::
 (nat_lit 77,hxG "least" 9 A0 76) ::
 (nat_lit 83,hxO "code" (hxD "lifted" 275 29 2 78 79 (.ref 80) (.ref 81) 82 281 282)) ::
 (nat_lit 84,hxG "lifted" 10 A0 83) ::
 (nat_lit 88,hxO "code" (hxD "source" 284 34 2 85 86 .none .none 87 287 288)) ::
 (nat_lit 89,hxG "source" 11 A0 88) ::
 (nat_lit 93,hxO "code" (hxD "sources" 290 36 2 90 91 .none .none 92 293 294)) ::
 (nat_lit 94,hxG "sources" 12 A0 93) ::
 (nat_lit 100,hxO "code" (hxD "step_back" 296 41 2 95 96 (.ref 97) (.ref 98) 99 301 302)) ::
 (nat_lit 101,hxG "step_back" 13 A0 100) ::
 (nat_lit 105,hxO "code" (hxD "is_shut" 304 43 2 102 103 .none .none 104 307 308)) ::
 (nat_lit 106,hxG "is_shut" 14 A0 105) ::
 (nat_lit 110,hxO "code" (hxD "least_over" 310 45 2 107 108 .none .none 109 313 314)) ::
 (nat_lit 111,hxG "least_over" 15 A0 110) ::
 (nat_lit 117,hxO "code" (hxD "enough" 318 48 3 112 113 (.ref 114) (.ref 115) 116 326 327)) ::
 (nat_lit 118,hxG "enough" 17 dq 117) ::
 (nat_lit 124,hxO "code" (hxD "ending" 329 55 4 119 120 (.ref 121) (.ref 122) 123 338 339)) ::
 (nat_lit 125,hxG "ending" 18 dq 124) ::
 (nat_lit 131,hxO "code" (hxD "way_back" 343 66 2 126 127 (.ref 128) (.ref 129) 130 350 351)) ::
 (nat_lit 132,hxG "way_back" 20 qC 131) ::
 (nat_lit 138,hxO "code" (hxD "way" 355 74 2 133 134 (.ref 135) (.ref 136) 137 360 361)) ::
 (nat_lit 139,hxG "way" 22 dn 138) ::
 (nat_lit 143,hxO "code" (hxD "row_between" 363 76 3 140 141 .none .none 142 366 367)) ::
 (nat_lit 144,hxG "row_between" 23 dn 143) ::
 (nat_lit 150,hxO "code" (hxD "flood" 371 80 2 145 146 (.ref 147) (.ref 148) 149 382 383)) ::
 (nat_lit 151,hxG "flood" 25 N6 150) ::
 (nat_lit 155,hxO "code" (hxD "stands_behind" 385 95 2 152 153 .none .none 154 388 389)) ::
 (nat_lit 156,hxG "stands_behind" 26 N6 155) ::
 (nat_lit 160,hxO "code" (hxD "stands_in" 391 97 1 157 158 .none .none 159 394 395)) ::
 (nat_lit 161,hxG "stands_in" 27 N6 160) ::
 (nat_lit 167,hxO "code" (hxD "row_to" 397 99 2 162 163 (.ref 164) (.ref 165) 166 402 403)) ::
 (nat_lit 168,hxG "row_to" 28 N6 167) ::
 (nat_lit 174,hxO "code" (hxD "again" 407 102 3 169 170 (.ref 171) (.ref 172) 173 418 419)) ::
 (nat_lit 175,hxG "again" 30 dm 174) ::
 (nat_lit 179,hxO "code" (hxD "is_never_left" 421 114 2 176 177 .none .none 178 424 425)) ::
 (nat_lit 180,hxG "is_never_left" 31 dm 179) ::
 (nat_lit 186,hxO "code" (hxD "_law_cell" 429 121 2 181 182 (.ref 183) (.ref 184) 185 435 436)) ::
 (nat_lit 187,hxG "_law_cell" 33 j9 186) ::
 (nat_lit 193,hxO "code" (hxD "_law_move" 438 128 4 188 189 (.ref 190) (.ref 191) 192 449 450)) ::
 (nat_lit 194,hxG "_law_move" 34 j9 193) ::
 (nat_lit 200,hxO "code" (hxD "_law_covers" 452 136 2 195 196 (.ref 197) (.ref 198) 199 458 459)) ::
 (nat_lit 201,hxG "_law_covers" 35 j9 200) ::
 (nat_lit 207,hxO "code" (hxD "_law_lifted" 461 141 2 202 203 (.ref 204) (.ref 205) 206 467 468)) ::
 (nat_lit 208,hxG "_law_lifted" 36 j9 207) ::
 (nat_lit 212,hxO "code" (hxD "_law_behind" 470 146 2 209 210 .none .none 211 473 474)) ::
 (nat_lit 213,hxG "_law_behind" 37 j9 212) ::
 (nat_lit 217,hxO "code" (hxD "_law_source" 476 148 2 214 215 .none .none 216 479 480)) ::
 (nat_lit 218,hxG "_law_source" 38 j9 217) ::
 (nat_lit 222,hxO "code" (hxD "_law_back" 482 150 2 219 220 .none .none 221 485 486)) ::
 (nat_lit 223,hxG "_law_back" 39 j9 222) ::
 (nat_lit 229,hxO "code" (hxD "_law_enough" 488 158 3 224 225 (.ref 226) (.ref 227) 228 497 498)) ::
 (nat_lit 230,hxG "_law_enough" 40 j9 229) ::
 (nat_lit 236,hxO "code" (hxD "_law_flood" 500 168 3 231 232 (.ref 233) (.ref 234) 235 511 512)) ::
 (nat_lit 237,hxG "_law_flood" 41 j9 236) ::
 (nat_lit 241,hxO "code" (hxD "_law_led" 514 183 2 238 239 .none .none 240 517 518)) ::
 (nat_lit 242,hxG "_law_led" 42 j9 241) ::
 (nat_lit 248,hxO "code" (hxD "_law_due" 520 190 4 243 244 (.ref 245) (.ref 246) 247 532 533)) ::
 (nat_lit 249,hxG "_law_due" 43 j9 248) ::
 (nat_lit 253,hxO "code" (hxD "_law_alike" 535 203 2 250 251 .none .none 252 538 539)) ::
 (nat_lit 254,hxG "_law_alike" 44 j9 253) ::
 (nat_lit 258,hxO "code" (hxD "law" 541 213 1 255 256 .none .none 257 544 545)) ::
 (nat_lit 259,hxG "law" 45 j9 258) ::
 []
abbrev hk (w:World):Frag:=nD w.params
structure Blt (mg:Str->Option Value):Prop where
 all_:mg "all" = none
 bool_:mg "bool" = none
 enumerate_:mg "enumerate" = none
 int_:mg "int" = none
 isinstance_:mg "isinstance" = none
 len_:mg "len" = none
 list_:mg "list" = none
 max_:mg "max" = none
 range_:mg "range" = none
 reversed_:mg "reversed" = none
 sorted_:mg "sorted" = none
 str_:mg "str" = none
 tuple_:mg "tuple" = none
 zip_:mg "zip" = none
def En (w:World) (mg:Str->Option Value):Prop:=∃ h:Heap,(hk w).In h/\h.Ns mainGlobals mg
theorem bn {w:World} {mg:Str->Option Value} (Y:En w mg) {x:Str} (e:PySem.W.nsIn (hk w) mainGlobals x=some none):mg x=none:=Y.elim fun _ q=>PySem.W.mg_none_of q.1 q.2 e
theorem bl {w:World} {mg:Str->Option Value} (Y:En w mg):Blt mg:=⟨bn Y (by kernel_rfl),bn Y (by kernel_rfl),bn Y (by kernel_rfl),bn Y (by kernel_rfl),bn Y (by kernel_rfl),bn Y (by kernel_rfl),bn Y (by kernel_rfl),bn Y (by kernel_rfl),bn Y (by kernel_rfl),bn Y (by kernel_rfl),bn Y (by kernel_rfl),bn Y (by kernel_rfl),bn Y (by kernel_rfl),bn Y (by kernel_rfl)⟩
abbrev FD (nm:String) (i:Nat) (pm:Value) (c:Nat):FuncData:=PySem.W.fnOf nm nm (L7 (top i)) (B5 (top i)) (b7 (top i)) .none .none .none pm none (.ref c) .none
theorem dk {w:World} {mg:Str->Option Value} (Y:En w mg) {nm:String} {i c:Nat} {f:Addr} {pm:Value} {ps:List Str}
  (e:(PySem.W.nsIn (hk w) mainGlobals nm,(hk w).lookup f,PySem.W.codeIn (hk w) (.ref c) nm,PySem.W.keepIn (hk w) (.ref f))=(some (some (.ref f)),some (hxG nm i pm c),true,true))
  (hb:∀ (kV doc pm:Value) (an:Option Addr) (cdv ct:Value) (us:List Value),us.length=ps.length->bindArgs (PySem.W.fnOf nm nm (L7 (top i)) (B5 (top i)) (b7 (top i)) .none kV doc pm an cdv ct) ⟨us,[]⟩=pure (ps.zip us)):Def (hk w) mg nm (top i) ps f (FD nm i pm c):=by
 obtain ⟨h,X,G⟩:=Y
 injection e with a e
 injection e with l e
 injection e with c k
 have F:=zV (st:=top i) l c k
 exact ⟨F,PySem.W.mg_of X G a,F.binds hb⟩
theorem okF {P:Program} {w:World} {K:Frag} {mg:Str->Option Value} {base:Heap} {x:Str} {st:Stmt} {ps:List Str} {f:Addr} {fd:FuncData} (D:Def K mg x st ps f fd) {N:List Str} {k n l:Nat} {d:Mode} {m:Rho->R Fl} (S:e7 N ps (b7 st)) (hd:d=.F\/d=.V) (hn:ps.length=n) (hl:N.length=l) (b:∀ {cdv:Value} {A:Around} {outer:List Env} {s:Shared} {H:Hp} {E:XK},Room k (A.deeper (PyProof.Rows.envOfC x (b7 st) s.heap.objs.size f cdv))->PSs (X7 CX0 P w K mg base N x (b7 st) f cdv A outer s H E).nox (B5 st) (tSt K (fun _ _=>False) d m)):FnOk P w K mg base CX0 (k+1) f fd ps (spM K n d (f7 n l m)):=by
 subst hn hl
 exact D.F.ok S (fun _ _ _ _ h=>h.1) fun cdv A outer s H vs Q E hr h=>⟨_,b hr,Bm hd h⟩
theorem okNn {P:Program} {w:World} {K:Frag} {mg:Str->Option Value} {base:Heap} {x:Str} {st:Stmt} {ps:List Str} {f:Addr} {fd:FuncData} (D:Def K mg x st ps f fd) {N:List Str} {k n l:Nat} {d:Mode} {m:Rho->R Fl} (S:e7 N ps (b7 st))  (hn:ps.length=n) (hl:N.length=l) (b:∀ {cdv:Value} {A:Around} {outer:List Env} {s:Shared} {H:Hp} {E:XK},Room k (A.deeper (PyProof.Rows.envOfC x (b7 st) s.heap.objs.size f cdv))->PSs (X7 CX0 P w K mg base N x (b7 st) f cdv A outer s H E).nox (B5 st) (tStN K (fun _ _=>False) d m)):FnOk P w K mg base CX0 (k+1) f fd ps (jR K n d (f7 n l m)):=by
 subst hn hl
 exact D.F.ok S (fun _ _ _ _ h=>h.1) fun cdv A outer s H vs Q E hr h=>⟨_,b hr,wf h⟩
theorem okX {P:Program} {w:World} {K:Frag} {mg:Str->Option Value} {base:Heap} {x:Str} {st:Stmt} {ps:List Str} {f:Addr} {fd:FuncData} (D:Def K mg x st ps f fd) {N:List Str} {k n l:Nat} {m:Rho->R Fl} (S:e7 N ps (b7 st))  (hn:ps.length=n) (hl:N.length=l) (b:∀ {cdv:Value} {A:Around} {outer:List Env} {s:Shared} {H:Hp} {E:XK},Room k (A.deeper (PyProof.Rows.envOfC x (b7 st) s.heap.objs.size f cdv))->PSs (X7 CX0 P w K mg base N x (b7 st) f cdv A outer s H E).nox (B5 st) (tSt K (fun _ _=>False) .V m)):FnOk P w K mg base CX0 (k+1) f fd ps (spX K n (Q2 n l m)):=by
 subst hn hl
 exact D.F.ok S (fun _ _ _ _ h=>h.1) fun cdv A outer s H vs Q E hr h=>⟨_,b hr,we h⟩
theorem qcD {X:Cx} {K:Frag} {d:Mode} {e:Expr} {es:List Expr} {pos:Pos} {mr:Rho->R (List W)} {k:Nat} {f:Addr} {fd:FuncData} {ps:List Str} {x:Str} {st:Stmt} {p:Pos} {n N:Nat} {m:Rho->R Fl} (F:FnOk X.prog X.w X.K X.mg X.base CX0 k f fd ps (spM K n d (f7 n N m))) (D:Def X.K X.mg x st ps f fd)
  (ha:PA X (e::es) (tA K (fun _ _=>False) .B mr)) (hd:d=.F\/d=.V:=by first | exact .inl rfl | exact .inr rfl) (hr:Room k X.A:=by exact Room.mono (by assumption) (by decide)) (hg:Gl X x:=by rfl) (hdb:(x == ("__debug__" : Str))=false:=by decide) (he:starEach (e::es) X.env=(false,eval e X.env)::starEach es X.env:=by rfl) (hpl:(backTo pos (starEach es X.env)).any (·.1)=false:=by rfl) :
  PE X (.Call (.Name x p) (e::es) [] pos) (tM K (fun _ _=>False) d (bA (f7 n N m) mr)):=mB F hd hr hg D.m D.F.kp D.b ha hdb he hpl
theorem Cg {P:Program} {w:World} {K:Frag} {mg:Str->Option Value} {base:Heap} {f:Addr} {fd:FuncData} {ps:List Str} {k n l:Nat} {d:Mode}:FnOk P w K mg base CX0 k f fd ps (spM K n d (f7 n l fun _=>.stuck)):=by
 have no:∀ (vs:List V) (H:Hp) (Q:VK) (E:XK),¬ spM K n d (f7 n l fun _=>.stuck) vs H Q E:=fun vs H Q E h=>by
  obtain ⟨_,ws,_,q⟩:=h
  unfold f7 at q
  split at q
  ·rename_i w e; split at e <;> cases e
  ·rename_i w e; split at e <;> cases e
  ·exact q
 exact ⟨fun vs H Q E h=>absurd h (no vs H Q E),fun A outer s H args us vs Q E hr=>fun _ _ _ h=>absurd h (no vs H Q E)⟩
theorem us0 {P:List Value->Prop} (h:P []):∀ us:List Value,us.length=0->P us:=fun us e=>by
 rw [List.length_eq_zero_iff.mp e]; exact h
theorem us1 {P:List Value->Prop} (h:∀ a0,P [a0]):∀ us:List Value,us.length=1->P us:=fun us e=>by
 cases us with
 | nil=>cases e
 | cons a us=>exact us0 (P:=fun us=>P (a::us)) (h a) us (Nat.succ.inj e)
theorem us2 {P:List Value->Prop} (h:∀ a0 a1,P [a0,a1]):∀ us:List Value,us.length=2->P us:=fun us e=>by
 cases us with
 | nil=>cases e
 | cons a us=>exact us1 (P:=fun us=>P (a::us)) (fun a1=>h a a1) us (Nat.succ.inj e)
theorem us3 {P:List Value->Prop} (h:∀ a0 a1 a2,P [a0,a1,a2]):∀ us:List Value,us.length=3->P us:=fun us e=>by
 cases us with
 | nil=>cases e
 | cons a us=>exact us2 (P:=fun us=>P (a::us)) (fun a1 a2=>h a a1 a2) us (Nat.succ.inj e)
theorem us4 {P:List Value->Prop} (h:∀ a0 a1 a2 a3,P [a0,a1,a2,a3]):∀ us:List Value,us.length=4->P us:=fun us e=>by
 cases us with
 | nil=>cases e
 | cons a us=>exact us3 (P:=fun us=>P (a::us)) (fun a1 a2 a3=>h a a1 a2 a3) us (Nat.succ.inj e)
theorem bi:e7 ["stand", "other", "number", "wanted"] ["stand", "other"] (b7 (top 4)):=by trivial
theorem wZ:e7 ["stand", "move"] ["stand", "move"] (b7 (top 5)):=by trivial
theorem oY:e7 ["move"] ["move"] (b7 (top 7)):=by trivial
theorem tF:e7 ["stand", "move"] ["stand", "move"] (b7 (top 6)):=by trivial
theorem fC:e7 ["stand", "basis", "low"] ["stand", "basis"] (b7 (top 10)):=by trivial
theorem cS:e7 ["stands", "found", "stand"] ["stands"] (b7 (top 9)):=by trivial
theorem oV:e7 ["stand", "move"] ["stand", "move"] (b7 (top 11)):=by trivial
theorem Z6:e7 ["moves", "basis", "found", "move"] ["moves", "basis"] (b7 (top 12)):=by trivial
theorem ix:e7 ["moves", "basis"] ["moves", "basis"] (b7 (top 13)):=by trivial
theorem lU:e7 ["moves", "basis"] ["moves", "basis"] (b7 (top 14)):=by trivial
theorem fD:e7 ["stand", "other"] ["stand", "other"] (b7 (top 15)):=by trivial
theorem bh:e7 ["moves", "rings", "most", "word", "ring", "number"] ["moves", "rings", "most", "word"] (b7 (top 18)):=by trivial
theorem W5:e7 ["moves", "target", "most", "rings", "told"] ["moves", "target", "most"] (b7 (top 17)):=by trivial
theorem O2:e7 ["tree", "number", "numbers", "at"] ["tree", "number"] (b7 (top 20)):=by trivial
theorem BD:e7 ["tree", "number"] ["tree", "number"] (b7 (top 22)):=by trivial
theorem Y0:e7 ["tree", "elder", "number", "path"] ["tree", "elder", "number"] (b7 (top 23)):=by trivial
theorem bL:e7 ["moor", "stand"] ["moor", "stand"] (b7 (top 26)):=by trivial
theorem J3:e7 ["moor", "most", "rows", "known", "at", "stand", "behind", "number"] ["moor", "most"] (b7 (top 25)):=by trivial
theorem iy:e7 ["rows"] ["rows"] (b7 (top 27)):=by trivial
theorem oX:e7 ["rows", "number"] ["rows", "number"] (b7 (top 28)):=by trivial
theorem J5:e7 ["moves", "basis", "move", "least_behind"] ["moves", "basis"] (b7 (top 31)):=by trivial
theorem P4:e7 ["moor", "move", "most", "reach", "basis", "told", "number", "stand"] ["moor", "move", "most"] (b7 (top 30)):=by trivial
theorem T0:e7 ["_law_script", "_law_k", "_law_number"] ["_law_script", "_law_k"] (b7 (top 33)):=by trivial
theorem F5:e7 ["_law_script", "_law_at", "_law_many", "_law_times", "_law_take", "_law_put", "_law_p", "_law_cell_here"] ["_law_script", "_law_at", "_law_many", "_law_times"] (b7 (top 34)):=by trivial
theorem Y2:e7 ["_law_stand", "_law_other", "_law_p"] ["_law_stand", "_law_other"] (b7 (top 35)):=by trivial
theorem Y1:e7 ["_law_stand", "_law_basis", "_law_one"] ["_law_stand", "_law_basis"] (b7 (top 36)):=by trivial
theorem eJ:e7 ["_law_stand", "_law_move_here"] ["_law_stand", "_law_move_here"] (b7 (top 37)):=by trivial
theorem eG:e7 ["_law_stand", "_law_move_here"] ["_law_stand", "_law_move_here"] (b7 (top 38)):=by trivial
theorem C8:e7 ["_law_moves", "_law_basis", "_law_some", "_law_stand", "_law_move_here", "_law_origin"] ["_law_moves", "_law_basis"] (b7 (top 39)):=by trivial
theorem C5:e7 ["_law_moves", "_law_target", "_law_most", "_law_ring", "_law_k", "_law_back_here"] ["_law_moves", "_law_target", "_law_most"] (b7 (top 40)):=by trivial
theorem v8:e7 ["_law_begin", "_law_moves", "_law_most", "_law_stands", "_law_ways", "_law_at", "_law_k", "_law_stand"] ["_law_begin", "_law_moves", "_law_most"] (b7 (top 41)):=by trivial
theorem O3:e7 ["_law_moves", "_law_basis", "_law_stand", "_law_move_here", "_law_joint"] ["_law_moves", "_law_basis"] (b7 (top 42)):=by trivial
theorem E6:e7 ["_law_begin", "_law_moves", "_law_number", "_law_most", "_law_basis", "_law_stands", "_law_ways", "_law_whole", "_law_k"] ["_law_begin", "_law_moves", "_law_number", "_law_most"] (b7 (top 43)):=by trivial
theorem fF:e7 ["_law_found", "_law_due_here"] ["_law_found", "_law_due_here"] (b7 (top 44)):=by trivial
theorem w4:e7 ["_law_script", "_law_many", "_law_most", "_law_times", "_law_size", "_law_moves", "_law_k", "_law_number", "_law_begin", "_law_land", "_law_due_here", "_law_found", "_law_next_one", "_law_part"] ["_law_script"] (b7 (top 45)):=by trivial
section
variable {P:Program} {w:World} {mg:Str->Option Value} {base:Heap} (Y:En w mg)
include Y
theorem dy:Def (hk w) mg "covers" (top 4) ["stand", "other"] 53 (FD "covers" 4 N5 52):=dk Y (by kernel_rfl) fun _ _ _ _ _ _=>us2 fun _ _=>rfl
theorem gi:FnOk P w (hk w) mg base CX0 1 53 (FD "covers" 4 N5 52) ["stand", "other"] (spM (hk w) 2 .F Q8):=
 okF (dy Y) bi (.inl rfl) rfl rfl fun hr=>(c6 (w8 PassesOwn.never rfl (xW (by rfl) (bl Y).zip_ (a8 (qv .U 0) (a8 (qv .U 1) b6))) (@E9 _ (hk w) _ _ _ _ 2 rfl (j5 (@d4 _ _ 2 _ bi.nd rfl (by trivial) (by trivial)) (j5 (@d4 _ _ 3 _ bi.nd rfl (by trivial) (by trivial)) E8)) (by rfl) (by rfl) (by rfl)) (K0 (.inr rfl) (j6 (.inr rfl) i7 (j6 (.inr rfl) i7 F3))) (b8 (i5 (k6 bR xLt (qv .B 2) (qv .B 3)) (b8 (d9 v9)) h9))) (b8 (d9 v9)))
theorem kM:Def (hk w) mg "able" (top 5) ["stand", "move"] 60 (FD "able" 5 N5 59):=dk Y (by kernel_rfl) fun _ _ _ _ _ _=>us2 fun _ _=>rfl
theorem mO:FnOk P w (hk w) mg base CX0 2 60 (FD "able" 5 N5 59) ["stand", "move"] (spM (hk w) 2 .F cA):=
 okF (kM Y) wZ (.inl rfl) rfl rfl fun hr=>(b8 (d9 (qcD (gi Y) (dy Y) (a8 (qv .B 0) (a8 (g8 (e8 (qv .B 1) c7)) b6)))))
theorem jz:Def (hk w) mg "change" (top 7) ["move"] 70 (FD "change" 7 N5 69):=dk Y (by kernel_rfl) fun _ _ _ _ _ _=>us1 fun _=>rfl
theorem pU:FnOk P w (hk w) mg base CX0 1 70 (FD "change" 7 N5 69) ["move"] (spM (hk w) 1 .F bw):=
 okF (jz Y) oY (.inl rfl) rfl rfl fun hr=>(b8 (d9 (K9 K7 (K4 (c:=true)) (by rfl) (bl Y).tuple_ o7 (a8 (f9 (u6 (show g6 (b7 (top 7)) _ ["move"] ["move", "take", "put"] from by trivial) rfl (bO (by rfl) (bl Y).zip_ (a8 (g8 (e8 (qv .B 0) c7)) (a8 (g8 (e8 (qv .B 0) c7)) b6))) (fun _ _ _ _=>(@E9 _ (hk w) _ _ _ _ 2 rfl (j5 (@d4 _ _ 1 _ (by decide +kernel:(["move", "take", "put"]:List Str).Nodup) rfl (Or.inl rfl) (.inr rfl)) (j5 (@d4 _ _ 2 _ (by decide +kernel:(["move", "take", "put"]:List Str).Nodup) rfl (Or.inl rfl) (.inr rfl)) E8)) (by rfl) (by rfl) (by rfl))) (K0 (.inr rfl) (j6 (.inr rfl) i7 (j6 (.inr rfl) i7 F3))) (ag (B3 (show 1<=1 by decide) (B3 (show 1<=2 by decide) ah))) (fun _ _ _ _=>z7) (fun _ _ _ _=>(e9 U4 cQ (qv .B 2) (qv .B 1))))) b6))))
theorem hZ:Def (hk w) mg "after" (top 6) ["stand", "move"] 65 (FD "after" 6 N5 64):=dk Y (by kernel_rfl) fun _ _ _ _ _ _=>us2 fun _ _=>rfl
theorem iZ:FnOk P w (hk w) mg base CX0 3 65 (FD "after" 6 N5 64) ["stand", "move"] (spM (hk w) 2 .F aL):=
 okF (hZ Y) tF (.inl rfl) rfl rfl fun hr=>(c6 (i5 (C6 (n8 (i6 (f9 (qcD (mO Y) (kM Y) (a8 (qv .B 0) (a8 (qv .B 1) b6))))))) (b8 ue) h9) (b8 (d9 (K9 K7 (K4 (c:=true)) (by rfl) (bl Y).tuple_ o7 (a8 (f9 (u6 (show g6 (b7 (top 6)) _ ["stand", "move"] ["stand", "move", "number", "step"] from by trivial) rfl (bO (by rfl) (bl Y).zip_ (a8 (qv .B 0) (a8 (i6 (f9 (qcD (pU Y) (jz Y) (a8 (qv .B 1) b6)))) b6))) (fun _ _ _ _=>(@E9 _ (hk w) _ _ _ _ 2 rfl (j5 (@d4 _ _ 2 _ (by decide +kernel:(["stand", "move", "number", "step"]:List Str).Nodup) rfl (Or.inl rfl) (.inr rfl)) (j5 (@d4 _ _ 3 _ (by decide +kernel:(["stand", "move", "number", "step"]:List Str).Nodup) rfl (Or.inl rfl) (.inr rfl)) E8)) (by rfl) (by rfl) (by rfl))) (K0 (.inr rfl) (j6 (.inr rfl) i7 (j6 (.inr rfl) i7 F3))) (ag (B3 (show 2<=2 by decide) (B3 (show 2<=3 by decide) ah))) (fun _ _ _ _=>z7) (fun _ _ _ _=>(e9 n4 w9 (qv .B 2) (qv .B 3))))) b6)))))
theorem V3:Def (hk w) mg "lifted" (top 10) ["stand", "basis"] 84 (FD "lifted" 10 A0 83):=dk Y (by kernel_rfl) fun _ _ _ _ _ _=>us2 fun _ _=>rfl
theorem W9:FnOk P w (hk w) mg base CX0 2 84 (FD "lifted" 10 A0 83) ["stand", "basis"] (spM (hk w) 2 .F G8):=
 okF (V3 Y) fC (.inl rfl) rfl rfl fun hr=>(c6 (w8 PassesOwn.never rfl (F6 (qv .U 1)) (@d4 _ _ 2 _ fC.nd rfl (by trivial) (by trivial)) i7 (b8 (i5 (n8 (i6 (f9 (qcD (gi Y) (dy Y) (a8 (qv .B 0) (a8 (qv .B 2) b6)))))) (b8 (d9 v9)) h9))) (b8 (d9 v9)))
theorem nO:Def (hk w) mg "least" (top 9) ["stands"] 77 (FD "least" 9 A0 76):=dk Y (by kernel_rfl) fun _ _ _ _ _ _=>us1 fun _=>rfl
theorem uE:FnOk P w (hk w) mg base CX0 3 77 (FD "least" 9 A0 76) ["stands"] (spM (hk w) 1 .F aK):=
 okF (nO Y) cS (.inl rfl) rfl rfl fun hr=>(c6 (l6 (i:=1) cS.nd rfl (by trivial) (w6 b6) (by rfl) (by trivial)) (c6 (w8 PassesOwn.never rfl (F6 (pI (n5 (j8 cK (jF (c:=false)) (by rfl) (bl Y).sorted_ eD (a8 (qv .B 0) b6))))) (@d4 _ _ 2 _ cS.nd rfl (by trivial) (by trivial)) i7 (b8 (i5 (C6 (n8 (i6 (f9 (qcD (W9 Y) (V3 Y) (a8 (qv .B 2) (a8 (qv .B 1) b6))))))) (b8 (@O6 _ _ _ _ _ _ _ 1 _ _ _ _ rfl (by trivial) (qv .V 2) (by decide) (by decide) (by rfl) (by rfl) (by rfl) (by rfl) (by rfl))) h9))) (b8 (@Z8 _ _ _ _ _ 1 _ _ (.inl rfl) (by rfl) (by trivial) (by decide) (by decide)))))
theorem jr:Def (hk w) mg "source" (top 11) ["stand", "move"] 89 (FD "source" 11 A0 88):=dk Y (by kernel_rfl) fun _ _ _ _ _ _=>us2 fun _ _=>rfl
theorem pQ:FnOk P w (hk w) mg base CX0 1 89 (FD "source" 11 A0 88) ["stand", "move"] (spM (hk w) 2 .F bt):=
 okF (jr Y) oV (.inl rfl) rfl rfl fun hr=>(b8 (d9 (K9 K7 (K4 (c:=true)) (by rfl) (bl Y).tuple_ o7 (a8 (f9 (u6 (show g6 (b7 (top 11)) _ ["stand", "move"] ["stand", "move", "number", "take", "put"] from by trivial) rfl (bO (by rfl) (bl Y).zip_ (a8 (qv .B 0) (a8 (g8 (e8 (qv .B 1) c7)) (a8 (g8 (e8 (qv .B 1) c7)) b6)))) (fun _ _ _ _=>(@E9 _ (hk w) _ _ _ _ 3 rfl (j5 (@d4 _ _ 2 _ (by decide +kernel:(["stand", "move", "number", "take", "put"]:List Str).Nodup) rfl (Or.inl rfl) (.inr rfl)) (j5 (@d4 _ _ 3 _ (by decide +kernel:(["stand", "move", "number", "take", "put"]:List Str).Nodup) rfl (Or.inl rfl) (.inr rfl)) (j5 (@d4 _ _ 4 _ (by decide +kernel:(["stand", "move", "number", "take", "put"]:List Str).Nodup) rfl (Or.inl rfl) (.inr rfl)) E8))) (by rfl) (by rfl) (by rfl))) (K0 (.inr rfl) (j6 (.inr rfl) i7 (j6 (.inr rfl) i7 (j6 (.inr rfl) i7 F3)))) (ag (B3 (show 2<=2 by decide) (B3 (show 2<=3 by decide) (B3 (show 2<=4 by decide) ah)))) (fun _ _ _ _=>z7) (fun _ _ _ _=>(j8 (S7 rfl) (b_2 (g:=T8)) (by rfl) (bl Y).max_ cL (a8 (qv .B 3) (a8 (e9 n4 w9 (e9 U4 cQ (qv .B 2) (qv .B 4)) (qv .B 3)) b6)))))) b6))))
theorem bx:Def (hk w) mg "sources" (top 12) ["moves", "basis"] 94 (FD "sources" 12 A0 93):=dk Y (by kernel_rfl) fun _ _ _ _ _ _=>us2 fun _ _=>rfl
theorem dM:FnOk P w (hk w) mg base CX0 2 94 (FD "sources" 12 A0 93) ["moves", "basis"] (spM (hk w) 2 .F N1):=
 okF (bx Y) Z6 (.inl rfl) rfl rfl fun hr=>(c6 (l6 (i:=2) Z6.nd rfl (by trivial) (w6 b6) (by rfl) (by trivial)) (c6 (w8 PassesOwn.never rfl (F6 (qv .U 0)) (@d4 _ _ 3 _ Z6.nd rfl (by trivial) (by trivial)) i7 (b8 (@BN _ _ _ _ _ _ _ 2 true _ _ _ _ rfl (by trivial) (f9 (u6 (show g6 (b7 (top 12)) _ ["moves", "basis", "found", "move"] ["moves", "basis", "found", "move", "stand"] from by trivial) rfl (Q3 (qv .B 1)) (fun _ _ _ _=>(@d4 _ _ 4 _ (by decide +kernel:(["moves", "basis", "found", "move", "stand"]:List Str).Nodup) rfl (Or.inl rfl) (.inr rfl))) i7 (y4 (show 4<=4 by decide)) (fun _ _ _ _=>z7) (fun _ _ _ _=>(n5 (qcD (pQ Y) (jr Y) (a8 (qv .B 4) (a8 (qv .B 3) b6))))))) (by rfl) (by decide) (by decide) (by rfl) (by rfl) (by rfl) (by rfl) (by rfl) (by rfl)))) (b8 (@Z8 _ _ _ _ _ 2 _ _ (.inl rfl) (by rfl) (by trivial) (by decide) (by decide)))))
theorem cF:Def (hk w) mg "step_back" (top 13) ["moves", "basis"] 101 (FD "step_back" 13 A0 100):=dk Y (by kernel_rfl) fun _ _ _ _ _ _=>us2 fun _ _=>rfl
theorem iz:FnOk P w (hk w) mg base CX0 4 101 (FD "step_back" 13 A0 100) ["moves", "basis"] (spM (hk w) 2 .F M3):=
 okF (cF Y) ix (.inl rfl) rfl rfl fun hr=>(b8 (d9 (qcD (uE Y) (nO Y) (a8 (i6 (f9 (e9 gd (gn (c:=true)) (f9 (K9 oz (ot (c:=false)) (by rfl) (bl Y).list_ P7 (a8 (qv .B 1) b6))) (f9 (qcD (dM Y) (bx Y) (a8 (qv .B 0) (a8 (qv .B 1) b6))))))) b6))))
theorem hV:Def (hk w) mg "is_shut" (top 14) ["moves", "basis"] 106 (FD "is_shut" 14 A0 105):=dk Y (by kernel_rfl) fun _ _ _ _ _ _=>us2 fun _ _=>rfl
theorem mN:FnOk P w (hk w) mg base CX0 3 106 (FD "is_shut" 14 A0 105) ["moves", "basis"] (spM (hk w) 2 .F ai):=
 okF (hV Y) lU (.inl rfl) rfl rfl fun hr=>(b8 (d9 (j8 (eC rfl) (jG (g:=br)) (by rfl) (bl Y).all_ oh (a8 (i6 (f9 (u6 (show g6 (b7 (top 14)) _ ["moves", "basis"] ["moves", "basis", "stand"] from by trivial) rfl (Q3 (i6 (f9 (qcD (dM Y) (bx Y) (a8 (qv .B 0) (a8 (qv .B 1) b6)))))) (fun _ _ _ _=>(@d4 _ _ 2 _ (by decide +kernel:(["moves", "basis", "stand"]:List Str).Nodup) rfl (Or.inl rfl) (.inr rfl))) i7 (y4 (show 2<=2 by decide)) (fun _ _ _ _=>z7) (fun _ _ _ _=>(n5 (qcD (W9 Y) (V3 Y) (a8 (qv .B 2) (a8 (qv .B 1) b6)))))))) b6))))
theorem aU:Def (hk w) mg "least_over" (top 15) ["stand", "other"] 111 (FD "least_over" 15 A0 110):=dk Y (by kernel_rfl) fun _ _ _ _ _ _=>us2 fun _ _=>rfl
theorem ge:FnOk P w (hk w) mg base CX0 1 111 (FD "least_over" 15 A0 110) ["stand", "other"] (spM (hk w) 2 .F Q7):=
 okF (aU Y) fD (.inl rfl) rfl rfl fun hr=>(b8 (d9 (K9 K7 (K4 (c:=true)) (by rfl) (bl Y).tuple_ o7 (a8 (f9 (u6 (show g6 (b7 (top 15)) _ ["stand", "other"] ["stand", "other", "number", "wanted"] from by trivial) rfl (bO (by rfl) (bl Y).zip_ (a8 (qv .B 0) (a8 (qv .B 1) b6))) (fun _ _ _ _=>(@E9 _ (hk w) _ _ _ _ 2 rfl (j5 (@d4 _ _ 2 _ (by decide +kernel:(["stand", "other", "number", "wanted"]:List Str).Nodup) rfl (Or.inl rfl) (.inr rfl)) (j5 (@d4 _ _ 3 _ (by decide +kernel:(["stand", "other", "number", "wanted"]:List Str).Nodup) rfl (Or.inl rfl) (.inr rfl)) E8)) (by rfl) (by rfl) (by rfl))) (K0 (.inr rfl) (j6 (.inr rfl) i7 (j6 (.inr rfl) i7 F3))) (ag (B3 (show 2<=2 by decide) (B3 (show 2<=3 by decide) ah))) (fun _ _ _ _=>z7) (fun _ _ _ _=>(j8 (S7 rfl) (b_2 (g:=T8)) (by rfl) (bl Y).max_ cL (a8 (qv .B 2) (a8 (qv .B 3) b6)))))) b6))))
theorem L6:Def (hk w) mg "ending" (top 18) ["moves", "rings", "most", "word"] 125 (FD "ending" 18 dq 124):=dk Y (by kernel_rfl) fun _ _ _ _ _ _=>us4 fun _ _ _ _=>rfl
theorem gf:FnOk P w (hk w) mg base CX0 4 125 (FD "ending" 18 dq 124) ["moves", "rings", "most", "word"] (spX (hk w) 4 L5):=
 okX (L6 Y) bh rfl rfl fun hr=>(c6 (l5 (i:=4) bh.nd rfl (by trivial) (W7 (qv .C 1) (xX lw (yK (g:=gZ) (fun _=>rfl) (fun _ _=>.int)) c7)) (by rfl) (by trivial)) (c6 (l5 (i:=5) bh.nd rfl (by trivial) (e9 U4 cQ (j8 p8 p6 (by rfl) (bl Y).len_ PySem.boot_len (a8 (qv .B 1) b6)) c7) (by rfl) (by trivial)) (c6 (i5 (k6 eV xGt (j8 p8 p6 (by rfl) (bl Y).len_ PySem.boot_len (a8 (qv .B 4) b6)) (qv .B 2)) (b8 (d9 (n5 (o5 (a8 B9 (a8 (qv .V 5) b6)))))) h9) (c6 (i5 (n8 (i6 (f9 (qcD (mN Y) (hV Y) (a8 (qv .B 0) (a8 (qv .B 4) b6)))))) (b8 (d9 (n5 (o5 (a8 (qv .V 3) (a8 (qv .V 4) b6)))))) h9) (c6 (i5 (k6 (bT (X4 hr)) (bX (neg:=false)) (qv .B 5) (qv .B 2)) (b8 (d9 (n5 (o5 (a8 B9 (a8 (qv .V 5) b6)))))) h9) (b8 (d9 S0)))))))
theorem jv:Def (hk w) mg "enough" (top 17) ["moves", "target", "most"] 118 (FD "enough" 17 dq 117):=dk Y (by kernel_rfl) fun _ _ _ _ _ _=>us3 fun _ _ _=>rfl
theorem pT:FnOk P w (hk w) mg base CX0 5 118 (FD "enough" 17 dq 117) ["moves", "target", "most"] (spM (hk w) 3 .V bv):=
 okF (jv Y) W5 (.inr rfl) rfl rfl fun hr=>(c6 (l6 (i:=3) W5.nd rfl (by trivial) (w6 (a8 (n5 (w6 (a8 (qv .V 1) b6))) b6)) (by rfl) (by trivial)) (c6 (@iV _ _ _ _ _ _ _ 4 _ [3] _ _ _ _ _ _ _ _ _ _ _ W5.nd rfl (by trivial) (gf Y) (by trivial) (by rfl) (L6 Y).m (L6 Y).F.kp (L6 Y).b (a8 (qv .V 0) (a8 (qv .V 3) (a8 (qv .V 2) (a8 B9 b6)))) (by decide) (by rfl) (by rfl) (by rfl) (by trivial)) (c6 (aF PassesOwn.never (k6 mM mR (qv .B 4) S0) (c6 (@O6 _ _ _ _ _ _ _ 3 _ _ _ _ rfl (by trivial) (n5 (qcD (iz Y) (cF Y) (a8 (qv .B 0) (a8 (g8 (e8 (qv .B 3) (xX lw (yK (g:=gZ) (fun _=>rfl) (fun _ _=>.int)) c7))) b6)))) (by decide) (by decide) (by rfl) (by rfl) (by rfl) (by rfl) (by rfl)) (b8 (@iV _ _ _ _ _ _ _ 4 _ [3] _ _ _ _ _ _ _ _ _ _ _ W5.nd rfl (by trivial) (gf Y) (by trivial) (by rfl) (L6 Y).m (L6 Y).F.kp (L6 Y).b (a8 (qv .V 0) (a8 (qv .V 3) (a8 (qv .V 2) (a8 B9 b6)))) (by decide) (by rfl) (by rfl) (by rfl) (by trivial))))) (b8 (@Z8 _ _ _ _ _ 4 _ _ (.inr rfl) (by rfl) (by trivial) (by decide) (by decide))))))
theorem eg:Def (hk w) mg "way_back" (top 20) ["tree", "number"] 132 (FD "way_back" 20 qC 131):=dk Y (by kernel_rfl) fun _ _ _ _ _ _=>us2 fun _ _=>rfl
theorem kj:FnOk P w (hk w) mg base CX0 1 132 (FD "way_back" 20 qC 131) ["tree", "number"] (spM (hk w) 2 .F P0):=
 okF (eg Y) O2 (.inl rfl) rfl rfl fun hr=>(c6 (l6 (i:=2) O2.nd rfl (by trivial) (w6 b6) (by rfl) (by trivial)) (c6 (l5 (i:=3) O2.nd rfl (by trivial) (qv .V 1) (by rfl) (by trivial)) (c6 (aF PassesOwn.never (k6 uD uJ (qv .B 3) S0) (c6 (@O6 _ _ _ _ _ _ _ 2 _ _ _ _ rfl (by trivial) (qv .V 3) (by decide) (by decide) (by rfl) (by rfl) (by rfl) (by rfl) (by rfl)) (b8 (@xZ _ _ _ _ _ _ _ 3 _ _ O2.nd rfl (by trivial) (e8 (g8 (e8 (qv .B 0) (qv .B 3))) c7) (by rfl) (by trivial))))) (b8 (@Z8 _ _ _ _ _ 2 _ _ (.inl rfl) (by rfl) (by trivial) (by decide) (by decide))))))
theorem Ay:Def (hk w) mg "way" (top 22) ["tree", "number"] 139 (FD "way" 22 dn 138):=dk Y (by kernel_rfl) fun _ _ _ _ _ _=>us2 fun _ _=>rfl
theorem Cc:FnOk P w (hk w) mg base CX0 2 139 (FD "way" 22 dn 138) ["tree", "number"] (spM (hk w) 2 .F kK):=
 okF (Ay Y) BD (.inl rfl) rfl rfl fun hr=>(b8 (d9 (@ya _ _ _ _ _ _ _ _ _ rfl (by rfl) (bl Y).list_ (by rfl) (bl Y).reversed_ (a8 (i6 (f9 (qcD (kj Y) (eg Y) (a8 (qv .B 0) (a8 (qv .B 1) b6))))) b6) (by rfl) (by rfl) (by rfl))))
theorem am:Def (hk w) mg "row_between" (top 23) ["tree", "elder", "number"] 144 (FD "row_between" 23 dn 143):=dk Y (by kernel_rfl) fun _ _ _ _ _ _=>us3 fun _ _ _=>rfl
theorem eK:FnOk P w (hk w) mg base CX0 3 144 (FD "row_between" 23 dn 143) ["tree", "elder", "number"] (spM (hk w) 3 .F N7):=
 okF (am Y) Y0 (.inl rfl) rfl rfl fun hr=>(c6 (l6 (i:=3) Y0.nd rfl (by trivial) (qcD (Cc Y) (Ay Y) (a8 (qv .B 0) (a8 (qv .B 2) b6))) (by rfl) (by trivial)) (b8 (d9 (u6 (show g6 (b7 (top 23)) _ ["tree", "elder", "number", "path"] ["tree", "elder", "number", "path", "at"] from by trivial) rfl (Q3 (i6 (f9 (@q_sl _ _ _ _ _ _ true _ _ _ _ _ (qv .C 3) (q_pS (e9 n4 w9 (@ug _ _ _ _ _ _ _ _ _ _ (X4 hr) (qv .B 3) (qv .B 1) (by rfl) (by rfl) (by rfl) (by rfl) (by rfl) (by rfl)) c7)) q_pN (by rfl))))) (fun _ _ _ _=>(@d4 _ _ 4 _ (by decide +kernel:(["tree", "elder", "number", "path", "at"]:List Str).Nodup) rfl (Or.inl rfl) (.inr rfl))) i7 (y4 (show 4<=4 by decide)) (fun _ _ _ _=>z7) (fun _ _ _ _=>(fR (e8 (g8 (e8 (qv .B 0) (qv .B 4))) c7)))))))
theorem V1:Def (hk w) mg "stands_behind" (top 26) ["moor", "stand"] 156 (FD "stands_behind" 26 N6 155):=dk Y (by kernel_rfl) fun _ _ _ _ _ _=>us2 fun _ _=>rfl
theorem bU:FnOk P w (hk w) mg base CX0 4 156 (FD "stands_behind" 26 N6 155) ["moor", "stand"] (spM (hk w) 2 .F K1):=
 okF (V1 Y) bL (.inl rfl) rfl rfl fun hr=>(b8 (d9 (u6 (show g6 (b7 (top 26)) _ ["moor", "stand"] ["moor", "stand", "number", "move"] from by trivial) rfl (@yd _ _ _ _ _ _ _ _ _ _ (by rfl) (bl Y).enumerate_ (a8 (g8 (e8 (qv .B 0) c7)) b6) (by rfl) (by rfl)) (fun _ _ _ _=>(@E9 _ (hk w) _ _ _ _ 2 rfl (j5 (@d4 _ _ 2 _ (by decide +kernel:(["moor", "stand", "number", "move"]:List Str).Nodup) rfl (Or.inl rfl) (.inr rfl)) (j5 (@d4 _ _ 3 _ (by decide +kernel:(["moor", "stand", "number", "move"]:List Str).Nodup) rfl (Or.inl rfl) (.inr rfl)) E8)) (by rfl) (by rfl) (by rfl))) (K0 (.inr rfl) (j6 (.inr rfl) i7 (j6 (.inr rfl) i7 F3))) (ag (B3 (show 2<=2 by decide) (B3 (show 2<=3 by decide) ah))) (fun _ _ _ _=>(fQ (n8 (i6 (f9 (qcD (mO Y) (kM Y) (a8 (qv .B 1) (a8 (qv .B 3) b6)))))))) (fun _ _ _ _=>(n5 (o5 (a8 (n5 (qcD (iZ Y) (hZ Y) (a8 (qv .B 1) (a8 (qv .B 3) b6)))) (a8 (qv .V 2) b6))))))))
theorem nP:Def (hk w) mg "flood" (top 25) ["moor", "most"] 151 (FD "flood" 25 N6 150):=dk Y (by kernel_rfl) fun _ _ _ _ _ _=>us2 fun _ _=>rfl
theorem uF:FnOk P w (hk w) mg base CX0 5 151 (FD "flood" 25 N6 150) ["moor", "most"] (spM (hk w) 2 .F dv):=
 okF (nP Y) J3 (.inl rfl) rfl rfl fun hr=>(c6 (l6 (i:=2) J3.nd rfl (by trivial) (w6 (a8 (n5 (o5 (a8 (fR (e8 (qv .B 0) c7)) (a8 S0 (a8 S0 b6))))) b6)) (by rfl) (by trivial)) (c6 (@yf _ _ _ _ _ _ _ _ _ 3 _ _ _ (X4 hr) J3.nd rfl (by trivial) (g8 (e8 (qv .B 0) c7)) v9 (by rfl) (by first | exact Or.inl rfl | exact Or.inr rfl | assumption)) (c6 (l5 (i:=4) J3.nd rfl (by trivial) c7 (by rfl) (by trivial)) (c6 (aF PassesOwn.never (k6 bR xLt (qv .B 4) (j8 p8 p6 (by rfl) (bl Y).len_ PySem.boot_len (a8 (qv .B 2) b6))) (c6 (l5 (i:=5) J3.nd rfl (by trivial) (W7 (jZ (W7 (qv .C 2) (qv .C 4))) c7) (by rfl) (by trivial)) (c6 (w8 PassesOwn.never rfl (F6 (pI (n5 (qcD (bU Y) (V1 Y) (a8 (qv .B 0) (a8 (qv .B 5) b6)))))) (@E9 _ (hk w) _ _ _ _ 2 rfl (j5 (@d4 _ _ 6 _ J3.nd rfl (by trivial) (by trivial)) (j5 (@d4 _ _ 7 _ J3.nd rfl (by trivial) (by trivial)) E8)) (by rfl) (by rfl) (by rfl)) (K0 (.inr rfl) (j6 (.inr rfl) i7 (j6 (.inr rfl) i7 F3))) (c6 (i5 (@BO _ _ _ _ _ _ 3 _ _ (X4 hr) rfl (by trivial) (qv .B 6) (by decide) (by decide) (by rfl)) (b8 yg) h9) (c6 (i5 (k6 O8 J9 (j8 p8 p6 (by rfl) (bl Y).len_ PySem.boot_len (a8 (qv .B 2) b6)) (qv .B 1)) (b8 (O5 (d9 (o5 (a8 (qv .V 2) (a8 v9 b6)))))) h9) (c6 (@ye _ _ _ _ _ _ _ _ _ 3 _ _ _ (X4 hr) rfl (by trivial) (qv .B 6) v9 (by decide) (by decide) (by rfl)) (b8 (@O6 _ _ _ _ _ _ _ 2 _ _ _ _ rfl (by trivial) (n5 (o5 (a8 (qv .V 6) (a8 (qv .V 4) (a8 (qv .V 7) b6))))) (by decide) (by decide) (by rfl) (by rfl) (by rfl) (by rfl) (by rfl))))))) (b8 (@BP _ _ _ _ _ _ _ 4 _ _ _ _ J3.nd rfl (by trivial) c7 zJ (by trivial)))))) (b8 (O5 (d9 (o5 (a8 (qv .V 2) (a8 v9 b6))))))))))
theorem X6:Def (hk w) mg "stands_in" (top 27) ["rows"] 161 (FD "stands_in" 27 N6 160):=dk Y (by kernel_rfl) fun _ _ _ _ _ _=>us1 fun _=>rfl
theorem aO:FnOk P w (hk w) mg base CX0 1 161 (FD "stands_in" 27 N6 160) ["rows"] (spM (hk w) 1 .F M4):=
 okF (X6 Y) iy (.inl rfl) rfl rfl fun hr=>(b8 (d9 (u6 (show g6 (b7 (top 27)) _ ["rows"] ["rows", "row"] from by trivial) rfl (Q3 (qv .B 0)) (fun _ _ _ _=>(@d4 _ _ 1 _ (by decide +kernel:(["rows", "row"]:List Str).Nodup) rfl (Or.inl rfl) (.inr rfl))) i7 (y4 (show 1<=1 by decide)) (fun _ _ _ _=>z7) (fun _ _ _ _=>(fR (e8 (qv .B 1) c7))))))
theorem jt:Def (hk w) mg "row_to" (top 28) ["rows", "number"] 168 (FD "row_to" 28 N6 167):=dk Y (by kernel_rfl) fun _ _ _ _ _ _=>us2 fun _ _=>rfl
theorem pR:FnOk P w (hk w) mg base CX0 4 168 (FD "row_to" 28 N6 167) ["rows", "number"] (spM (hk w) 2 .F bu):=
 okF (jt Y) oX (.inl rfl) rfl rfl fun hr=>(b8 (d9 (qcD (eK Y) (am Y) (a8 (qv .B 0) (i9 (a8 (qv .B 1) b6))))))
theorem V4:Def (hk w) mg "is_never_left" (top 31) ["moves", "basis"] 180 (FD "is_never_left" 31 dm 179):=dk Y (by kernel_rfl) fun _ _ _ _ _ _=>us2 fun _ _=>rfl
theorem bV:FnOk P w (hk w) mg base CX0 4 180 (FD "is_never_left" 31 dm 179) ["moves", "basis"] (spM (hk w) 2 .F D6):=
 okF (V4 Y) J5 (.inl rfl) rfl rfl fun hr=>(c6 (w8 PassesOwn.never rfl (F6 (qv .U 0)) (@d4 _ _ 2 _ J5.nd rfl (by trivial) (by trivial)) i7 (c6 (@xY _ _ _ _ _ _ _ 3 _ _ _ _ _ _ _ _ _ _ _ _ _ (show g6 (b7 (top 31)) _ ["moves", "basis", "move", "least_behind"] ["moves", "basis", "move", "least_behind", "stand"] from by trivial) rfl (Q3 (qv .B 1)) (fun _ _ _ _=>(@d4 _ _ 4 _ (by decide +kernel:(["moves", "basis", "move", "least_behind", "stand"]:List Str).Nodup) rfl (Or.inl rfl) (.inr rfl))) i7 (y4 (show 4<=4 by decide)) (fun _ _ _ _=>z7) (fun _ _ _ _=>(n5 (qcD (iZ Y) (hZ Y) (a8 (i6 (f9 (qcD (ge Y) (aU Y) (a8 (qv .B 4) (a8 (g8 (e8 (qv .B 2) c7)) b6))))) (a8 (qv .B 2) b6))))) J5.nd rfl (by trivial) (by rfl) (by trivial) (by intro _; rfl)) (b8 (i5 (C6 (n8 (j8 (eC rfl) (jG (g:=br)) (by rfl) (bl Y).all_ oh (a8 (i6 (f9 (u6 (show g6 (b7 (top 31)) _ ["moves", "basis", "move", "least_behind"] ["moves", "basis", "move", "least_behind", "stand"] from by trivial) rfl (Q3 (qv .B 3)) (fun _ _ _ _=>(@d4 _ _ 4 _ (by decide +kernel:(["moves", "basis", "move", "least_behind", "stand"]:List Str).Nodup) rfl (Or.inl rfl) (.inr rfl))) i7 (y4 (show 4<=4 by decide)) (fun _ _ _ _=>z7) (fun _ _ _ _=>(n5 (qcD (W9 Y) (V3 Y) (a8 (qv .B 4) (a8 (qv .B 1) b6)))))))) b6)))) (b8 (d9 v9)) h9)))) (b8 (d9 v9)))
theorem V5:Def (hk w) mg "again" (top 30) ["moor", "move", "most"] 175 (FD "again" 30 dm 174):=dk Y (by kernel_rfl) fun _ _ _ _ _ _=>us3 fun _ _ _=>rfl
theorem da:FnOk P w (hk w) mg base CX0 6 175 (FD "again" 30 dm 174) ["moor", "move", "most"] (spM (hk w) 3 .V U8):=
 okF (V5 Y) P4 (.inr rfl) rfl rfl fun hr=>(c6 (l5 (i:=3) P4.nd rfl (by trivial) (qcD (pT Y) (jv Y) (a8 (g8 (e8 (qv .B 0) c7)) (a8 (g8 (e8 (g8 (e8 (g8 (e8 (qv .B 0) c7)) (qv .B 1))) c7)) (a8 (qv .B 2) b6)))) (by rfl) (by trivial)) (c6 (i5 (k6 O8 J9 (g8 (e8 (qv .B 3) c7)) B9) (b8 (d9 (n5 (o5 (a8 B9 b6))))) h9) (c6 (l5 (i:=4) P4.nd rfl (by trivial) (W7 (qv .C 3) c7) (by rfl) (by trivial)) (c6 (l6 (i:=5) P4.nd rfl (by trivial) (qcD (uF Y) (nP Y) (a8 (qv .B 0) (a8 (qv .B 2) b6))) (by rfl) (by trivial)) (c6 (w8 PassesOwn.never rfl (@yc _ _ _ _ _ _ _ _ _ _ (by rfl) (bl Y).enumerate_ (a8 (pI (n5 (qcD (aO Y) (X6 Y) (a8 (g8 (e8 (qv .B 5) c7)) b6)))) b6) (by rfl) (by rfl)) (@E9 _ (hk w) _ _ _ _ 2 rfl (j5 (@d4 _ _ 6 _ P4.nd rfl (by trivial) (by trivial)) (j5 (@d4 _ _ 7 _ P4.nd rfl (by trivial) (by trivial)) E8)) (by rfl) (by rfl) (by rfl)) (K0 (.inr rfl) (j6 (.inr rfl) i7 (j6 (.inr rfl) i7 F3))) (b8 (i5 (C6 (n8 (i6 (f9 (qcD (W9 Y) (V3 Y) (a8 (qv .B 7) (a8 (qv .B 4) b6))))))) (b8 (d9 (n5 (o5 (a8 B9 (a8 (n5 (qcD (pR Y) (jt Y) (a8 (g8 (e8 (qv .B 5) c7)) (a8 (qv .B 6) b6)))) (a8 (qv .V 4) b6))))))) h9))) (c6 (i5 (n8 (g8 (e8 (qv .B 5) c7))) (b8 (d9 (n5 (o5 (a8 B9 (a8 (n5 (qcD (aO Y) (X6 Y) (a8 (g8 (e8 (qv .B 5) c7)) b6))) b6)))))) h9) (b8 (d9 (q_if (n8 (i6 (f9 (qcD (bV Y) (V4 Y) (a8 (g8 (e8 (qv .B 0) c7)) (a8 (qv .B 4) b6)))))) (n5 (o5 (a8 B9 (a8 (qv .V 4) b6)))) (n5 (o5 (a8 B9 b6))))))))))))
theorem n0:Def (hk w) mg "_law_cell" (top 33) ["_law_script", "_law_k"] 187 (FD "_law_cell" 33 j9 186):=dk Y (by kernel_rfl) fun _ _ _ _ _ _=>us2 fun _ _=>rfl
theorem m7:FnOk P w (hk w) mg base CX0 1 187 (FD "_law_cell" 33 j9 186) ["_law_script", "_law_k"] (spM (hk w) 2 .F j7):=
 okF (n0 Y) T0 (.inl rfl) rfl rfl fun hr=>(c6 (i5 (k6 bR xLt (qv .B 1) (j8 p8 p6 (by rfl) (bl Y).len_ PySem.boot_len (a8 (qv .B 0) b6))) (b8 (d9 (yh (e8 (qv .B 0) (qv .B 1))))) h9) (c6 (l5 (i:=2) T0.nd rfl (by trivial) (e9 n4 w9 (e9 C9 (l7 (C:=CMulB) (g:=t9) (fun _ _=>rfl) (fun _ _ _=>.int)) c7 (qv .B 1)) c7) (by rfl) (by trivial)) (c6 (i5 (k6 eV xGt (j8 p8 p6 (by rfl) (bl Y).len_ PySem.boot_len (a8 (qv .B 0) b6)) c7) (b8 (l5 (i:=2) T0.nd rfl (by trivial) (e9 n4 w9 (e9 n4 w9 (e9 C9 (l7 (C:=CMulB) (g:=t9) (fun _ _=>rfl) (fun _ _ _=>.int)) (g8 (e8 (qv .B 0) (e9 t7 (l7 (C:=l4) (g:=m5) (fun _ _=>rfl) (fun _ _ _=>.int)) (e9 C9 (l7 (C:=CMulB) (g:=t9) (fun _ _=>rfl) (fun _ _ _=>.int)) (qv .B 1) c7) (j8 p8 p6 (by rfl) (bl Y).len_ PySem.boot_len (a8 (qv .B 0) b6))))) c7) (e9 C9 (l7 (C:=CMulB) (g:=t9) (fun _ _=>rfl) (fun _ _ _=>.int)) (e9 C9 (l7 (C:=CMulB) (g:=t9) (fun _ _=>rfl) (fun _ _ _=>.int)) (qv .B 1) (qv .B 1)) c7)) c7) (by rfl) (by trivial))) h9) (b8 (d9 (e9 t7 (l7 (C:=l4) (g:=m5) (fun _ _=>rfl) (fun _ _ _=>.int)) (e9 C9 (l7 (C:=CMulB) (g:=t9) (fun _ _=>rfl) (fun _ _ _=>.int)) (qv .B 2) (qv .B 2)) c7))))))
theorem cG:Def (hk w) mg "_law_move" (top 34) ["_law_script", "_law_at", "_law_many", "_law_times"] 194 (FD "_law_move" 34 j9 193):=dk Y (by kernel_rfl) fun _ _ _ _ _ _=>us4 fun _ _ _ _=>rfl
theorem iA:FnOk P w (hk w) mg base CX0 2 194 (FD "_law_move" 34 j9 193) ["_law_script", "_law_at", "_law_many", "_law_times"] (spM (hk w) 4 .F T9):=
 okF (cG Y) F5 (.inl rfl) rfl rfl fun hr=>(c6 (l6 (i:=4) F5.nd rfl (by trivial) (w6 b6) (by rfl) (by trivial)) (c6 (l6 (i:=5) F5.nd rfl (by trivial) (w6 b6) (by rfl) (by trivial)) (c6 (w8 PassesOwn.never rfl (D9 (by rfl) (bl Y).range_ (a8 (qv .B 2) b6)) (@d4 _ _ 6 _ F5.nd rfl (by trivial) (by trivial)) i7 (c6 (l6 (i:=7) F5.nd rfl (by trivial) (qcD (m7 Y) (n0 Y) (a8 (qv .B 0) (a8 (e9 n4 w9 (qv .B 1) (qv .B 6)) b6))) (by rfl) (by trivial)) (c6 (@O6 _ _ _ _ _ _ _ 4 _ _ _ _ rfl (by trivial) (W7 (f9 (w6 (i9 (i9 (i9 (i9 (i9 (i9 (i9 (a8 (e9 n4 w9 c7 (e9 L0 (l7 (C:=B8) (g:=G7) (fun _ _=>rfl) (fun _ _ _=>.int)) (qv .B 3) c7)) b6)))))))))) (e9 t7 (l7 (C:=l4) (g:=m5) (fun _ _=>rfl) (fun _ _ _=>.int)) (qv .B 7) c7)) (by decide) (by decide) (by rfl) (by rfl) (by rfl) (by rfl) (by rfl)) (b8 (@O6 _ _ _ _ _ _ _ 5 _ _ _ _ rfl (by trivial) (e9 C9 (l7 (C:=CMulB) (g:=t9) (fun _ _=>rfl) (fun _ _ _=>.int)) (g8 (e8 (i6 (f9 yb)) (e9 t7 (l7 (C:=l4) (g:=m5) (fun _ _=>rfl) (fun _ _ _=>.int)) (e9 L0 (l7 (C:=B8) (g:=G7) (fun _ _=>rfl) (fun _ _ _=>.int)) (qv .B 7) c7) c7))) (qv .B 3)) (by decide) (by decide) (by rfl) (by rfl) (by rfl) (by rfl) (by rfl)))))) (b8 (d9 (o5 (a8 (n5 (K9 K7 (K4 (c:=true)) (by rfl) (bl Y).tuple_ o7 (a8 (qv .C 4) b6))) (a8 (n5 (K9 K7 (K4 (c:=true)) (by rfl) (bl Y).tuple_ o7 (a8 (qv .C 5) b6))) b6))))))))
theorem K3:Def (hk w) mg "_law_covers" (top 35) ["_law_stand", "_law_other"] 201 (FD "_law_covers" 35 j9 200):=dk Y (by kernel_rfl) fun _ _ _ _ _ _=>us2 fun _ _=>rfl
theorem N4:FnOk P w (hk w) mg base CX0 1 201 (FD "_law_covers" 35 j9 200) ["_law_stand", "_law_other"] (spM (hk w) 2 .F y8):=
 okF (K3 Y) Y2 (.inl rfl) rfl rfl fun hr=>(c6 (w8 PassesOwn.never rfl (D9 (by rfl) (bl Y).range_ (a8 (j8 p8 p6 (by rfl) (bl Y).len_ PySem.boot_len (a8 (qv .B 0) b6)) b6)) (@d4 _ _ 2 _ Y2.nd rfl (by trivial) (by trivial)) i7 (b8 (i5 (k6 bR xLt (g8 (e8 (qv .B 0) (qv .B 2))) (g8 (e8 (qv .B 1) (qv .B 2)))) (b8 (d9 v9)) h9))) (b8 (d9 v9)))
theorem K2:Def (hk w) mg "_law_lifted" (top 36) ["_law_stand", "_law_basis"] 208 (FD "_law_lifted" 36 j9 207):=dk Y (by kernel_rfl) fun _ _ _ _ _ _=>us2 fun _ _=>rfl
theorem N3:FnOk P w (hk w) mg base CX0 2 208 (FD "_law_lifted" 36 j9 207) ["_law_stand", "_law_basis"] (spM (hk w) 2 .F y6):=
 okF (K2 Y) Y1 (.inl rfl) rfl rfl fun hr=>(c6 (w8 PassesOwn.never rfl (F6 (qv .U 1)) (@d4 _ _ 2 _ Y1.nd rfl (by trivial) (by trivial)) i7 (b8 (i5 (n8 (i6 (f9 (qcD (N4 Y) (K3 Y) (a8 (qv .B 0) (a8 (qv .B 2) b6)))))) (b8 (d9 v9)) h9))) (b8 (d9 v9)))
theorem R3:Def (hk w) mg "_law_behind" (top 37) ["_law_stand", "_law_move_here"] 213 (FD "_law_behind" 37 j9 212):=dk Y (by kernel_rfl) fun _ _ _ _ _ _=>us2 fun _ _=>rfl
theorem Y3:FnOk P w (hk w) mg base CX0 1 213 (FD "_law_behind" 37 j9 212) ["_law_stand", "_law_move_here"] (spM (hk w) 2 .F F8):=
 okF (R3 Y) eJ (.inl rfl) rfl rfl fun hr=>(b8 (d9 (K9 K7 (K4 (c:=true)) (by rfl) (bl Y).tuple_ o7 (a8 (f9 (u6 (show g6 (b7 (top 37)) _ ["_law_stand", "_law_move_here"] ["_law_stand", "_law_move_here", "_law_p"] from by trivial) rfl (D9 (by rfl) (bl Y).range_ (a8 (j8 p8 p6 (by rfl) (bl Y).len_ PySem.boot_len (a8 (qv .B 0) b6)) b6)) (fun _ _ _ _=>(@d4 _ _ 2 _ (by decide +kernel:(["_law_stand", "_law_move_here", "_law_p"]:List Str).Nodup) rfl (Or.inl rfl) (.inr rfl))) i7 (y4 (show 2<=2 by decide)) (fun _ _ _ _=>z7) (fun _ _ _ _=>(e9 n4 w9 (e9 U4 cQ (g8 (e8 (qv .B 0) (qv .B 2))) (g8 (e8 (g8 (e8 (qv .B 1) c7)) (qv .B 2)))) (g8 (e8 (g8 (e8 (qv .B 1) c7)) (qv .B 2))))))) b6))))
theorem ao:Def (hk w) mg "_law_source" (top 38) ["_law_stand", "_law_move_here"] 218 (FD "_law_source" 38 j9 217):=dk Y (by kernel_rfl) fun _ _ _ _ _ _=>us2 fun _ _=>rfl
theorem eL:FnOk P w (hk w) mg base CX0 1 218 (FD "_law_source" 38 j9 217) ["_law_stand", "_law_move_here"] (spM (hk w) 2 .F N8):=
 okF (ao Y) eG (.inl rfl) rfl rfl fun hr=>(b8 (d9 (K9 K7 (K4 (c:=true)) (by rfl) (bl Y).tuple_ o7 (a8 (f9 (u6 (show g6 (b7 (top 38)) _ ["_law_stand", "_law_move_here"] ["_law_stand", "_law_move_here", "_law_p"] from by trivial) rfl (D9 (by rfl) (bl Y).range_ (a8 (j8 p8 p6 (by rfl) (bl Y).len_ PySem.boot_len (a8 (qv .B 0) b6)) b6)) (fun _ _ _ _=>(@d4 _ _ 2 _ (by decide +kernel:(["_law_stand", "_law_move_here", "_law_p"]:List Str).Nodup) rfl (Or.inl rfl) (.inr rfl))) i7 (y4 (show 2<=2 by decide)) (fun _ _ _ _=>z7) (fun _ _ _ _=>(e9 n4 w9 (g8 (e8 (g8 (e8 (qv .B 1) c7)) (qv .B 2))) (j8 (S7 rfl) (b_2 (g:=T8)) (by rfl) (bl Y).max_ cL (i9 (a8 (e9 U4 cQ (g8 (e8 (qv .B 0) (qv .B 2))) (g8 (e8 (g8 (e8 (qv .B 1) c7)) (qv .B 2)))) b6))))))) b6))))
theorem cH:Def (hk w) mg "_law_back" (top 39) ["_law_moves", "_law_basis"] 223 (FD "_law_back" 39 j9 222):=dk Y (by kernel_rfl) fun _ _ _ _ _ _=>us2 fun _ _=>rfl
theorem iB:FnOk P w (hk w) mg base CX0 3 223 (FD "_law_back" 39 j9 222) ["_law_moves", "_law_basis"] (spM (hk w) 2 .F M5):=
 okF (cH Y) C8 (.inl rfl) rfl rfl fun hr=>(c6 (l6 (i:=2) C8.nd rfl (by trivial) (K9 oz (ot (c:=false)) (by rfl) (bl Y).list_ P7 (a8 (qv .B 1) b6)) (by rfl) (by trivial)) (c6 (w8 PassesOwn.never rfl (F6 (qv .U 1)) (@d4 _ _ 3 _ C8.nd rfl (by trivial) (by trivial)) i7 (b8 (w8 PassesOwn.never rfl (F6 (qv .U 0)) (@d4 _ _ 4 _ C8.nd rfl (by trivial) (by trivial)) i7 (c6 (l6 (i:=5) C8.nd rfl (by trivial) (qcD (eL Y) (ao Y) (a8 (qv .B 3) (a8 (qv .B 4) b6))) (by rfl) (by trivial)) (b8 (i5 (C6 (n8 (i6 (f9 (qcD (N3 Y) (K2 Y) (a8 (qv .B 5) (a8 (qv .B 2) b6))))))) (b8 (O5 (l6 (i:=2) C8.nd rfl (by trivial) (e9 gd (gn (c:=true)) (f9 (u6 (show g6 (b7 (top 39)) _ ["_law_moves", "_law_basis", "_law_some", "_law_stand", "_law_move_here", "_law_origin"] ["_law_moves", "_law_basis", "_law_some", "_law_stand", "_law_move_here", "_law_origin", "_law_one"] from by trivial) rfl (Q3 (qv .B 2)) (fun _ _ _ _=>(@d4 _ _ 6 _ (by decide +kernel:(["_law_moves", "_law_basis", "_law_some", "_law_stand", "_law_move_here", "_law_origin", "_law_one"]:List Str).Nodup) rfl (Or.inl rfl) (.inr rfl))) i7 (y4 (show 6<=6 by decide)) (fun _ _ _ _=>(fQ (C6 (n8 (i6 (f9 (qcD (N4 Y) (K3 Y) (a8 (qv .B 6) (a8 (qv .B 5) b6))))))))) (fun _ _ _ _=>(qv .V 6)))) (f9 (w6 (a8 (qv .V 5) b6)))) (by rfl) (by trivial)))) h9)))))) (b8 (d9 (j8 cK (jF (c:=true)) (by rfl) (bl Y).sorted_ eD (a8 (qv .C 2) b6))))))
theorem aq:Def (hk w) mg "_law_enough" (top 40) ["_law_moves", "_law_target", "_law_most"] 230 (FD "_law_enough" 40 j9 229):=dk Y (by kernel_rfl) fun _ _ _ _ _ _=>us3 fun _ _ _=>rfl
theorem eM:FnOk P w (hk w) mg base CX0 4 230 (FD "_law_enough" 40 j9 229) ["_law_moves", "_law_target", "_law_most"] (spM (hk w) 3 .V N9):=
 okF (aq Y) C5 (.inr rfl) rfl rfl fun hr=>(c6 (l6 (i:=3) C5.nd rfl (by trivial) (w6 (a8 (qv .V 1) b6)) (by rfl) (by trivial)) (c6 (w8 PassesOwn.never rfl (D9 (by rfl) (bl Y).range_ (a8 (e9 n4 w9 (qv .B 2) c7) b6)) (@d4 _ _ 4 _ C5.nd rfl (by trivial) (by trivial)) i7 (c6 (i5 (k6 eV xGt (j8 p8 p6 (by rfl) (bl Y).len_ PySem.boot_len (a8 (qv .B 3) b6)) (qv .B 2)) (b8 (d9 S0)) h9) (c6 (l6 (i:=5) C5.nd rfl (by trivial) (qcD (iB Y) (cH Y) (a8 (qv .B 0) (a8 (qv .B 3) b6))) (by rfl) (by trivial)) (c6 (i5 (k6 (bT (X4 hr)) (bX (neg:=false)) (qv .B 5) (qv .B 3)) (b8 (@Z8 _ _ _ _ _ 3 _ _ (.inr rfl) (by rfl) (by trivial) (by decide) (by decide))) h9) (b8 (O5 (l5 (i:=3) C5.nd rfl (by trivial) (qv .V 5) (by rfl) (by trivial)))))))) (b8 (d9 S0))))
theorem aV:Def (hk w) mg "_law_flood" (top 41) ["_law_begin", "_law_moves", "_law_most"] 237 (FD "_law_flood" 41 j9 236):=dk Y (by kernel_rfl) fun _ _ _ _ _ _=>us3 fun _ _ _=>rfl
theorem gj:FnOk P w (hk w) mg base CX0 2 237 (FD "_law_flood" 41 j9 236) ["_law_begin", "_law_moves", "_law_most"] (spM (hk w) 3 .F Q9):=
 okF (aV Y) v8 (.inl rfl) rfl rfl fun hr=>(c6 (l6 (i:=3) v8.nd rfl (by trivial) (w6 (a8 (qv .V 0) b6)) (by rfl) (by trivial)) (c6 (l6 (i:=4) v8.nd rfl (by trivial) (w6 (a8 (n5 (w6 b6)) b6)) (by rfl) (by trivial)) (c6 (l5 (i:=5) v8.nd rfl (by trivial) c7 (by rfl) (by trivial)) (c6 (aF PassesOwn.never (k6 bR xLt (qv .B 5) (j8 p8 p6 (by rfl) (bl Y).len_ PySem.boot_len (a8 (qv .B 3) b6))) (c6 (w8 PassesOwn.never rfl (D9 (by rfl) (bl Y).range_ (a8 (j8 p8 p6 (by rfl) (bl Y).len_ PySem.boot_len (a8 (qv .B 1) b6)) b6)) (@d4 _ _ 6 _ v8.nd rfl (by trivial) (by trivial)) i7 (b8 (i5 (n8 (i6 (f9 (qcD (N4 Y) (K3 Y) (a8 (g8 (e8 (qv .B 3) (qv .B 5))) (a8 (g8 (e8 (g8 (e8 (qv .B 1) (qv .B 6))) c7)) b6)))))) (c6 (l6 (i:=7) v8.nd rfl (by trivial) (qcD (Y3 Y) (R3 Y) (a8 (g8 (e8 (qv .B 3) (qv .B 5))) (a8 (g8 (e8 (qv .B 1) (qv .B 6))) b6))) (by rfl) (by trivial)) (b8 (i5 (k6 (yF (X4 hr)) (Cf (neg:=true)) (qv .B 7) (qv .B 3)) (c6 (i5 (k6 O8 J9 (j8 p8 p6 (by rfl) (bl Y).len_ PySem.boot_len (a8 (qv .B 3) b6)) (qv .B 2)) (b8 (O5 (O5 (d9 (o5 (a8 (qv .V 3) (a8 (qv .V 4) (a8 v9 b6)))))))) h9) (c6 (O5 (@O6 _ _ _ _ _ _ _ 3 _ _ _ _ rfl (by trivial) (qv .V 7) (by decide) (by decide) (by rfl) (by rfl) (by rfl) (by rfl) (by rfl))) (b8 (@O6 _ _ _ _ _ _ _ 4 _ _ _ _ rfl (by trivial) (n5 (e9 gd (gn (c:=true)) (jZ (W7 (qv .C 4) (qv .C 5))) (f9 (w6 (a8 (qv .V 6) b6))))) (by decide) (by decide) (by rfl) (by rfl) (by rfl) (by rfl) (by rfl))))) h9))) h9))) (b8 (l5 (i:=5) v8.nd rfl (by trivial) (e9 n4 w9 (qv .B 5) c7) (by rfl) (by trivial))))) (b8 (O5 (O5 (d9 (o5 (a8 (qv .V 3) (a8 (qv .V 4) (a8 v9 b6))))))))))))
theorem eh:Def (hk w) mg "_law_led" (top 42) ["_law_moves", "_law_basis"] 242 (FD "_law_led" 42 j9 241):=dk Y (by kernel_rfl) fun _ _ _ _ _ _=>us2 fun _ _=>rfl
theorem kl:FnOk P w (hk w) mg base CX0 3 242 (FD "_law_led" 42 j9 241) ["_law_moves", "_law_basis"] (spM (hk w) 2 .F P1):=
 okF (eh Y) O3 (.inl rfl) rfl rfl fun hr=>(c6 (w8 PassesOwn.never rfl (F6 (qv .U 1)) (@d4 _ _ 2 _ O3.nd rfl (by trivial) (by trivial)) i7 (b8 (w8 PassesOwn.never rfl (F6 (qv .U 0)) (@d4 _ _ 3 _ O3.nd rfl (by trivial) (by trivial)) i7 (c6 (l6 (i:=4) O3.nd rfl (by trivial) (K9 K7 (K4 (c:=true)) (by rfl) (bl Y).tuple_ o7 (a8 (f9 (u6 (show g6 (b7 (top 42)) _ ["_law_moves", "_law_basis", "_law_stand", "_law_move_here", "_law_joint"] ["_law_moves", "_law_basis", "_law_stand", "_law_move_here", "_law_joint", "_law_p"] from by trivial) rfl (D9 (by rfl) (bl Y).range_ (a8 (j8 p8 p6 (by rfl) (bl Y).len_ PySem.boot_len (a8 (qv .B 2) b6)) b6)) (fun _ _ _ _=>(@d4 _ _ 5 _ (by decide +kernel:(["_law_moves", "_law_basis", "_law_stand", "_law_move_here", "_law_joint", "_law_p"]:List Str).Nodup) rfl (Or.inl rfl) (.inr rfl))) i7 (y4 (show 5<=5 by decide)) (fun _ _ _ _=>z7) (fun _ _ _ _=>(j8 (S7 rfl) (b_2 (g:=T8)) (by rfl) (bl Y).max_ cL (a8 (g8 (e8 (qv .B 2) (qv .B 5))) (a8 (g8 (e8 (g8 (e8 (qv .B 3) c7)) (qv .B 5))) b6)))))) b6)) (by rfl) (by trivial)) (b8 (i5 (C6 (n8 (i6 (f9 (qcD (N3 Y) (K2 Y) (a8 (i6 (f9 (qcD (Y3 Y) (R3 Y) (a8 (qv .B 4) (a8 (qv .B 3) b6))))) (a8 (qv .B 1) b6))))))) (b8 (d9 v9)) h9)))))) (b8 (d9 v9)))
theorem ar:Def (hk w) mg "_law_due" (top 43) ["_law_begin", "_law_moves", "_law_number", "_law_most"] 249 (FD "_law_due" 43 j9 248):=dk Y (by kernel_rfl) fun _ _ _ _ _ _=>us4 fun _ _ _ _=>rfl
theorem bW:FnOk P w (hk w) mg base CX0 5 249 (FD "_law_due" 43 j9 248) ["_law_begin", "_law_moves", "_law_number", "_law_most"] (spM (hk w) 4 .F P2):=
 okF (ar Y) E6 (.inl rfl) rfl rfl fun hr=>(c6 (l5 (i:=4) E6.nd rfl (by trivial) (qcD (eM Y) (aq Y) (a8 (qv .B 1) (a8 (g8 (e8 (g8 (e8 (qv .B 1) (qv .B 2))) c7)) (a8 (qv .B 3) b6)))) (by rfl) (by trivial)) (c6 (i5 (k6 mM mR (qv .B 4) S0) (b8 (d9 (o5 (a8 B9 b6)))) h9) (c6 (@BQ _ _ _ _ _ _ _ _ _ _ _ (n5 (qcD (gj Y) (aV Y) (a8 (qv .B 0) (a8 (qv .B 1) (a8 (qv .B 3) b6))))) (@E9 _ (hk w) _ _ _ _ 3 rfl (j5 (@d4 _ _ 5 _ E6.nd rfl (by trivial) (by trivial)) (j5 (@d4 _ _ 6 _ E6.nd rfl (by trivial) (by trivial)) (j5 (@d4 _ _ 7 _ E6.nd rfl (by trivial) (by trivial)) E8))) (by rfl) (by rfl) (by rfl)) (K0 (.inl rfl) (j6 (.inl rfl) qG (j6 (.inl rfl) qG (j6 (.inl rfl) qG F3)))) (by rfl) (by rfl) (by rfl)) (c6 (w8 PassesOwn.never rfl (D9 (by rfl) (bl Y).range_ (a8 (j8 p8 p6 (by rfl) (bl Y).len_ PySem.boot_len (a8 (qv .B 5) b6)) b6)) (@d4 _ _ 8 _ E6.nd rfl (by trivial) (by trivial)) i7 (b8 (i5 (C6 (n8 (i6 (f9 (qcD (N3 Y) (K2 Y) (a8 (g8 (e8 (qv .B 5) (qv .B 8))) (a8 (qv .B 4) b6))))))) (b8 (d9 (o5 (a8 B9 (a8 (W7 (qv .C 6) (qv .C 8)) (a8 (qv .V 4) b6)))))) h9))) (c6 (i5 (n8 (qv .B 7)) (b8 (d9 (o5 (a8 B9 (a8 (qv .V 5) b6))))) h9) (c6 (i5 (n8 (i6 (f9 (qcD (kl Y) (eh Y) (a8 (qv .B 1) (a8 (qv .B 4) b6)))))) (b8 (d9 (o5 (a8 B9 (a8 (qv .V 4) b6))))) h9) (b8 (d9 (o5 (a8 B9 b6))))))))))
theorem v6:Def (hk w) mg "_law_alike" (top 44) ["_law_found", "_law_due_here"] 254 (FD "_law_alike" 44 j9 253):=dk Y (by kernel_rfl) fun _ _ _ _ _ _=>us2 fun _ _=>rfl
theorem ok_law_alike:∀ d:Nat,FnOk P w (hk w) mg base CX0 (1+d) 254 (FD "_law_alike" 44 j9 253) ["_law_found", "_law_due_here"] (spM (hk w) 2 .F (f7 2 2 (x9 d)))
 | 0=>Cg
 | d+1=>by
  have ok_law_alike:=ok_law_alike d
  exact okF (v6 Y) fF (.inl rfl) rfl rfl fun hr=>(c6 (i5 (PW.pt (jW (n8 (j8 A8 M6 (by rfl) (bl Y).isinstance_ PyProof.Rows.boot_isinstance (a8 (qv .B 1) (a8 (@T4 _ _ _ _ _ _ _ (by rfl) (bl Y).tuple_ o7 (by decide) (by decide)) b6)))) (fP (n8 (j8 A8 M6 (by rfl) (bl Y).isinstance_ PyProof.Rows.boot_isinstance (a8 (qv .B 1) (a8 (@T4 _ _ _ _ _ _ _ (by rfl) (bl Y).list_ P7 (by decide) (by decide)) b6))))))) (c6 (i5 (PW.pt (jW (k6 ki gm (j8 A8 M6 (by rfl) (bl Y).isinstance_ PyProof.Rows.boot_isinstance (a8 (qv .B 1) (a8 (@T4 _ _ _ _ _ _ _ (by rfl) (bl Y).tuple_ o7 (by decide) (by decide)) b6))) (j8 A8 M6 (by rfl) (bl Y).isinstance_ PyProof.Rows.boot_isinstance (a8 (qv .B 0) (a8 (@T4 _ _ _ _ _ _ _ (by rfl) (bl Y).tuple_ o7 (by decide) (by decide)) b6)))) (fP (k6 ki gm (j8 A8 M6 (by rfl) (bl Y).isinstance_ PyProof.Rows.boot_isinstance (a8 (qv .B 1) (a8 (@T4 _ _ _ _ _ _ _ (by rfl) (bl Y).list_ P7 (by decide) (by decide)) b6))) (j8 A8 M6 (by rfl) (bl Y).isinstance_ PyProof.Rows.boot_isinstance (a8 (qv .B 0) (a8 (@T4 _ _ _ _ _ _ _ (by rfl) (bl Y).list_ P7 (by decide) (by decide)) b6))))))) (b8 (d9 v9)) h9) (c6 (i5 (k6 ki gm (j8 p8 p6 (by rfl) (bl Y).len_ PySem.boot_len (a8 (qv .B 0) b6)) (j8 p8 p6 (by rfl) (bl Y).len_ PySem.boot_len (a8 (qv .B 1) b6))) (b8 (d9 v9)) h9) (b8 (d9 (jX O8 J9 (j8 p8 p6 (by rfl) (bl Y).len_ PySem.boot_len (a8 (i6 (f9 (u6 (show g6 (b7 (top 44)) _ ["_law_found", "_law_due_here"] ["_law_found", "_law_due_here", "_law_k"] from by trivial) rfl (D9 (by rfl) (bl Y).range_ (a8 (j8 p8 p6 (by rfl) (bl Y).len_ PySem.boot_len (a8 (qv .B 1) b6)) b6)) (fun _ _ _ _=>(@d4 _ _ 2 _ (by decide +kernel:(["_law_found", "_law_due_here", "_law_k"]:List Str).Nodup) rfl (Or.inl rfl) (.inr rfl))) i7 (y4 (show 2<=2 by decide)) (fun _ _ _ _=>(fQ (C6 (n8 (i6 (f9 (mB ok_law_alike (.inl rfl) (by exact hr.mono (by first | exact Nat.le_refl _ | exact Nat.le_trans (by decide) (Nat.le_add_right _ d))) (by rfl) (v6 Y).m (v6 Y).F.kp (v6 Y).b (a8 (g8 (e8 (qv .B 0) (qv .B 2))) (a8 (g8 (e8 (qv .B 1) (qv .B 2))) b6))))))))) (fun _ _ _ _=>(qv .V 2))))) b6)) c7))))) h9) (c6 (i5 (n8 (j8 A8 M6 (by rfl) (bl Y).isinstance_ PyProof.Rows.boot_isinstance (a8 (qv .B 1) (a8 (@T4 _ _ _ _ _ _ _ (by rfl) (bl Y).int_ og (by decide) (by decide)) b6)))) (b8 (d9 (jY (j8 A8 M6 (by rfl) (bl Y).isinstance_ PyProof.Rows.boot_isinstance (a8 (qv .B 0) (a8 (@T4 _ _ _ _ _ _ _ (by rfl) (bl Y).int_ og (by decide) (by decide)) b6))) (jY (BM (j8 A8 M6 (by rfl) (bl Y).isinstance_ PyProof.Rows.boot_isinstance (a8 (qv .B 0) (a8 (@T4 _ _ _ _ _ _ _ (by rfl) (bl Y).bool_ wg (by decide) (by decide)) b6)))) (rP (jX (bT (X4 hr)) (bX (neg:=false)) (qv .B 0) (qv .B 1))))))) h9) (b8 (d9 (jY (j8 A8 M6 (by rfl) (bl Y).isinstance_ PyProof.Rows.boot_isinstance (a8 (qv .B 0) (a8 (@T4 _ _ _ _ _ _ _ (by rfl) (bl Y).str_ Bq (by decide) (by decide)) b6))) (rP (jX (bT (X4 hr)) (bX (neg:=false)) (qv .B 0) (qv .B 1))))))))
theorem Az:Def (hk w) mg "law" (top 45) ["_law_script"] 259 (FD "law" 45 j9 258):=dk Y (by kernel_rfl) fun _ _ _ _ _ _=>us1 fun _=>rfl
theorem Cd:FnOk P w (hk w) mg base CX0 8 259 (FD "law" 45 j9 258) ["_law_script"] (jR (hk w) 1 .F fg):=
 okNn (Az Y) w4 rfl rfl fun hr=>(m9 (@q_n _ _ _ _ _ _ (l5 (i:=1) w4.nd rfl (by trivial) (e9 n4 w9 c7 (e9 t7 (l7 (C:=l4) (g:=m5) (fun _ _=>rfl) (fun _ _ _=>.int)) (i6 (f9 (qcD (m7 Y) (n0 Y) (a8 (qv .B 0) (i9 b6))))) c7)) (by rfl) (by trivial)) (by first | exact .inl rfl | exact .inr rfl)) (m9 (@q_n _ _ _ _ _ _ (l5 (i:=2) w4.nd rfl (by trivial) (e9 n4 w9 c7 (e9 t7 (l7 (C:=l4) (g:=m5) (fun _ _=>rfl) (fun _ _ _=>.int)) (i6 (f9 (qcD (m7 Y) (n0 Y) (a8 (qv .B 0) (i9 b6))))) c7)) (by rfl) (by trivial)) (by first | exact .inl rfl | exact .inr rfl)) (m9 (@q_n _ _ _ _ _ _ (i5 (PW.pt (jW (k6 O8 J9 (qv .B 1) c7) (fP (PW.pt (mz (k6 O8 J9 (qv .B 1) c7) (iU (k6 O8 J9 (e9 t7 (l7 (C:=l4) (g:=m5) (fun _ _=>rfl) (fun _ _ _=>.int)) (e9 L0 (l7 (C:=B8) (g:=G7) (fun _ _=>rfl) (fun _ _ _=>.int)) (i6 (f9 (qcD (m7 Y) (n0 Y) (a8 (qv .B 0) (i9 b6))))) c7) c7) c7))))))) (b8 (l5 (i:=2) w4.nd rfl (by trivial) (e9 n4 w9 c7 (e9 t7 (l7 (C:=l4) (g:=m5) (fun _ _=>rfl) (fun _ _ _=>.int)) (e9 L0 (l7 (C:=B8) (g:=G7) (fun _ _=>rfl) (fun _ _ _=>.int)) (i6 (f9 (qcD (m7 Y) (n0 Y) (a8 (qv .B 0) (i9 b6))))) c7) (g8 (e8 (i6 (f9 (w6 (i9 (i9 b6))))) (e9 U4 cQ (qv .B 1) c7))))) (by rfl) (by trivial))) h9) (by first | exact .inl rfl | exact .inr rfl)) (m9 (@q_n _ _ _ _ _ _ (l5 (i:=3) w4.nd rfl (by trivial) c7 (by rfl) (by trivial)) (by first | exact .inl rfl | exact .inr rfl)) (m9 (@q_n _ _ _ _ _ _ (i5 (k6 O8 J9 (e9 t7 (l7 (C:=l4) (g:=m5) (fun _ _=>rfl) (fun _ _ _=>.int)) (i6 (f9 (qcD (m7 Y) (n0 Y) (a8 (qv .B 0) (i9 b6))))) c7) c7) (b8 (l5 (i:=3) w4.nd rfl (by trivial) (e9 n4 w9 c7 (e9 t7 (l7 (C:=l4) (g:=m5) (fun _ _=>rfl) (fun _ _ _=>.int)) (e9 L0 (l7 (C:=B8) (g:=G7) (fun _ _=>rfl) (fun _ _ _=>.int)) (i6 (f9 (qcD (m7 Y) (n0 Y) (a8 (qv .B 0) (i9 b6))))) c7) (e9 C9 (l7 (C:=CMulB) (g:=t9) (fun _ _=>rfl) (fun _ _ _=>.int)) c7 (e9 yE (l7 (C:=bC) (g:=qJ) (fun _ _=>rfl) (fun _ _ _=>.int)) c7 c7)))) (by rfl) (by trivial))) h9) (by first | exact .inl rfl | exact .inr rfl)) (m9 (@q_n _ _ _ _ _ _ (l5 (i:=4) w4.nd rfl (by trivial) (e9 n4 w9 c7 (e9 t7 (l7 (C:=l4) (g:=m5) (fun _ _=>rfl) (fun _ _ _=>.int)) (i6 (f9 (qcD (m7 Y) (n0 Y) (a8 (qv .B 0) (i9 b6))))) c7)) (by rfl) (by trivial)) (by first | exact .inl rfl | exact .inr rfl)) (m9 (@q_n _ _ _ _ _ _ (i5 (PW.pt (mz (k6 eV xGt (qv .B 1) c7) (iU (k6 O8 J9 (e9 t7 (l7 (C:=l4) (g:=m5) (fun _ _=>rfl) (fun _ _ _=>.int)) (e9 L0 (l7 (C:=B8) (g:=G7) (fun _ _=>rfl) (fun _ _ _=>.int)) (i6 (f9 (qcD (m7 Y) (n0 Y) (a8 (qv .B 0) (i9 b6))))) c7) c7) c7)))) (c6 (l5 (i:=2) w4.nd rfl (by trivial) (e9 n4 w9 c7 (e9 t7 (l7 (C:=l4) (g:=m5) (fun _ _=>rfl) (fun _ _ _=>.int)) (e9 L0 (l7 (C:=B8) (g:=G7) (fun _ _=>rfl) (fun _ _ _=>.int)) (i6 (f9 (qcD (m7 Y) (n0 Y) (a8 (qv .B 0) (i9 b6))))) c7) c7)) (by rfl) (by trivial)) (b8 (l5 (i:=4) w4.nd rfl (by trivial) (e9 n4 w9 c7 (e9 t7 (l7 (C:=l4) (g:=m5) (fun _ _=>rfl) (fun _ _ _=>.int)) (qv .B 4) c7)) (by rfl) (by trivial)))) h9) (by first | exact .inl rfl | exact .inr rfl)) (m9 (@q_n _ _ _ _ _ _ (l6 (i:=5) w4.nd rfl (by trivial) (w6 b6) (by rfl) (by trivial)) (by first | exact .inl rfl | exact .inr rfl)) (m9 (@q_n _ _ _ _ _ _ (w8 PassesOwn.never rfl (D9 (by rfl) (bl Y).range_ (a8 (qv .B 4) b6)) (@d4 _ _ 6 _ w4.nd rfl (by trivial) (by trivial)) i7 (b8 (@O6 _ _ _ _ _ _ _ 5 _ _ _ _ rfl (by trivial) (n5 (qcD (iA Y) (cG Y) (a8 (qv .B 0) (a8 (e9 n4 w9 c7 (e9 C9 (l7 (C:=CMulB) (g:=t9) (fun _ _=>rfl) (fun _ _ _=>.int)) (qv .B 1) (qv .B 6))) (a8 (qv .B 1) (a8 (qv .B 3) b6)))))) (by decide) (by decide) (by rfl) (by rfl) (by rfl) (by rfl) (by rfl)))) (by first | exact .inl rfl | exact .inr rfl)) (m9 (@q_n _ _ _ _ _ _ (l5 (i:=7) w4.nd rfl (by trivial) (e9 t7 (l7 (C:=l4) (g:=m5) (fun _ _=>rfl) (fun _ _ _=>.int)) (i6 (f9 (qcD (m7 Y) (n0 Y) (a8 (qv .B 0) (i9 b6))))) (j8 p8 p6 (by rfl) (bl Y).len_ PySem.boot_len (a8 (qv .B 5) b6))) (by rfl) (by trivial)) (by first | exact .inl rfl | exact .inr rfl)) (m9 (@q_n _ _ _ _ _ _ (l6 (i:=8) w4.nd rfl (by trivial) (K9 K7 (K4 (c:=true)) (by rfl) (bl Y).tuple_ o7 (a8 (f9 (u6 (show g6 (b7 (top 45)) _ ["_law_script", "_law_many", "_law_most", "_law_times", "_law_size", "_law_moves", "_law_k", "_law_number", "_law_begin", "_law_land", "_law_due_here", "_law_found", "_law_next_one", "_law_part"] ["_law_script", "_law_many", "_law_most", "_law_times", "_law_size", "_law_moves", "_law_k", "_law_number", "_law_begin", "_law_land", "_law_due_here", "_law_found", "_law_next_one", "_law_part", "_law_p"] from by trivial) rfl (D9 (by rfl) (bl Y).range_ (a8 (qv .B 1) b6)) (fun _ _ _ _=>(@d4 _ _ 14 _ (by decide +kernel:(["_law_script", "_law_many", "_law_most", "_law_times", "_law_size", "_law_moves", "_law_k", "_law_number", "_law_begin", "_law_land", "_law_due_here", "_law_found", "_law_next_one", "_law_part", "_law_p"]:List Str).Nodup) rfl (Or.inl rfl) (.inr rfl))) i7 (y4 (show 14<=14 by decide)) (fun _ _ _ _=>z7) (fun _ _ _ _=>(e9 C9 (l7 (C:=CMulB) (g:=t9) (fun _ _=>rfl) (fun _ _ _=>.int)) (e9 t7 (l7 (C:=l4) (g:=m5) (fun _ _=>rfl) (fun _ _ _=>.int)) (i6 (f9 (qcD (m7 Y) (n0 Y) (a8 (qv .B 0) (a8 (e9 n4 w9 c7 (qv .B 14)) b6))))) c7) (qv .B 3))))) b6)) (by rfl) (by trivial)) (by first | exact .inl rfl | exact .inr rfl)) (m9 (@q_n _ _ _ _ _ _ (l6 (i:=9) w4.nd rfl (by trivial) (o5 (a8 (qv .V 8) (a8 (n5 (K9 K7 (K4 (c:=true)) (by rfl) (bl Y).tuple_ o7 (a8 (qv .C 5) b6))) b6))) (by rfl) (by trivial)) (by first | exact .inl rfl | exact .inr rfl)) (m9 (@q_n _ _ _ _ _ _ (l6 (i:=10) w4.nd rfl (by trivial) (qcD (bW Y) (ar Y) (a8 (qv .B 8) (a8 (qv .B 5) (a8 (qv .B 7) (a8 (qv .B 2) b6))))) (by rfl) (by trivial)) (by first | exact .inl rfl | exact .inr rfl)) (m9 (@ud _ _ _ _ _ _ _ 11 _ _ _ _ _ _ _ _ _ _ _ _ w4.nd rfl (by trivial) (da Y) (by trivial) (by rfl) (V5 Y).m (V5 Y).F.kp (V5 Y).b (a8 (qv .B 9) (a8 (qv .B 7) (a8 (qv .B 2) b6))) (by decide) (by rfl) (by rfl) (by rfl) (by trivial)) (m9 (@q_n _ _ _ _ _ _ (i5 (C6 (n8 (i6 (f9 (qcD (ok_law_alike Y 6) (v6 Y) (a8 (qv .B 11) (a8 (qv .B 10) b6))))))) (b8 (d9 v9)) h9) (by first | exact .inl rfl | exact .inr rfl)) (m9 (@q_n _ _ _ _ _ _ (l5 (i:=12) w4.nd rfl (by trivial) (e9 t7 (l7 (C:=l4) (g:=m5) (fun _ _=>rfl) (fun _ _ _=>.int)) (e9 n4 w9 (qv .B 7) c7) (j8 p8 p6 (by rfl) (bl Y).len_ PySem.boot_len (a8 (qv .B 5) b6))) (by rfl) (by trivial)) (by first | exact .inl rfl | exact .inr rfl)) (m9 (@q_n _ _ _ _ _ _ (i5 (C6 (n8 (i6 (f9 (qcD (ok_law_alike Y 6) (v6 Y) (a8 (i6 (jZ (qcD (da Y) (V5 Y) (a8 (qv .B 9) (a8 (qv .B 12) (a8 (qv .B 2) b6)))))) (a8 (i6 (f9 (qcD (bW Y) (ar Y) (a8 (qv .B 8) (a8 (qv .B 5) (a8 (qv .B 12) (a8 (qv .B 2) b6))))))) b6))))))) (b8 (d9 v9)) h9) (by first | exact .inl rfl | exact .inr rfl)) (m9 (@q_n _ _ _ _ _ _ (i5 (C6 (n8 (i6 (f9 (qcD (ok_law_alike Y 6) (v6 Y) (a8 (qv .B 11) (a8 (qv .B 10) b6))))))) (b8 (d9 v9)) h9) (by first | exact .inl rfl | exact .inr rfl)) (m9 (@BL _ _ _ _ _ _ _ 11 13 _ _ _ _ _ _ _ _ _ _ _ _ PassesOwn.never rfl w4.nd rfl (by trivial) rfl (by trivial) (by trivial) (n5 (e9 uC uI (f9 (o5 (i9 b6))) (qv .C 1))) (by rfl) (by trivial) (by decide) (by decide) (by decide) (by decide) (by rfl) (by rfl) (by rfl) (by rfl) (by rfl) (by intro _; rfl)) (uf (@q_n _ _ _ _ _ _ (d9 (qcD (ok_law_alike Y 6) (v6 Y) (a8 (i6 (jZ (qcD (da Y) (V5 Y) (a8 (qv .B 9) (a8 (qv .B 7) (a8 (qv .B 2) b6)))))) (a8 (qv .B 10) b6)))) (by first | exact .inl rfl | exact .inr rfl))))))))))))))))))))))
end
def spLaw (K:Frag):Sp:=fun vs H Q _=>∃ (a:Addr) (ns:List Int),vs = [.ref a]/\SqL K H a (ns.map V.int)/\ns.length<=63/\(∀ x∈ns,Builtin.Int.intBits x<=1048576)/\cO H/\∀ H',Q (.bl true) H'
theorem all_ {l:PySem.W.OpenLaw} {w:World} {mg:Str->Option Value} {fa:Addr} (Y:En w mg) (hp:∀ ns:List Int,ns.length<=63->(∀ x∈ns,Builtin.Int.intBits x<=1048576)->fg [.scr (ns.map W.int)]=.ok (.bl true)) (e:mg "law" = some (.ref fa)):∃ fd:FuncData,(∀ (s:Shared) (v:Value),BindsTo s fd ⟨[v],[]⟩ [("_law_script",v)])/\∀ base:Heap,(hk w).In base->base.Ns mainGlobals mg->FnOk l.prog w (hk w) mg base CX0 8 fa fd ["_law_script"] (spLaw (hk w)):=by
 cases e.symm.trans (Az Y).m
 exact ⟨FD "law" 45 j9 258,fun s v=>.of_eq rfl,fun base _ _=>qr (Cd Y) hp⟩
end K85
open PySem PySem.W PyProof.Rows
namespace K85
def hxas:List Addr:=[2,3,15,22,23,25,28,40,42,43,52,53,59,60,64,65,69,70,76,77,83,84,88,89,93,94,100,101,105,106,110,111,117,118,124,125,131,132,138,139,143,144,150,151,155,156,160,161,167,168,174,175,179,180,186,187,193,194,200,201,207,208,212,213,217,218,222,223,229,230,236,237,241,242,248,249,253,254,258,259]
def view:Program:={ PySem.Challenge.pw_tokenmoor_k85_lost_moves_told with main:={ PySem.Challenge.pw_tokenmoor_k85_lost_moves_told.main with body:=[1,2,4,5,6,7,9,10,11,12,13,14,15,17,18,20,22,23,25,26,27,28,30,31,33,34,35,36,37,38,39,40,41,42,43,44,45].map top } }
def hook:PySem.W.Hook:=PySem.W.kHook nD hxas (fun _=>by kernel_rfl)
end K85
set_option maxHeartbeats 0 in
theorem PySem.Challenge.cw_tokenmoor_k85_lost_moves_told_holds : PySem.Challenge.rw_tokenmoor_k85_lost_moves_told.Holds := by
 w_on; o_law
 refine holds_open (q:=K85.view) (loose:=[]) (Xt:=fun s=>xlAt K85.view [] s&&recOk [] s) (XP:=XL K85.view [])
  (Yf:=K85.hook.obs) (Ya:=K85.hook.val) (YP:=K85.hook.says) (N:=3224) ?hl K85.hook.of K85.hook.keeps
  (fun s e=>xl_of s (Bool.and_eq_true_iff.mp e).1) XL.keeps (by rfl) (by rfl) (by rfl)
  (fun s e=>recFacts_of (Bool.and_eq_true_iff.mp e).2) (by rfl) (by first | assumption | decide +kernel)
  (by decide +kernel) ⟨rfl,rfl,rfl,rfl,rfl,by decide +kernel⟩ ?hw ?hc
 (case hl=>intro w; kernel_rfl)
 (case hw=>w_witness2)
 refine L2.walk_ofKB (l:=PySem.Challenge.rw_tokenmoor_k85_lost_moves_told) (n:=63) (k:=8) (x := "_law_script") (CX:=L2.CX0) (sp:=K85.spLaw) rfl (by decide) rfl ⟨rfl,by decide,by decide⟩ (fun w h Y=>PySem.W.kIn_of Y)
  (fun w mg fa h X G e=>K85.all_ ⟨h,X,G⟩ K85.law_pure e)
  (fun K H a ns hl hb hO hS=>⟨a,ns,rfl,hS,hl,hb,TP.noLst_of hO,fun _=>rfl⟩) fun _ _ _ _ z=>z
