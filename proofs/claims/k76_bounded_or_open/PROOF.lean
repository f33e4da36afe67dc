import PyProof.Rows.All
import Wide.All
import OpenK.AllK
import Wide.FinOn
import Lean
import PyProof.EqAt
import PyProof.EqKinds
import PyProof.TupleCall
import PyProof.ZipIter
import PyProof.TupleIter
import PyProof.WalksMore
import PyProof.EnumMake
import PyProof.Draws
import PyProof.P3In
import KE.KSortTup
import PyProof.Rows.SortWalk
import KE.KMinKey
import KE.KLam
import KE.KNestM
import KE.IntBitsLaws
import KE.KRevIter
import PyProof.TupleOfGen
import PySem.Challenge.RW_tokenmoor_k76_bounded_or_open
open PySem.W (Frag)
set_option Elab.async false
set_option linter.all false
set_option maxRecDepth 100000
theorem Z1 {p q:Prop} (a:p) (b:q):p/\q:=⟨a,b⟩
noncomputable section
local macro_rules | `(tactic| omega)=>`(tactic| first | with_reducible assumption | decide | lia)
set_option genSizeOf false
set_option genSizeOfSpec false
namespace L2
open PySem PySem.Spec PyProof.Rows
abbrev Key:=Sum Int Str
def aO:Key->Value->Bool
 | .inl k,v=>Value.isInt k v
 | .inr x,v=>Value.isStrOf x v
def keyH (w:World):Key->Int
 | .inl k=>hashInt k
 | .inr x=>hashStr w x
theorem t8:∀ {k:Key} {v:Value},aO k v=true->(∃ i t,k=Sum.inl i/\v=Value.int i t)\/(∃ x t,k=Sum.inr x/\v=Value.str x t)
 | .inl i,v,h=>by
  obtain ⟨t,e⟩:=Value.isInt_shape (k:=i) (v:=v) h
  exact .inl ⟨i,t,rfl,e⟩
 | .inr x,v,h=>by
  obtain ⟨t,e⟩:=Value.isStrOf_shape (x:=x) (v:=v) h
  exact .inr ⟨x,t,rfl,e⟩
theorem mO (i:Int) (t:Tok):aO (.inl i) (.int i t)=true:=by simp [aO,Value.isInt]
theorem mN (x:Str) (t:Tok):aO (.inr x) (.str x t)=true:=by simp [aO,Value.isStrOf]
theorem xX (a b:Int):decide ((Sum.inl a:Key)=Sum.inl b)=(a == b):=by
 by_cases e:a=b
 ·subst e; simp
 ·have h:¬ (Sum.inl a:Key)=Sum.inl b:=fun q=>e (Sum.inl.inj q)
  rw [decide_eq_false h]
  exact (beq_eq_false_iff_ne.mpr e).symm
theorem xU (a b:Str):decide ((Sum.inr a:Key)=Sum.inr b)=decide (a=b):=by
 by_cases e:a=b
 ·subst e; simp
 ·have h:¬ (Sum.inr a:Key)=Sum.inr b:=fun q=>e (Sum.inr.inj q)
  rw [decide_eq_false h,decide_eq_false e]
theorem xW (a:Int) (b:Str):decide ((Sum.inl a:Key)=Sum.inr b)=false:=decide_eq_false (fun q=>nomatch q)
theorem xV (a:Str) (b:Int):decide ((Sum.inr a:Key)=Sum.inl b)=false:=decide_eq_false (fun q=>nomatch q)
def t4 (prog:Program) (w:World):PySem.KeyKind prog w Key where
 is:=aO
 hash:=keyH w
 inj:=fun v a b ha hb=>by
  rcases t8 ha with ⟨i,t,rfl,rfl⟩ | ⟨x,t,rfl,rfl⟩
  ·rcases t8 hb with ⟨j,u,rfl,e⟩ | ⟨y,u,rfl,e⟩
   ·injection e with e1 _; rw [e1]
   ·exact nomatch e
  ·rcases t8 hb with ⟨j,u,rfl,e⟩ | ⟨y,u,rfl,e⟩
   ·exact nomatch e
   ·injection e with e1 _; rw [e1]
 byValue:=fun k v h=>by
  rcases t8 h with ⟨i,t,rfl,rfl⟩ | ⟨x,t,rfl,rfl⟩ <;> rfl
 pyHash:=fun hv h=>by
  rcases t8 hv with ⟨i,t,rfl,rfl⟩ | ⟨x,t,rfl,rfl⟩
  ·exact wpAny_pyHash_int h
  ·exact wpAny_pyHash_str h
 eqBool:=fun hu hv h=>by
  rcases t8 hu with ⟨i,t,rfl,rfl⟩ | ⟨x,t,rfl,rfl⟩
  ·rcases t8 hv with ⟨j,u,rfl,rfl⟩ | ⟨y,u,rfl,rfl⟩
   ·rw [xX] at h; exact wpAny_eqBool_int h
   ·rw [xW] at h; exact SeqAt.EqAt.int_str i t y u _ _ _ _ h
  ·rcases t8 hv with ⟨j,u,rfl,rfl⟩ | ⟨y,u,rfl,rfl⟩
   ·rw [xV] at h; exact SeqAt.EqAt.str_int x t j u _ _ _ _ h
   ·rw [xU] at h; exact wpAny_eqBool_str h
 «strs»:=fun k x t v h=>by
  rcases t8 h with ⟨i,u,rfl,e⟩ | ⟨y,u,rfl,e⟩
  ·exact nomatch e
  ·injection e with e1 _
   subst e1
   cases v <;> rfl
theorem ij (prog:Program) (w:World) (i:Int) (t:Tok):(t4 prog w).is (.inl i) (.int i t)=true:=mO i t
theorem ii (prog:Program) (w:World) (x:Str) (t:Tok):(t4 prog w).is (.inr x) (.str x t)=true:=mN x t
end L2
namespace L2
open PySem PySem.Spec PyProof.Rows
inductive V where
 | non | bl (b:Bool) | int (i:Int) | str (x:Str) | byt (b:Array UInt8) | flt (b:UInt64) | ref (a:Addr) | ty (n:String)
 deriving DecidableEq
def RelV:V->Value->Prop
 | .non,u=>u=Value.none
 | .bl b,u=>u=Value.bool b
 | .int i,u=>∃ t,u=Value.int i t
 | .str x,u=>∃ t,u=Value.str x t
 | .byt b,u=>∃ t,u=Value.bytes b t
 | .flt b,u=>∃ t,u=Value.float b t
 | .ref a,u=>u=Value.ref a
 | .ty n,u=>u=Value.type n
abbrev Vals:List V->List Value->Prop:=Paired RelV
theorem Vals.length {xs:List V} {us:List Value} (r:Vals xs us):xs.length=us.length:=Paired.length r
theorem Vals.get:∀ {xs:List V} {us:List Value} {i:Nat} {x:V},Vals xs us->xs[i]?=some x->∃ u,us[i]?=some u/\RelV x u:=by
 intro xs us i x a
 induction a generalizing i with
 | nil=>intro e; cases e
 | cons r t ih=>
  intro e
  cases i with
  | zero=>cases e; exact ⟨_,rfl,r⟩
  | succ i=>exact ih e
theorem Vals.set {x:V} {u:Value} (r:RelV x u):∀ {xs:List V} {us:List Value} (i:Nat),Vals xs us->Vals (xs.set i x) (us.set i u):=by
 intro xs us i h
 induction h generalizing i with
 | nil=>exact .nil
 | cons q t ih=>
  cases i with
  | zero=>exact .cons r t
  | succ i=>exact .cons q (ih i)
theorem Vals.append:∀ {xs ys:List V} {us ws:List Value},Vals xs us->Vals ys ws->Vals (xs++ys) (us++ws):=by
 intro xs ys us ws a s
 induction a with
 | nil=>exact s
 | cons r t ih=>exact .cons r ih
theorem Vals.take:∀ {xs:List V} {us:List Value} (n:Nat),Vals xs us->Vals (xs.take n) (us.take n):=by
 intro xs us n h
 induction h generalizing n with
 | nil=>cases n <;> exact .nil
 | cons r t ih=>
  cases n with
  | zero=>exact .nil
  | succ n=>exact .cons r (ih n)
theorem Vals.drop:∀ {xs:List V} {us:List Value} (n:Nat),Vals xs us->Vals (xs.drop n) (us.drop n)
 | _,_,0,r=>r
 | _,_,_+1,.nil=>.nil
 | _,_,n+1,.cons _ t=>Vals.drop n t
def RelO:Option V->Option Value->Prop
 | some v,some u=>RelV v u
 | none,none=>True
 | _,_=>False
def KV {κ:Type}:List (κ×V)->List (κ×Value)->Prop:=Paired fun (p:κ×V) (q:κ×Value)=>p.1=q.1/\RelV p.2 q.2
def kV:Key->V
 | .inl i=>.int i
 | .inr x=>.str x
inductive HO where
 | lst (xs:List V)
 | tup (xs:List V)
 | dK (kvs:List (Key×V)) | dT (kvs:List (List Key×V))
 | set (S:Int->Bool) (n:Nat)
 | ins (C dx:Addr) (fs:List (Str×V))
 | own (x:Addr)
 | xd (fs:List (Str×V))
 | met (f x:Addr)
 | rng (lo hi:Int)
 | frz (o:Obj) (u:HO)
 | tbl (k:Nat×Nat×Str)
 | ext (φ:Heap->Prop)
abbrev Hp:=Addr->Option HO
@[irreducible] def lamT:List (Addr×Nat×Nat×Str):=[(99,55,26, "leaving.<locals>.<lambda>")]
def vB (q:Str) (oc:Obj):Prop:=∃ vs t,oc.data=.fields vs/\vs[1]?=some (.str q t)
def upd (H:Hp) (a:Addr) (o:HO):Hp:=fun b=>if b=a then some o else H b
theorem g8 {H:Hp} {a:Addr} {o:HO}:upd H a o a=some o:=by unfold upd; rw [if_pos rfl]
theorem c7 {H:Hp} {a b:Addr} {o:HO} (h:b≠a):upd H a o b=H b:=by unfold upd; rw [if_neg h]
theorem rA {H:Hp} {a b:Addr} {o u:HO} (h:H a=some o) (h':H b=some u) (d:o≠u):a≠b:=by
 intro e; subst e; rw [h] at h'; exact d (Option.some.inj h')
theorem d9 {H:Hp} {a b:Addr} {o:HO} (h:H a=some o) (h':H b=none):a≠b:=by
 intro e; subst e; rw [h] at h'; cases h'
section
variable (P:Program) (w:World)
def ObjOk (H:Hp) (h:Heap) (a:Addr):HO->Prop
 | .lst xs=>xs.length<=sizeLine/\∃ (its:List Value) (n:Nat),Vals xs its/\h.get? a=some { cls:=.type "list",data:=.seq its.toArray n }
 | .tup xs=>xs.length<=sizeLine/\∃ its:List Value,Vals xs its/\IsTup h a its.toArray
 | .dK kvs=>kvs.length<=sizeLine/\(a == sysModules)=false/\∃ vs,KV kvs vs/\h.DictOf (t4 P w) a vs
 | .dT kvs=>kvs.length<=sizeLine/\(a == sysModules)=false/\∃ xs:List (List Key×Addr×Value),
   Paired (fun (p:List Key×V) (q:List Key×Addr×Value)=>p.1=q.1/\H q.2.1=some (.tup (p.1.map kV))/\RelV p.2 q.2.2) kvs xs /\
   ∃ o es ep,h.get? a=some o/\o.ExactDict/\o.data=.dict es ep/\es.toList=xs.map (entryOfKey (tupleKind (t4 P w)))/\(xs.map (·.1)).Nodup
 | .set S n=>h.SetOf (intKind P w) a S n
 | .ins C dx fs=>H dx=some (.own a)/\fs.length<=1000/\dx≠a/\h.get? a=some (PySem.W.instObj C dx) /\
   ∃ mA,h.Ns1 dx mA/\(∀ f,RelO (fs.lookup f) (mA f))/\PySem.Within mA (fs.map (·.1))
 | .own _=>∃ o,h.get? a=some o
 | .xd fs=>∃ mA,h.Ns1 a mA/\∀ f,RelO (fs.lookup f) (mA f)
 | .rng lo hi=>∃ t u v,h.get? a=some { cls:=.type "range",data:=.fields #[.int lo t,.int hi u,.int 1 v] }
 | .frz o u=>h.get? a=some o/\ObjOk H h a u
 | .tbl k=>∃ ps:Array Value,h.get? a=some { cls:=.none,data:=.fields ps }/\(ps=#[]\/∃ c' oc,ps=#[rawInt k.1,rawInt k.2.1,.ref c']/\H c'=some (.own a)/\c'≠a/\h.get? c'=some oc/\vB k.2.2 oc)
 | .met f x=>h.get? a=some (PySem.W.methodObj (.ref f) (.ref x))
 | .ext φ=>φ h/\(∃ o,h.get? a=some o)/\∀ h1 h2:Heap,φ h1->(∀ o,h1.get? a=some o->h2.get? a=some o)->φ h2
def HOk (H:Hp) (h:Heap):Prop:=∀ a o,H a=some o->ObjOk P w H h a o
end
section
variable {P:Program} {w:World} {H H':Hp} {h h':Heap} {a:Addr} {o:HO}
theorem ObjOk.lt (x:ObjOk P w H h a o):a<h.objs.size:=by
 cases o with
 | lst xs=>obtain ⟨_,_,_,_,e⟩:=x; exact Heap.lt_size e
 | tup xs=>obtain ⟨_,_,_,p⟩:=x; exact p.lt
 | dK kvs=>obtain ⟨_,_,_,_,o,_,_,e,_⟩:=x; exact Heap.lt_size e
 | dT kvs=>obtain ⟨_,_,_,_,o,_,_,e,_⟩:=x; exact Heap.lt_size e
 | set S n=>obtain ⟨o,_,_,_,e,_⟩:=x; exact Heap.lt_size e
 | ins C dx fs=>obtain ⟨_,_,_,e,_⟩:=x; exact Heap.lt_size e
 | own y=>obtain ⟨_,e⟩:=x; exact Heap.lt_size e
 | xd fs=>obtain ⟨_,⟨_,_,_,e,_⟩,_⟩:=x; exact Heap.lt_size e
 | rng lo hi=>obtain ⟨_,_,_,e⟩:=x; exact Heap.lt_size e
 | frz ob u=>obtain ⟨e,_⟩:=x; exact Heap.lt_size e
 | tbl k=>obtain ⟨_,e,_⟩:=x; exact Heap.lt_size e
 | met f y=>exact Heap.lt_size (show h.get? a=some _ from x)
 | ext φ=>obtain ⟨_,⟨_,e⟩,_⟩:=x; exact Heap.lt_size e
theorem Paired.mapP {α β:Type} {F G:α->β->Prop}:∀ {l₁:List α} {l₂:List β},Paired F l₁ l₂->(∀ a b,F a b->G a b)->Paired G l₁ l₂:=by
 intro l₁ l₂ h f
 induction h with
 | nil=>exact .nil
 | cons r t ih=>exact .cons (f _ _ r) ih
theorem ObjOk.stay (x:ObjOk P w H h a o) (k:∀ b u,(b=a\/H b=some (.own a))->h.get? b=some u->h'.get? b=some u)
  (ho:∀ b,H b=some (.own a)->H' b=some (.own a)) (ht:∀ b xs,H b=some (.tup xs)->H' b=some (.tup xs)):ObjOk P w H' h' a o:=by
 induction o with
 | lst xs=>obtain ⟨z,its,n,r,e⟩:=x; exact ⟨z,its,n,r,k _ _ (.inl rfl) e⟩
 | tup xs=>obtain ⟨z,its,r,ob,e,c⟩:=x; exact ⟨z,its,r,ob,k _ _ (.inl rfl) e,c⟩
 | dK kvs=>obtain ⟨z,y,vs,r,ob,es,ep,e,c⟩:=x; exact ⟨z,y,vs,r,ob,es,ep,k _ _ (.inl rfl) e,c⟩
 | dT kvs=>
  obtain ⟨z,y,xs,r,ob,es,ep,e,c⟩:=x
  exact ⟨z,y,xs,Paired.mapP r fun p q z=>⟨z.1,ht _ _ z.2.1,z.2.2⟩,ob,es,ep,k _ _ (.inl rfl) e,c⟩
 | set S n=>obtain ⟨ob,es,ep,t,e,c⟩:=x; exact ⟨ob,es,ep,t,k _ _ (.inl rfl) e,c⟩
 | ins C dx fs=>
  obtain ⟨d,z,ne,e,mA,⟨od,es,ep,e2,c⟩,r⟩:=x
  exact ⟨ho _ d,z,ne,k _ _ (.inl rfl) e,mA,⟨od,es,ep,k _ _ (.inr d) e2,c⟩,r⟩
 | own y=>obtain ⟨ob,e⟩:=x; exact ⟨ob,k _ _ (.inl rfl) e⟩
 | xd fs=>obtain ⟨mA,⟨od,es,ep,e,c⟩,r⟩:=x; exact ⟨mA,⟨od,es,ep,k _ _ (.inl rfl) e,c⟩,r⟩
 | rng lo hi=>obtain ⟨t,u,v,e⟩:=x; exact ⟨t,u,v,k _ _ (.inl rfl) e⟩
 | frz ob u ih=>obtain ⟨e,q⟩:=x; exact ⟨k _ _ (.inl rfl) e,ih q⟩
 | tbl q=>
  obtain ⟨ps,e,r⟩:=x
  exact ⟨ps,k a _ (.inl rfl) e,r.imp id fun zz1=>by obtain ⟨c',oc,e1,e2,ne,e3,e4⟩:=zz1; exact ⟨c',oc,e1,ho _ e2,ne,k c' _ (.inr e2) e3,e4⟩⟩
 | met f y=>
  have e:h.get? a=some (PySem.W.methodObj (.ref f) (.ref y)):=x
  show h'.get? a=some (PySem.W.methodObj (.ref f) (.ref y))
  exact k a _ (.inl rfl) e
 | ext φ=>obtain ⟨p,⟨o,e⟩,st⟩:=x; exact ⟨st _ _ p fun o q=>k _ _ (.inl rfl) q,⟨o,k _ _ (.inl rfl) e⟩,st⟩
theorem HOk.lt (x:HOk P w H h) (e:H a=some o):a<h.objs.size:=(x a o e).lt
theorem HOk.fresh (x:HOk P w H h) (e:h.objs.size<=a):H a=none:=by
 cases q:H a with
 | none=>rfl
 | some u=>exact absurd (Nat.lt_of_lt_of_le (x.lt q) e) (Nat.lt_irrefl _)
theorem HOk.kept (x:HOk P w H h) (k:∀ b u,h.get? b=some u->h'.get? b=some u):HOk P w H h':=fun a o e=>
 (x a o e).stay (fun b u _ q=>k b u q) (fun _ q=>q) fun _ _ q=>q
theorem HOk.laid (x:HOk P w H h) (k:∀ b u,h.get? b=some u->h'.get? b=some u) (hp:h.objs.size<=a) (new:ObjOk P w (upd H a o) h' a o):HOk P w (upd H a o) h':=fun b u e=>by
 have hn:=x.fresh hp
 by_cases hb:b=a
 ·subst hb; rw [g8] at e; cases e; exact new
 ·rw [c7 hb] at e
  exact (x b u e).stay (fun c v _ q=>k c v q) (fun c q=>by rw [c7 (d9 q hn)]; exact q) fun c xs q=>by rw [c7 (d9 q hn)]; exact q
end
def Rd (H:Hp) (a:Addr) (u:HO):Prop:=H a=some u\/∃ o,H a=some (.frz o u)
theorem Rd.ok {P:Program} {w:World} {H:Hp} {h:Heap} {a:Addr} {u:HO} (r:Rd H a u) (x:HOk P w H h):ObjOk P w H h a u:=by
 rcases r with r | ⟨o,r⟩
 ·exact x a u r
 ·obtain ⟨_,q⟩:=x a _ r
  exact q
def Mut:Option HO->Prop
 | some (.lst _)=>True
 | some (.dK _)=>True
 | some (.dT _)=>True
 | some (.set _ _)=>True
 | some (.ins _ _ _)=>True
 | some (.ext _)=>True
 | _=>False
section
variable {P:Program} {w:World} {H:Hp} {h h':Heap} {x e:Addr} {o':HO}
theorem HOk.write (ok:HOk P w H h) (mu:Mut (H x)) (he:e=x\/H e=some (.own x)) (k:∀ b u,b≠e->h.get? b=some u->h'.get? b=some u) (heo:∃ u,h'.get? e=some u)
  (new:ObjOk P w (upd H x o') h' x o'):HOk P w (upd H x o') h':=fun b u q=>by
 have nown:∀ c y,H c=some (.own y)->c≠x:=fun c y r z=>by subst z; rw [r] at mu; exact mu
 have ntup:∀ c xs,H c=some (.tup xs)->c≠x:=fun c xs r z=>by subst z; rw [r] at mu; exact mu
 by_cases hb:b=x
 ·subst hb; rw [g8] at q; cases q; exact new
 ·rw [c7 hb] at q
  by_cases hbe:b=e
  ·have q':H b=some (.own x):=by
    rcases he with z | z
    ·exact absurd (hbe.trans z) hb
    ·rw [hbe]; exact z
   rw [q] at q'; cases q'
   obtain ⟨v,hv⟩:=heo
   exact ⟨v,by rw [hbe]; exact hv⟩
  ·refine (ok b u q).stay (fun c v hc r=>k c v ?_ r) (fun c r=>by rw [c7 (nown c b r)]; exact r) fun c xs r=>by rw [c7 (ntup c xs r)]; exact r
   rcases hc with rfl | hc
   ·exact hbe
   ·rintro rfl
    rcases he with z | z
    ·exact nown c b hc z
    ·rw [hc] at z; cases z; exact hb rfl
end
structure Un (fs ex:List Addr) (H H':Hp) (h h':Heap):Prop where
 keep:∀ b o,h.get? b=some o->H b=none->b∉fs->b∉ex->h'.get? b=some o
 slot:∀ b o,h.get? b=some o->H b=none->b∈fs->b∉ex->∃ sl,h'.get? b=some { o with slots:=sl }
 free:∀ b o,h.get? b=some o->H b=none->b∉ex->H' b=none
 there:∀ b o,h.get? b=some o->b∉ex->∃ o',h'.get? b=some o'
 tups:∀ b xs,H b=some (.tup xs)->H' b=some (.tup xs)
 frzs:∀ b o u,H b=some (.frz o u)->H' b=some (.frz o u)
 tbls:∀ b k,H b=some (.tbl k)->H' b=some (.tbl k)
section
variable {fs fs' ex ex':List Addr} {H H1 H2:Hp} {h h1 h2 h':Heap} {a x e:Addr} {o:HO}
theorem Un.any (u:Un fs ex H H1 h h1) {b:Addr} {ob:Obj} (q:h.get? b=some ob) (n:H b=none) (hx:b∉ex):∃ sl,h1.get? b=some { ob with slots:=sl }:=by
 by_cases hb:b∈fs
 ·exact u.slot b ob q n hb hx
 ·exact ⟨ob.slots,u.keep b ob q n hb hx⟩
theorem Un.kept (k:∀ b u,h.get? b=some u->h'.get? b=some u):Un fs ex H H h h':=
 ⟨fun b ob q _ _ _=>k b ob q,fun b ob q _ _ _=>⟨ob.slots,k b ob q⟩,fun _ _ _ n _=>n,fun b ob q _=>⟨ob,k b ob q⟩,fun _ _ q=>q,fun _ _ _ q=>q,fun _ _ q=>q⟩
theorem Un.refl:Un fs ex H H h h:=Un.kept fun _ _ q=>q
theorem Un.laid (k:∀ b u,h.get? b=some u->h'.get? b=some u) (hp:h.objs.size<=a) (hn:H a=none):Un fs ex H (upd H a o) h h' where
 keep:=fun b u q _ _ _=>k b u q
 slot:=fun b u q _ _ _=>⟨u.slots,k b u q⟩
 free:=fun b u q n _=>by rw [c7 (Nat.ne_of_lt (Nat.lt_of_lt_of_le (Heap.lt_size q) hp))]; exact n
 there:=fun b u q _=>⟨u,k b u q⟩
 tups:=fun b xs q=>by rw [c7 (d9 q hn)]; exact q
 frzs:=fun b u xs q=>by rw [c7 (d9 q hn)]; exact q
 tbls:=fun b k q=>by rw [c7 (d9 q hn)]; exact q
theorem Un.write (mu:Mut (H x)) (he:e=x\/H e=some (.own x)) (k:∀ b u,b≠e->h.get? b=some u->h'.get? b=some u) (heo:∃ u,h'.get? e=some u):Un fs ex H (upd H x o) h h':=by
 have hx:∀ b,H b=none->b≠x:=fun b n z=>by subst z; rw [n] at mu; exact mu
 have hb:∀ b,H b=none->b≠e:=fun b n z=>by
  subst z
  rcases he with r | r
  ·exact hx b n r
  ·rw [n] at r; cases r
 have hm:∀ b u,H b=some u->¬ Mut (some u)->b≠x:=fun b u q nm z=>by subst z; rw [q] at mu; exact nm mu
 refine ⟨fun b u q n _ _=>k b u (hb b n) q,fun b u q n _ _=>⟨u.slots,k b u (hb b n) q⟩,fun b u q n _=>by rw [c7 (hx b n)]; exact n,fun b u q _=>?_,
  fun b xs q=>by rw [c7 (hm b _ q fun z=>z)]; exact q,fun b u xs q=>by rw [c7 (hm b _ q fun z=>z)]; exact q,fun b k q=>by rw [c7 (hm b _ q fun z=>z)]; exact q⟩
 by_cases hbe:b=e
 ·subst hbe; exact heo
 ·exact ⟨u,k b u hbe q⟩
end
def trk (h:Heap) (H:Hp):List Addr:=(List.range h.objs.size).filter fun a=>(H a).isSome
def X1 (h:Heap) (H:Hp):Heap:=PySem.W.hideAll h (trk h H)
theorem nh (h:Heap) (H:Hp):(X1 h H).objs.size=h.objs.size:=PySem.W.hideAll_size _ _
theorem pZ {h:Heap} {H:Hp} {b:Addr} {o:Obj} (e:h.get? b=some o) (n:H b=none):(X1 h H).get? b=some o:=
 PySem.W.hideAll_get _ e fun hm=>by
  have q:(H b).isSome=true:=(List.mem_filter.mp hm).2
  rw [n] at q; simp at q
theorem tR {h:Heap} {H:Hp} {b:Addr} {o:Obj} (e:(X1 h H).get? b=some o):h.get? b=some o/\H b=none:=by
 have e':h.get? b=some o:=PySem.W.of_hideAll (trk h H) e
 refine ⟨e',?_⟩
 cases q:H b with
 | none=>rfl
 | some x=>
  have hm:b∈trk h H:=List.mem_filter.mpr ⟨List.mem_range.mpr (Heap.lt_size e'),by simp [q]⟩
  have z:(X1 h H).get? b=none:=PySem.W.hideAll_none (trk h H) hm
  rw [z] at e; cases e
def vt (g h:Heap) (L:Addr):List (Addr×Obj):=(List.range h.objs.size).filterMap fun a=>if a=L\/(g.get? a).isSome=true then none else (h.get? a).map fun o=>(a,o)
def rest (g h:Heap) (L d:Addr):List (Addr×Obj):=(vt g h L).filter fun p=>decide (p.1≠d)
end L2
namespace L2
open PySem PySem.Spec PyProof.Rows
structure Mod (K:Frag) (mg:Str->Option Value) (base:Heap):Prop where
 kin:K.In base
 glob:base.Ns mainGlobals mg
 blt:∃ mb,base.Ns builtinsNs mb/\∀ x:Str,x ≠ "__name__" -> mb x=bootBuiltins x
 nolimit:base.NoLimit
 bmain:∃ bm o,mg "__builtins__" = some (.ref bm)/\bm≠builtinsNs/\base.get? bm=some o/\o.cls=.type "module" /\ o.dict=some builtinsNs/\o.data=.plain
structure Cx where
 prog:Program
 w:World
 K:Frag
 mg:Str->Option Value
 base:Heap
 A:Around
 N:List Str
 s₀:Shared
 H₀:Hp
 env:Env
 outer:List Env
 stack:List Env
 ex:List Addr
 fn:Str->Bool
 calm:Bool
 pn:List (Addr×Obj)
 xe:Value->Shared->Prop
def frs (l:List Env):List Addr:=l.filterMap (·.frame)
abbrev Cx.fs (X:Cx):List Addr:=frs X.outer
def Vis (sc:Scope) (x:Str):Prop:=sc.names.lookup x=some .local\/sc.names.lookup x=some .cell\/sc.names.lookup x=some .free
def Loc (sc:Scope) (x:Str):Prop:=sc.names.lookup x=some .local\/sc.names.lookup x=some .cell
def Look (env:Env) (h:Heap) (m:Str->Option Value) (x:Str) (u:Value):Prop:=
 (env.kindOf x=some .local/\m x=some u)\/((env.kindOf x=some .cell\/env.kindOf x=some .free)/\∃ c,env.cells.lookup x=some c/\h.IsCell c (some u))
structure Cx.Ok (X:Cx):Prop where
 mod:Mod X.K X.mg X.base
 kind:X.env.scope.kind=.function
 glob:X.env.globals=mainGlobals
 blt:X.env.builtins=builtinsNs
 above:X.s₀.heap.objs.size<=X.env.locals
 inj:∀ x y c,X.env.cells.lookup x=some c->X.env.cells.lookup y=some c->x=y
 has:∀ x,(X.env.kindOf x=some .cell\/X.env.kindOf x=some .free)->∃ c,X.env.cells.lookup x=some c
 cab:∀ x c,X.fn x=true->X.env.cells.lookup x=some c->X.s₀.heap.objs.size<=c
 hd:X.calm=true->X.A.handled=none
 frames:X.A.frames=some X.stack
 stk:X.stack=X.outer\/(X.stack=X.env::X.outer/\X.env.frame=some X.env.locals)
 exf:∀ b∈X.ex,b≠X.env.locals/\∀ x c,X.env.cells.lookup x=some c->c≠b
 bs:∀ b o,X.base.get? b=some o->X.s₀.heap.get? b=some o/\X.H₀ b=none
 bsz:X.base.objs.size<=X.s₀.heap.objs.size
 noex:∀ b o,X.base.get? b=some o->b∉X.ex
 exfs:∀ b∈X.ex,b∉X.fs
 funs:X.s₀.heap.FunFrames X.base X.outer
 frf:∀ b∈X.fs,X.H₀ b=none
 tab:∀ p∈lamT,X.H₀ p.1=some (.tbl p.2)
structure Inv (X:Cx) (pins:List (Addr×Obj)) (σ:List (Option V)) (H:Hp) (s:Shared):Prop where
 ok:X.Ok
 os:s.os=X.s₀.os
 bare:AllBare s.gens
 base:Un X.fs X.ex X.H₀ H X.s₀.heap s.heap
 loc:∃ m,s.heap.Ns X.env.locals m/\∀ (i:Nat) (x:Str) (v:V),X.N[i]?=some x->σ[i]?=some (some v)->Vis X.env.scope x->∃ u,RelV v u/\Look X.env s.heap m x u
 cell:∀ x c,X.env.cells.lookup x=some c->∃ v,s.heap.IsCell c v
 free:H X.env.locals=none
 freeC:∀ x c,X.env.cells.lookup x=some c->H c=none
 pin:∀ p∈X.pn++pins,s.heap.get? p.1=some p.2/\H p.1=none/\p.1≠X.env.locals/\p.1∉X.fs/\∀ v,p.2.data≠.cell v
 hok:HOk X.prog X.w H s.heap
 len:σ.length=X.N.length
section
variable {X:Cx} {pins:List (Addr×Obj)} {σ:List (Option V)} {H H':Hp} {s:Shared} {h':Heap}
theorem Cx.Ok.nofr (ok:X.Ok) {b:Addr} {o:Obj} (e:X.base.get? b=some o):b∉X.fs:=fun hb=>by
 have:=(ok.funs.mem hb).1
 rw [e] at this; cases this
theorem Inv.bs (I:Inv X pins σ H s):∀ b o,X.base.get? b=some o->s.heap.get? b=some o/\H b=none:=fun b o e=>
 ⟨I.base.keep b o (I.ok.bs b o e).1 (I.ok.bs b o e).2 (I.ok.nofr e) (I.ok.noex b o e),I.base.free b o (I.ok.bs b o e).1 (I.ok.bs b o e).2 (I.ok.noex b o e)⟩
theorem Inv.tab (I:Inv X pins σ H s):∀ p∈lamT,H p.1=some (.tbl p.2):=fun p hp=>I.base.tbls _ _ (I.ok.tab p hp)
theorem Inv.bk (I:Inv X pins σ H s):∀ b o,X.base.get? b=some o->s.heap.get? b=some o:=fun b o e=>(I.bs b o e).1
theorem Inv.mod (I:Inv X pins σ H s):Mod X.K X.mg X.base:=I.ok.mod
theorem Inv.kIn (I:Inv X pins σ H s):X.K.In s.heap:=I.ok.mod.kin.keeps I.bk
theorem Inv.nolimit (I:Inv X pins σ H s):s.heap.NoLimit:=I.ok.mod.nolimit.keeps I.bk
theorem Inv.fr (I:Inv X pins σ H s):∃ m,Fr X.base X.env.locals s.heap m:=
 let ⟨m,hn,_⟩:=I.loc
 ⟨m,hn,I.bk,Nat.le_trans I.ok.bsz I.ok.above⟩
theorem Inv.lt (I:Inv X pins σ H s):X.env.locals<s.heap.objs.size:=let ⟨_,hn,_⟩:=I.loc; hn.lt
theorem Inv.sz (I:Inv X pins σ H s):X.s₀.heap.objs.size<=s.heap.objs.size:=Nat.le_trans I.ok.above (Nat.le_of_lt I.lt)
theorem Inv.nofs (I:Inv X pins σ H s) {a:Addr} (h:s.heap.objs.size<=a):a∉X.fs:=fun hb=>by
 obtain ⟨_,o,ho,_⟩:=I.ok.funs.mem hb
 exact absurd (Nat.lt_of_lt_of_le (Heap.lt_size ho) (Nat.le_trans I.sz h)) (Nat.lt_irrefl _)
theorem Inv.cne (I:Inv X pins σ H s):∀ x c,X.env.cells.lookup x=some c->c≠X.env.locals:=fun x c e z=>by
 obtain ⟨v,o,ho,hd⟩:=I.cell x c e
 obtain ⟨m,⟨o',es,ep,ho',hd',_⟩,_⟩:=I.loc
 rw [z,ho'] at ho; cases ho; rw [hd'] at hd; cases hd
theorem Inv.funs (I:Inv X pins σ H s):s.heap.FunFrames X.base X.outer:=by
 have all:∀ (l:List Env),(∀ b∈frs l,b∈X.fs)->X.s₀.heap.FunFrames X.base l->s.heap.FunFrames X.base l:=by
  intro l
  induction l with
  | nil=>intro _ _; trivial
  | cons env r ih=>
   intro hs hl
   obtain ⟨hk,⟨L,o,hf,hn,ho,hd⟩,hr⟩:=hl
   have hL:L∈X.fs:=hs L (by unfold frs; rw [List.filterMap_cons,hf]; exact List.mem_cons_self)
   obtain ⟨sl,e⟩:=I.base.slot L o ho (I.ok.frf L hL) hL fun z=>I.ok.exfs L z hL
   exact ⟨hk,⟨L,_,hf,hn,e,hd⟩,ih (fun b hb=>hs b (by unfold frs; rw [List.filterMap_cons,hf]; exact List.mem_cons_of_mem _ hb)) hr⟩
 exact all X.outer (fun _ hb=>hb) I.ok.funs
theorem Inv.stack (I:Inv X pins σ H s):s.heap.FunFrames X.base X.stack:=by
 rcases I.ok.stk with e | ⟨e,hf⟩
 ·rw [e]; exact I.funs
 ·rw [e]
  obtain ⟨m,hn,_⟩:=I.loc
  refine .cons (by rw [I.ok.kind]; decide) hf hn ?_ I.funs
  exact Heap.get?_none_of_le (Nat.le_trans I.ok.bsz I.ok.above)
theorem Inv.stkSub (I:Inv X pins σ H s):∀ b∈frs X.stack,b∈X.env.locals::X.fs:=fun b hb=>by
 rcases I.ok.stk with e | ⟨e,hf⟩
 ·rw [e] at hb; exact List.mem_cons_of_mem _ hb
 ·rw [e] at hb
  unfold frs at hb
  rw [List.filterMap_cons,hf] at hb
  exact hb
theorem Inv.stkFree (I:Inv X pins σ H s):∀ b∈frs X.stack,H b=none:=fun b hb=>by
 rcases List.mem_cons.mp (I.stkSub b hb) with e | hb
 ·rw [e]; exact I.free
 ·obtain ⟨_,o,ho,_⟩:=I.ok.funs.mem hb
  exact I.base.free b o ho (I.ok.frf b hb) fun z=>I.ok.exfs b z hb
theorem Inv.step {g':Array GenState} {t':Nat} {d':Drawn} {ch:List Addr} (I:Inv X pins σ H s)
  (hch:∀ b∈ch,(b∈X.ex\/X.s₀.heap.objs.size<=b)/\b≠X.env.locals/\(∀ x c,X.env.cells.lookup x=some c->c≠b)/\∀ p∈X.pn++pins,p.1≠b)
  (keep:∀ b o,b≠X.env.locals->b∉X.fs->b∉ch->s.heap.get? b=some o->H b=none->h'.get? b=some o)
  (slot:∀ b o,b≠X.env.locals->b∈X.fs->b∉ch->s.heap.get? b=some o->H b=none->∃ sl,h'.get? b=some { o with slots:=sl }) (free:∀ b o,b∉ch->s.heap.get? b=some o->H b=none->H' b=none)
  (there:∀ b o,b∉ch->s.heap.get? b=some o->∃ o',h'.get? b=some o')
  (tups:∀ b xs,H b=some (.tup xs)->H' b=some (.tup xs)) (frzs:∀ b o u,H b=some (.frz o u)->H' b=some (.frz o u)) (tbls:∀ b k,H b=some (.tbl k)->H' b=some (.tbl k))
  (ns:∀ m,s.heap.Ns X.env.locals m->h'.Ns X.env.locals m) (hok:HOk X.prog X.w H' h') (hg:AllBare g') :
  Inv X pins σ H' { s with heap:=h',gens:=g',drawn:=d',toks:=t' }:=by
 have neL:∀ b o,X.s₀.heap.get? b=some o->b≠X.env.locals:=fun b o e=>Nat.ne_of_lt (Nat.lt_of_lt_of_le (Heap.lt_size e) I.ok.above)
 have neC:∀ b o,X.s₀.heap.get? b=some o->b∉X.ex->b∉ch:=fun b o e hx hb=>by
  rcases (hch b hb).1 with z | z
  ·exact hx z
  ·exact absurd (Nat.lt_of_lt_of_le (Heap.lt_size e) z) (Nat.lt_irrefl _)
 have cellK:∀ x c,X.env.cells.lookup x=some c->∀ v,s.heap.IsCell c v->h'.IsCell c v:=fun x c e v zz2=>by
  obtain ⟨o,ho,hd⟩:=zz2
  have nch:c∉ch:=fun z=>(hch c z).2.2.1 x c e rfl
  by_cases hc:c∈X.fs
  ·obtain ⟨sl,q⟩:=slot c o (I.cne x c e) hc nch ho (I.freeC x c e)
   exact ⟨_,q,hd⟩
  ·exact ⟨o,keep c o (I.cne x c e) hc nch ho (I.freeC x c e),hd⟩
 refine ⟨I.ok,I.os,hg,⟨fun b o e n hb hx=>?_,fun b o e n hb hx=>?_,fun b o e n hx=>?_,fun b o e hx=>?_,fun b xs e=>tups b xs (I.base.tups b xs e),fun b o xs e=>frzs b o xs (I.base.frzs b o xs e),fun b ps e=>?_⟩,?_,fun x c e=>?_,?_,fun x c e=>?_,fun p hp=>?_,hok,I.len⟩
 ·exact keep b o (neL b o e) hb (neC b o e hx) (I.base.keep b o e n hb hx) (I.base.free b o e n hx)
 ·obtain ⟨sl,e1⟩:=I.base.slot b o e n hb hx
  obtain ⟨sl',e2⟩:=slot b _ (neL b o e) hb (neC b o e hx) e1 (I.base.free b o e n hx)
  exact ⟨sl',e2⟩
 ·obtain ⟨o',e1⟩:=I.base.there b o e hx
  exact free b o' (neC b o e hx) e1 (I.base.free b o e n hx)
 ·obtain ⟨o',e1⟩:=I.base.there b o e hx
  exact there b o' (neC b o e hx) e1
 ·exact tbls b ps (I.base.tbls b ps e)
 ·obtain ⟨m,hn,hl⟩:=I.loc
  refine ⟨m,ns m hn,fun i x v e1 e2 e3=>?_⟩
  obtain ⟨u,r,l⟩:=hl i x v e1 e2 e3
  refine ⟨u,r,?_⟩
  rcases l with l | ⟨k,c,e,z⟩
  ·exact .inl l
  ·exact .inr ⟨k,c,e,cellK x c e _ z⟩
 ·obtain ⟨v,z⟩:=I.cell x c e
  exact ⟨v,cellK x c e v z⟩
 ·obtain ⟨m,⟨o,_,_,ho,_⟩,_⟩:=I.loc
  exact free _ o (fun z=>(hch _ z).2.1 rfl) ho I.free
 ·obtain ⟨v,o,ho,hd⟩:=I.cell x c e
  exact free c o (fun z=>(hch c z).2.2.1 x c e rfl) ho (I.freeC x c e)
 ·obtain ⟨e,n,ne,nf,d⟩:=I.pin p hp
  have nch:p.1∉ch:=fun z=>(hch p.1 z).2.2.2 p hp rfl
  exact ⟨keep p.1 p.2 ne nf nch e n,free p.1 p.2 nch e n,ne,nf,d⟩
theorem Inv.un {t':Nat} (I:Inv X pins σ H s) (u:Un X.fs [] H H' s.heap h') (hok:HOk X.prog X.w H' h'):Inv X pins σ H' { s with heap:=h',toks:=t' }:=by
 obtain ⟨m,⟨o,es,ep,ho,r⟩,_⟩:=id I.loc
 obtain ⟨sl,hL⟩:=u.any ho I.free (by simp)
 exact I.step (g':=s.gens) (d':=s.drawn) (ch:=[]) (fun _ z=>nomatch z) (fun b o _ hb _ e n=>u.keep b o e n hb (by simp)) (fun b o _ hb _ e n=>u.slot b o e n hb (by simp)) (fun b o _ e n=>u.free b o e n (by simp)) (fun b o _ e=>u.there b o e (by simp)) u.tups u.frzs u.tbls (fun m' hm=>by
  obtain ⟨o',es',ep',ho',r'⟩:=hm
  rw [ho] at ho'; cases ho'
  exact ⟨_,es',ep',hL,r'⟩) hok I.bare
theorem Inv.call {g':Array GenState} {t':Nat} {d':Drawn} {ch:List Addr} (I:Inv X pins σ H s) (u:Un (frs X.stack) ch H H' s.heap h') (hok:HOk X.prog X.w H' h') (hg:AllBare g')
  (hch:∀ b∈ch,(b∈X.ex\/X.s₀.heap.objs.size<=b)/\b≠X.env.locals/\(∀ x c,X.env.cells.lookup x=some c->c≠b)/\∀ p∈X.pn++pins,p.1≠b) :
  Inv X pins σ H' { s with heap:=h',gens:=g',drawn:=d',toks:=t' }:=by
 obtain ⟨m,⟨o,es,ep,ho,r⟩,_⟩:=id I.loc
 obtain ⟨sl,hL⟩:=u.any ho I.free fun z=>(hch _ z).2.1 rfl
 exact I.step (ch:=ch) hch (fun b o hL hb hc e n=>u.keep b o e n (fun z=>(List.mem_cons.mp (I.stkSub b z)).elim hL hb) hc) (fun b o _ _ hc e n=>u.any e n hc) (fun b o hc e n=>u.free b o e n hc) (fun b o hc e=>u.there b o e hc) u.tups u.frzs u.tbls (fun m' hm=>by
  obtain ⟨o',es',ep',ho',r'⟩:=hm
  rw [ho] at ho'; cases ho'
  exact ⟨_,es',ep',hL,r'⟩) hok hg
theorem Inv.turned {t':Nat} {it:Addr} (I:Inv X pins σ H s) (k:∀ b o,b≠it->s.heap.get? b=some o->h'.get? b=some o) (hn:H it=none) (hL:it≠X.env.locals)
  (h1:it∈X.ex\/X.s₀.heap.objs.size<=it) (h2:∀ x c,X.env.cells.lookup x=some c->c≠it) (h3:∀ p∈X.pn++pins,p.1≠it):Inv X pins σ H { s with heap:=h',toks:=t' }:=by
 have nit:∀ b u,H b=some u->b≠it:=fun b u e z=>by rw [z,hn] at e; cases e
 refine I.step (g':=s.gens) (d':=s.drawn) (ch:=[it]) (fun b hb=>?_) (fun b o _ _ hc e _=>k b o (fun z=>hc (by simp [z])) e) (fun b o _ _ hc e _=>⟨o.slots,k b o (fun z=>hc (by simp [z])) e⟩) (fun _ _ _ _ n=>n)
  (fun b o hc e=>⟨o,k b o (fun z=>hc (by simp [z])) e⟩) (fun _ _ e=>e) (fun _ _ _ e=>e) (fun _ _ e=>e) (fun m hm=>?_) (fun b u e=>?_) I.bare
 ·have e:b=it:=by simpa using hb
  subst e
  exact ⟨h1,hL,h2,h3⟩
 ·obtain ⟨o,es,ep,ho,r⟩:=hm
  exact ⟨o,es,ep,k _ o (Ne.symm hL) ho,r⟩
 ·refine (I.hok b u e).stay (fun c v hc q=>k c v ?_ q) (fun _ q=>q) fun _ _ q=>q
  rcases hc with z | z
  ·rw [z]; exact nit b u e
  ·exact nit c _ z
theorem Inv.tok (I:Inv X pins σ H s) (t:Nat):Inv X pins σ H { s with toks:=t }:=I.un (h':=s.heap) (t':=t) Un.refl I.hok
theorem Inv.kept {t':Nat} (I:Inv X pins σ H s) (k:∀ b u,s.heap.get? b=some u->h'.get? b=some u):Inv X pins σ H { s with heap:=h',toks:=t' }:=I.un (Un.kept k) (I.hok.kept k)
theorem Inv.laid {a:Addr} {o:HO} {t':Nat} (I:Inv X pins σ H s) (k:∀ b u,s.heap.get? b=some u->h'.get? b=some u) (hp:s.heap.objs.size<=a) (new:ObjOk X.prog X.w (upd H a o) h' a o) :
  Inv X pins σ (upd H a o) { s with heap:=h',toks:=t' }:=I.un (Un.laid k hp (I.hok.fresh hp)) (I.hok.laid k hp new)
theorem Inv.write {x e:Addr} {o:HO} {t':Nat} (I:Inv X pins σ H s) (mu:Mut (H x)) (he:e=x\/H e=some (.own x)) (k:∀ b u,b≠e->s.heap.get? b=some u->h'.get? b=some u) (heo:∃ u,h'.get? e=some u)
  (new:ObjOk X.prog X.w (upd H x o) h' x o):Inv X pins σ (upd H x o) { s with heap:=h',toks:=t' }:=I.un (Un.write mu he k heo) (I.hok.write mu he k heo new)
theorem Inv.weak {σ':List (Option V)} (I:Inv X pins σ H s) (hl:σ'.length=σ.length) (w:∀ (i:Nat) v,σ'[i]?=some (some v)->σ[i]?=some (some v)):Inv X pins σ' H s:=
 ⟨I.ok,I.os,I.bare,I.base,let ⟨m,hn,hl'⟩:=I.loc; ⟨m,hn,fun i x v e1 e2 e3=>hl' i x v e1 (w i v e2) e3⟩,I.cell,I.free,I.freeC,I.pin,I.hok,hl.trans I.len⟩
theorem Inv.pins_of {pins':List (Addr×Obj)} (I:Inv X pins σ H s) (h:∀ p∈pins',s.heap.get? p.1=some p.2/\H p.1=none/\p.1≠X.env.locals/\p.1∉X.fs/\∀ v,p.2.data≠.cell v):Inv X pins' σ H s:=
 ⟨I.ok,I.os,I.bare,I.base,I.loc,I.cell,I.free,I.freeC,fun p hp=>(List.mem_append.mp hp).elim (fun z=>I.pin p (List.mem_append_left _ z)) (h p),I.hok,I.len⟩
theorem fZ {N:List Str} (hN:N.Nodup) {i j:Nat} {x:Str} (a:N[i]?=some x) (b:N[j]?=some x):i=j:=by
 obtain ⟨h1,e1⟩:=List.getElem?_eq_some_iff.mp a
 obtain ⟨h2,e2⟩:=List.getElem?_eq_some_iff.mp b
 exact (List.getElem_inj hN).mp (e1.trans e2.symm)
theorem Y8 {M:Model} {A:Around} {E:Value->Shared->Prop} {i:Nat} {x:Str} {v:V} {u:Value} {Q:Unit->Shared->Prop} (I:Inv X pins σ H s) (hN:X.N.Nodup) (hi:X.N[i]?=some x) (hx:Loc X.env.scope x) (r:RelV v u)
  (h:∀ s',Inv X pins (σ.set i (some v)) H s'->(∃ a,Heap.SameBut a s.heap s'.heap/\(a=X.env.locals\/X.env.cells.lookup x=some a))->Q () s') (hf:X.fn x=true\/X.env.scope.names.lookup x=some .local:=by first | exact .inl rfl | exact .inr rfl | assumption):wpAny M A (storeName X.env x u) Q E s:=by
 obtain ⟨m,hn,hl⟩:=id I.loc
 have hcls:(X.env.scope.kind == .class||(X.env.scope.kind == .module&&X.env.locals != X.env.globals))=false:=by rw [I.ok.kind]; rfl
 have hiσ:i<σ.length:=by rw [I.len]; exact (List.getElem?_eq_some_iff.mp hi).1
 have cne:=I.cne
 have tracked:∀ {a:Addr} {h':Heap},(∃ o,s.heap.get? a=some o/\H a=none)->Heap.SameBut a s.heap h'->HOk X.prog X.w H h':=fun {a h'} ha hs b ob e=>by
  obtain ⟨_,_,hfree⟩:=ha
  refine (I.hok b ob e).stay (fun c w' hc q=>(hs.2 c ?_).trans q) (fun _ q=>q) fun _ _ q=>q
  rintro rfl
  rcases hc with rfl | hc
  ·rw [hfree] at e; cases e
  ·rw [hfree] at hc; cases hc
 rcases hx with hk | hk
 ·refine wpAny_storeName_local hk hn (fun h' hn' hs=>?_) hcls
  obtain ⟨oL,_,_,hoL,_⟩:=id hn
  refine h _ ⟨I.ok,I.os,I.bare,⟨fun b o e n hb hx=>?_,fun b o e n hb hx=>?_,I.base.free,fun b o e hx=>?_,I.base.tups,I.base.frzs,I.base.tbls⟩,⟨_,hn',fun j y v' e1 e2 e3=>?_⟩,fun y c e=>?_,I.free,I.freeC,fun p hp=>?_,tracked ⟨oL,hoL,I.free⟩ hs,by simpa using I.len⟩ ⟨_,hs,.inl rfl⟩
  ·exact (hs.2 b (Nat.ne_of_lt (Nat.lt_of_lt_of_le (Heap.lt_size e) I.ok.above))).trans (I.base.keep b o e n hb hx)
  ·obtain ⟨sl,e1⟩:=I.base.slot b o e n hb hx
   exact ⟨sl,(hs.2 b (Nat.ne_of_lt (Nat.lt_of_lt_of_le (Heap.lt_size e) I.ok.above))).trans e1⟩
  ·obtain ⟨o',e1⟩:=I.base.there b o e hx
   exact ⟨o',(hs.2 b (Nat.ne_of_lt (Nat.lt_of_lt_of_le (Heap.lt_size e) I.ok.above))).trans e1⟩
  ·by_cases hj:j=i
   ·subst hj
    rw [hi] at e1; cases e1
    rw [List.getElem?_set_self hiσ] at e2
    cases e2
    exact ⟨u,r,.inl ⟨hk,by simp⟩⟩
   ·rw [List.getElem?_set_ne (Ne.symm hj)] at e2
    obtain ⟨u',r',q⟩:=hl j y v' e1 e2 e3
    refine ⟨u',r',?_⟩
    rcases q with ⟨k,e⟩ | ⟨k,c,e,z⟩
    ·refine .inl ⟨k,?_⟩
     have:y≠x:=fun e=>hj (fZ hN e1 (e ▸ hi))
     simp [this,e]
    ·exact .inr ⟨k,c,e,z.sameBut hs (cne y c e)⟩
  ·obtain ⟨w',z⟩:=I.cell y c e
   exact ⟨w',z.sameBut hs (cne y c e)⟩
  ·obtain ⟨e,n,ne,nf,d⟩:=I.pin p hp
   exact ⟨(hs.2 p.1 ne).trans e,n,ne,nf,d⟩
 ·have hfn:X.fn x=true:=by
   rcases hf with z | z
   ·exact z
   ·rw [z] at hk; cases hk
  obtain ⟨c,hc⟩:=I.ok.has x (.inl hk)
  obtain ⟨w',z⟩:=I.cell x c hc
  refine wpAny_storeName_cell I.ok.kind hk hc z (fun h' hc' hs=>?_)
  obtain ⟨oc,hoc,hocd⟩:=id z
  refine h { s with heap:=h' } ⟨I.ok,I.os,I.bare,⟨fun b o e n hb hx=>?_,fun b o e n hb hx=>?_,I.base.free,fun b o e hx=>?_,I.base.tups,I.base.frzs,I.base.tbls⟩,⟨m,hn.sameBut hs (Ne.symm (cne x c hc)),fun j y v' e1 e2 e3=>?_⟩,fun y c' e=>?_,I.free,I.freeC,fun p hp=>?_,tracked ⟨oc,hoc,I.freeC x c hc⟩ hs,by simpa using I.len⟩ ⟨c,hs,.inr hc⟩
  ·exact (hs.2 b (Nat.ne_of_lt (Nat.lt_of_lt_of_le (Heap.lt_size e) (I.ok.cab x c hfn hc)))).trans (I.base.keep b o e n hb hx)
  ·obtain ⟨sl,e1⟩:=I.base.slot b o e n hb hx
   exact ⟨sl,(hs.2 b (Nat.ne_of_lt (Nat.lt_of_lt_of_le (Heap.lt_size e) (I.ok.cab x c hfn hc)))).trans e1⟩
  ·obtain ⟨o',e1⟩:=I.base.there b o e hx
   exact ⟨o',(hs.2 b (Nat.ne_of_lt (Nat.lt_of_lt_of_le (Heap.lt_size e) (I.ok.cab x c hfn hc)))).trans e1⟩
  ·by_cases hj:j=i
   ·subst hj
    rw [hi] at e1; cases e1
    rw [List.getElem?_set_self hiσ] at e2
    cases e2
    exact ⟨u,r,.inr ⟨.inl hk,c,hc,hc'⟩⟩
   ·rw [List.getElem?_set_ne (Ne.symm hj)] at e2
    obtain ⟨u',r',q⟩:=hl j y v' e1 e2 e3
    refine ⟨u',r',?_⟩
    rcases q with q | ⟨k,c',e,z'⟩
    ·exact .inl q
    ·refine .inr ⟨k,c',e,z'.sameBut hs ?_⟩
     rintro rfl
     exact hj (fZ hN e1 (I.ok.inj _ _ _ e hc ▸ hi))
  ·by_cases hcc:c'=c
   ·subst hcc; exact ⟨_,hc'⟩
   ·obtain ⟨w2,z2⟩:=I.cell y c' e
    exact ⟨w2,z2.sameBut hs hcc⟩
  ·obtain ⟨e,n,ne,nf,d⟩:=I.pin p hp
   refine ⟨(hs.2 p.1 ?_).trans e,n,ne,nf,d⟩
   intro q
   rw [q,hoc] at e
   have q':oc=p.2:=Option.some.inj e
   exact d w' (by rw [<- q']; exact hocd)
theorem bj {M:Model} {A:Around} {E:Value->Shared->Prop} {i:Nat} {x:Str} {v:V} {u:Value} {Q:Unit->Shared->Prop} (I:Inv X pins σ H s) (hN:X.N.Nodup) (hi:X.N[i]?=some x) (hx:Loc X.env.scope x) (r:RelV v u)
  (h:∀ s',Inv X pins (σ.set i (some v)) H s'->Q () s') (hf:X.fn x=true\/X.env.scope.names.lookup x=some .local:=by first | exact .inl rfl | exact .inr rfl | assumption):wpAny M A (storeName X.env x u) Q E s:=
 Y8 I hN hi hx r (fun s' I' _=>h s' I') hf
theorem Inv.call' {s':Shared} {ch:List Addr} (I:Inv X pins σ H s) (ho:s'.os=s.os) (u:Un (frs X.stack) ch H H' s.heap s'.heap) (hok:HOk X.prog X.w H' s'.heap) (hg:AllBare s'.gens)
  (hch:∀ b∈ch,(b∈X.ex\/X.s₀.heap.objs.size<=b)/\b≠X.env.locals/\(∀ x c,X.env.cells.lookup x=some c->c≠b)/\∀ p∈X.pn++pins,p.1≠b):Inv X pins σ H' s':=by
 obtain ⟨h',g',d',t',o'⟩:=s'
 have e:o'=s.os:=ho
 subst e
 exact I.call (g':=g') (t':=t') (d':=d') u hok hg hch
end
abbrev XK:=Value->Option Addr->Hp->Prop
abbrev St:=List (Option V)
abbrev VK:=V->Hp->Prop
abbrev TE:=St->Hp->VK->Prop
abbrev TT:=St->Hp->(Bool->Hp->Prop)->Prop
abbrev TA:=St->Hp->(List V->Hp->Prop)->Prop
structure Ends where
 nx:St->Hp->Prop
 rt:VK
 bk:St->Hp->Prop:=fun _ _=>False
 ct:St->Hp->Prop:=fun _ _=>False
abbrev TS:=Ends->St->Hp->Prop
def EP (X:Cx) (pins:List (Addr×Obj)) (σ:St) (Q:VK) (u:Value) (s':Shared):Prop:=∃ v H',Inv X pins σ H' s'/\RelV v u/\Q v H'
def TP (X:Cx) (pins:List (Addr×Obj)) (σ:St) (Q:Bool->Hp->Prop) (b:Bool) (s':Shared):Prop:=∃ H',Inv X pins σ H' s'/\Q b H'
def AP (X:Cx) (pins:List (Addr×Obj)) (σ:St) (Q:List V->Hp->Prop) (us:List Value) (s':Shared):Prop:=∃ vs H',Inv X pins σ H' s'/\Vals vs us/\Q vs H'
def SP (X:Cx) (pins:List (Addr×Obj)) (D:Ends) (f:Flow) (s':Shared):Prop:=
 match f with
 | .next=>∃ σ' H',Inv X pins σ' H' s'/\D.nx σ' H'
 | .brk=>∃ σ' H',Inv X pins σ' H' s'/\D.bk σ' H'
 | .cont=>∃ σ' H',Inv X pins σ' H' s'/\D.ct σ' H'
 | .ret u=>∃ v σ' H',Inv X pins σ' H' s'/\RelV v u/\D.rt v H'
def PE (X:Cx) (e:Expr) (t:TE):Prop:=
 ∀ (pins:List (Addr×Obj)) (s:Shared) (σ:St) (H:Hp) (Q:VK),Inv X pins σ H s->t σ H Q->wpAny (model X.prog X.w) X.A (eval e X.env) (EP X pins σ Q) X.xe s
def PT (X:Cx) (e:Expr) (t:TT):Prop:=
 ∀ (pins:List (Addr×Obj)) (s:Shared) (σ:St) (H:Hp) (Q:Bool->Hp->Prop),Inv X pins σ H s->t σ H Q->wpAny (model X.prog X.w) X.A (isTrue e X.env (eval e X.env)) (TP X pins σ Q) X.xe s
def PW (X:Cx) (e:Expr) (t:TT):Prop:=
 ∀ (whole:Sem Value) (pins:List (Addr×Obj)) (s:Shared) (σ:St) (H:Hp) (Q:Bool->Hp->Prop),Inv X pins σ H s->t σ H Q->wpAny (model X.prog X.w) X.A (isTrue e X.env whole) (TP X pins σ Q) X.xe s
theorem PW.pt {X:Cx} {e:Expr} {t:TT} (h:PW X e t):PT X e t:=h _
def PA (X:Cx) (es:List Expr) (t:TA):Prop:=
 ∀ (pos:Pos) (pins:List (Addr×Obj)) (s:Shared) (σ:St) (H:Hp) (Q:List V->Hp->Prop),Inv X pins σ H s->t σ H Q->wpAny (model X.prog X.w) X.A (spliced (backTo pos (starEach es X.env))) (AP X pins σ Q) X.xe s
def PS (X:Cx) (st:Stmt) (t:TS):Prop:=
 ∀ (pins:List (Addr×Obj)) (s:Shared) (σ:St) (H:Hp) (D:Ends),Inv X pins σ H s->t D σ H->wpAny (model X.prog X.w) X.A (exec st X.env) (SP X pins D) X.xe s
def PSs (X:Cx) (st:List Stmt) (t:TS):Prop:=
 ∀ (pins:List (Addr×Obj)) (s:Shared) (σ:St) (H:Hp) (D:Ends),Inv X pins σ H s->t D σ H->wpAny (model X.prog X.w) X.A (execs st X.env) (SP X pins D) X.xe s
theorem thn {α:Type} {t:Sem α} {Q Q':α->Shared->Prop} {M:Model} {A:Around} {E:Value->Shared->Prop} {s:Shared} (h:wpAny M A t Q E s) (hQ:∀ a s,Q a s->Q' a s):wpAny M A t Q' E s:=wpAny_mono h hQ fun _ _ x=>x
end L2
namespace L2
open PySem PySem.Spec PyProof.Rows
section
variable {X:Cx}
def O9 (i:Nat):TE:=fun σ H Q=>∃ v,σ[i]?=some (some v)/\Q v H
def tC (v:V):TE:=fun _ H Q=>Q v H
theorem P5 {i:Nat} {x:Str} {pos:Pos} (hN:X.N[i]?=some x) (hv:Vis X.env.scope x) (hd:(x == ("__debug__" : Str))=false:=by decide) (hcd:(x == ("__classdict__" : Str))=false:=by decide):PE X (.Name x pos) (O9 i):=by
 intro pins s σ H Q I h
 obtain ⟨v,e,h⟩:=h
 obtain ⟨m,hn,hl⟩:=I.loc
 obtain ⟨u,r,l⟩:=hl i x v hN e hv
 have fin:EP X pins σ Q u s:=⟨v,H,I,r,h⟩
 rcases l with ⟨hk,hm⟩ | ⟨hk,c,hc,hcell⟩
 ·exact wpAny_Name (wpAny_loadName_local I.ok.kind hk hn hm fin) hd
 ·rcases hk with hk | hk
  ·exact wpAny_Name (wpAny_loadName_cell I.ok.kind hk hc hcell fin) hd
  ·exact wpAny_Name (wpAny_loadName_free I.ok.kind hk hc hcell fin hcd) hd
theorem pe_int {i j pos}:PE X (.Constant (.int i) j pos) (tC (.int i)):=fun _ _ _ H _ I h=>wpAny_Constant_int ⟨.int i,H,I.tok _,⟨_,rfl⟩,h⟩
theorem pe_bl {b j pos}:PE X (.Constant (.bool b) j pos) (tC (.bl b)):=fun _ _ _ H _ I h=>Constant_bool ⟨.bl b,H,I,rfl,h⟩
theorem pe_non {j pos}:PE X (.Constant .none j pos) (tC .non):=fun _ _ _ H _ I h=>Constant_none ⟨.non,H,I,rfl,h⟩
theorem pe_str {x j pos}:PE X (.Constant (.str x) j pos) (tC (.str x)):=fun _ _ _ H _ I h=>Calls.Constant_str ⟨.str x,H,I.tok _,⟨_,rfl⟩,h⟩
def Gl (X:Cx) (x:Str):Prop:=X.env.kindOf x=some .globalImplicit
theorem ur {E:Value->Shared->Prop} {pins:List (Addr×Obj)} {s:Shared} {σ:St} {H:Hp} {x:Str} {u:Value} {pos:Pos} {Q:Value->Shared->Prop} (I:Inv X pins σ H s) (hg:Gl X x) (hm:X.mg x=some u) (h:Q u s)
  (hd:(x == ("__debug__" : Str))=false:=by decide):wpAny (model X.prog X.w) X.A (eval (.Name x pos) X.env) Q E s:=
 Calls.Name_function_global I.ok.kind hg (Calls.loadGlobal_global (by rw [I.ok.glob]; exact I.mod.glob.keeps I.bk) hm h) hd
theorem J5 {E:Value->Shared->Prop} {pins:List (Addr×Obj)} {s:Shared} {σ:St} {H:Hp} {x:Str} {u:Value} {pos:Pos} {Q:Value->Shared->Prop} (I:Inv X pins σ H s) (hg:Gl X x) (hm:X.mg x=none) (hv:bootBuiltins x=some u) (h:Q u s)
  (hn:x ≠ "__name__" := by decide) (hd:(x == ("__debug__" : Str))=false:=by decide):wpAny (model X.prog X.w) X.A (eval (.Name x pos) X.env) Q E s:=by
 obtain ⟨mb,h1,h2⟩:=I.mod.blt
 exact Calls.Name_function_global I.ok.kind hg (Calls.loadGlobal_builtin (by rw [I.ok.glob]; exact I.mod.glob.keeps I.bk) hm (by rw [I.ok.blt]; exact h1.keeps I.bk) ((h2 x hn).trans hv) h) hd
theorem tN {x:Str} {v:V} {u:Value} {pos:Pos} (hg:Gl X x) (hm:X.mg x=none) (hv:bootBuiltins x=some u) (r:RelV v u) (hn:x ≠ "__name__" := by decide) (hd:(x == ("__debug__" : Str))=false:=by decide):PE X (.Name x pos) (tC v):=
 fun _ _ _ H _ I h=>J5 I hg hm hv ⟨v,H,I,r,h⟩ hn hd
variable {a b:Expr} {ta tb:TE} {pos:Pos}
def PC (X:Cx) (op:CmpOp) (a b:Expr) (t:TE):Prop:=
 ∀ (pins:List (Addr×Obj)) (s:Shared) (σ:St) (H:Hp) (Q:VK),Inv X pins σ H s->t σ H Q ->
  wpAny (model X.prog X.w) X.A (eval a X.env) (fun v s₁=>wpAny (model X.prog X.w) X.A (eval b X.env) (fun u s₂=>wpAny (model X.prog X.w) X.A (compareOp op v u) (EP X pins σ Q) X.xe s₂) X.xe s₁) X.xe s
theorem pB (b:Expr) {op:CmpOp} (h:op≠.In) (h2:op≠.NotIn):behindInMarks op b=false:=by
 have e1:(op == CmpOp.In)=false:=by cases op <;> first | rfl | exact absurd rfl h
 have e2:(op == CmpOp.NotIn)=false:=by cases op <;> first | rfl | exact absurd rfl h2
 cases b <;> simp [behindInMarks,e1,e2]
def tB (t:TE):TT:=fun σ H Q=>t σ H fun x H1=>∃ c,x=.bl c/\Q c H1
theorem xp {op:CmpOp} {t:TE} (h:PC X op a b t) (h1:behindInMarks op b=false:=by first | exact pB _ (by decide) (by decide) | rfl):PT X (.Compare a [op] [b] pos) (tB t):=by
 intro pins s σ H Q I hw
 refine wpAny_isTrue_Compare1 (thn (h pins s σ H _ I hw) fun v s1 h1=>thn h1 fun u s2 h2=>thn h2 fun c s3 zz3=>?_) h1
 obtain ⟨x,H1,I1,r1,q1⟩:=zz3
 obtain ⟨d,rfl,q⟩:=q1
 cases r1
 exact wpAny_truthy_bool ⟨H1,I1,q⟩
theorem xn {e:Expr} {t:TE} (h:PE X e t) (he:∀ whole,isTrue e X.env whole=(do let v <- whole; standAt e.pos; holding [v] (truthy v)):=by intro _; rfl):PT X e (tB t):=by
 intro pins s σ H Q I hw
 refine isTrue_plain (thn (h pins s σ H _ I hw) fun v s1 zz4=>?_) (he _)
 obtain ⟨x,H1,I1,r1,q1⟩:=zz4
 obtain ⟨d,rfl,q⟩:=q1
 cases r1
 exact wpAny_truthy_bool ⟨H1,I1,q⟩
variable {tA tB':TT} {rest:List Expr}
def vS (t u:TT):TT:=fun σ H Q=>t σ H fun c H1=>if c=true then u σ H1 Q else Q false H1
def tOr (t u:TT):TT:=fun σ H Q=>t σ H fun c H1=>if c=true then Q true H1 else u σ H1 Q
def vM (t:TT):TT:=fun σ H Q=>t σ H fun c H1=>Q (!c) H1
theorem tw (ha:PT X a tA):PW X (.BoolOp .And [a] pos) tA:=by
 intro wh pins s σ H Q I h
 refine isTrue_and (thn (ha pins s σ H Q I h) fun c s1 e=>?_)
 cases c with
 | true=>exact isTrue_and_nil e
 | false=>exact e
theorem xl (ha:PT X a tA):PW X (.BoolOp .Or [a] pos) tA:=by
 intro wh pins s σ H Q I h
 refine isTrue_or (thn (ha pins s σ H Q I h) fun c s1 e=>?_)
 cases c with
 | false=>exact isTrue_or_nil e
 | true=>exact e
theorem xm (ha:PT X a tA) (hb:PW X (.BoolOp .And (b::rest) pos) tB'):PW X (.BoolOp .And (a::b::rest) pos) (vS tA tB'):=by
 intro wh pins s σ H Q I h
 refine isTrue_and (thn (ha pins s σ H _ I h) fun c s1 zz5=>?_)
 obtain ⟨H1,I1,q1⟩:=zz5
 cases c with
 | true=>exact hb wh pins s1 σ H1 Q I1 q1
 | false=>exact ⟨H1,I1,q1⟩
theorem AL (ha:PT X a tA) (hb:PW X (.BoolOp .Or (b::rest) pos) tB'):PW X (.BoolOp .Or (a::b::rest) pos) (tOr tA tB'):=by
 intro wh pins s σ H Q I h
 refine isTrue_or (thn (ha pins s σ H _ I h) fun c s1 zz6=>?_)
 obtain ⟨H1,I1,q1⟩:=zz6
 cases c with
 | true=>exact ⟨H1,I1,q1⟩
 | false=>exact hb wh pins s1 σ H1 Q I1 q1
theorem xo (ha:PT X a tA):PT X (.UnaryOp .Not a pos) (vM tA):=by
 intro pins s σ H Q I h
 exact isTrue_not (ha pins s σ H (fun c H1=>Q (!c) H1) I h)
def qW (ta tb:TE):TE:=fun σ H Q=>ta σ H fun x H1=>∃ c,x=.bl c/\if c=true then tb σ H1 Q else Q (.bl false) H1
def qT (ta:TE):TE:=fun σ H Q=>ta σ H fun x H1=>∃ c,x=.bl c/\Q (.bl (!c)) H1
theorem xx {op} {t:TE} (h:PE X a t):PE X (.BoolOp op [a] pos) t:=fun pins s σ H Q I hw=>BoolOp_one (h pins s σ H Q I hw)
theorem xA (ha:PE X a ta) (hb:PE X (.BoolOp .And (b::rest) pos) tb):PE X (.BoolOp .And (a::b::rest) pos) (qW ta tb):=by
 intro pins s σ H Q I h
 refine BoolOp_and (thn (ha pins s σ H _ I h) fun v s1 zz7=>?_)
 obtain ⟨x,H1,I1,r1,q1⟩:=zz7
 obtain ⟨c,rfl,q1⟩:=q1
 cases r1
 refine wpAny_truthy_bool ?_
 cases c with
 | true=>exact hb pins s1 σ H1 Q I1 q1
 | false=>exact ⟨.bl false,H1,I1,rfl,q1⟩
theorem xy (ha:PE X a ta):PE X (.UnaryOp .Not a pos) (qT ta):=by
 intro pins s σ H Q I h
 refine UnaryOp_ (thn (ha pins s σ H _ I h) fun v s1 zz8=>?_)
 obtain ⟨x,H1,I1,r1,q1⟩:=zz8
 obtain ⟨c,rfl,q1⟩:=q1
 cases r1
 exact not_of (wpAny_truthy_bool ⟨.bl (!c),H1,I1,rfl,q1⟩)
def tIf (t:TT) (ta tb:TE):TE:=fun σ H Q=>t σ H fun c H1=>if c=true then ta σ H1 Q else tb σ H1 Q
theorem pq {c:Expr} (hc:PT X c tA) (ha:PE X a ta) (hb:PE X b tb):PE X (.IfExp c a b pos) (tIf tA ta tb):=by
 intro pins s σ H Q I h
 refine wpAny_IfExp (thn (hc pins s σ H _ I h) fun d s1 zz9=>?_)
 obtain ⟨H1,I1,q1⟩:=zz9
 cases d with
 | true=>exact ha pins s1 σ H1 Q I1 q1
 | false=>exact hb pins s1 σ H1 Q I1 q1
end
end L2
namespace L2
open PySem PySem.Spec PyProof.Rows
def SqL (K:Frag) (H:Hp) (a:Addr) (xs:List V):Prop:=
 Rd H a (.lst xs) \/
  ∃ (o:Obj) (its:Array Value) (n:Nat),K.lookup a=some o/\o.cls=.type "list" /\ o.dict=none/\o.data=.seq its n/\its.size<=sizeLine/\Vals xs its.toList
def SqT (K:Frag) (H:Hp) (a:Addr) (xs:List V):Prop:=
 Rd H a (.tup xs) \/
  ∃ (o:Obj) (its:Array Value) (n:Nat),K.lookup a=some o/\o.cls=.type "tuple" /\ o.data=.seq its n/\its.size<=sizeLine/\Vals xs its.toList
def absV:Value->Option V
 | .none=>some .non
 | .bool b=>some (.bl b)
 | .int i _=>some (.int i)
 | .str x _=>some (.str x)
 | .bytes b _=>some (.byt b)
 | .float b _=>some (.flt b)
 | .ref a=>some (.ref a)
 | .type n=>some (.ty n)
 | _=>none
theorem RelV.abs {x:V} {u:Value} (r:RelV x u):absV u=some x:=by
 cases x with
 | non=>cases r; rfl
 | bl _=>cases r; rfl
 | int _=>obtain ⟨t,rfl⟩:=r; rfl
 | str _=>obtain ⟨t,rfl⟩:=r; rfl
 | byt _=>obtain ⟨t,rfl⟩:=r; rfl
 | flt _=>obtain ⟨t,rfl⟩:=r; rfl
 | ref _=>cases r; rfl
 | ty _=>cases r; rfl
theorem RelV.inj {x y:V} {u:Value} (r:RelV x u) (q:RelV y u):x=y:=Option.some.inj (r.abs.symm.trans q.abs)
theorem Vals.inj:∀ {xs ys:List V} {us:List Value},Vals xs us->Vals ys us->xs=ys:=by
 intro xs ys us a
 induction a generalizing ys with
 | nil=>intro b; cases b; rfl
 | cons r t ih=>
  intro b
  cases b with
  | cons r' t'=>rw [r.inj r',ih t']
section
variable {X:Cx} {pins:List (Addr×Obj)} {σ:St} {H:Hp} {s:Shared} {a:Addr} {xs ys:List V}
theorem SqL.of {K:Frag} (h:H a=some (.lst xs)):SqL K H a xs:=.inl (.inl h)
theorem SqT.of {K:Frag} (h:H a=some (.tup xs)):SqT K H a xs:=.inl (.inl h)
theorem Inv.list (I:Inv X pins σ H s) (h:SqL X.K H a xs):∃ its:List Value,Vals xs its/\PlainL s.heap a its.toArray/\xs.length<=sizeLine:=by
 rcases h with h | ⟨o,its,n,hk,hc,hd,hs,hz,r⟩
 ·obtain ⟨z,its,n,r,e⟩:=h.ok I.hok
  exact ⟨its,r,⟨_,n,e,rfl,rfl,rfl⟩,z⟩
 ·refine ⟨its.toList,r,⟨o,n,I.kIn a o hk,hc,hd,by simpa using hs⟩,?_⟩
  have e:=r.length
  simp only [Array.length_toList] at e
  omega
theorem Inv.tuple (I:Inv X pins σ H s) (h:SqT X.K H a xs):∃ its:List Value,Vals xs its/\IsTup s.heap a its.toArray/\xs.length<=sizeLine:=by
 rcases h with h | ⟨o,its,n,hk,hc,hs,hz,r⟩
 ·obtain ⟨z,its,r,p⟩:=h.ok I.hok
  exact ⟨its,r,p,z⟩
 ·refine ⟨its.toList,r,⟨o,I.kIn a o hk,hc,n,by simpa using hs⟩,?_⟩
  have e:=r.length
  simp only [Array.length_toList] at e
  omega
theorem Inv.list_inj (I:Inv X pins σ H s) (h:SqL X.K H a xs) (h':SqL X.K H a ys):xs=ys:=by
 obtain ⟨its,r,⟨o,n,e,_,_,d⟩,_⟩:=I.list h
 obtain ⟨its',r',⟨o',n',e',_,_,d'⟩,_⟩:=I.list h'
 rw [e] at e'; cases e'
 rw [d] at d'
 injection d' with d1 _
 have:its=its':=by simpa using congrArg Array.toList d1
 subst this
 exact r.inj r'
theorem Inv.tuple_inj (I:Inv X pins σ H s) (h:SqT X.K H a xs) (h':SqT X.K H a ys):xs=ys:=by
 obtain ⟨its,r,⟨o,e,_,n,d⟩,_⟩:=I.tuple h
 obtain ⟨its',r',⟨o',e',_,n',d'⟩,_⟩:=I.tuple h'
 rw [e] at e'; cases e'
 rw [d] at d'
 injection d' with d1 _
 have:its=its':=by simpa using congrArg Array.toList d1
 subst this
 exact r.inj r'
end
abbrev Cx.wish (X:Cx) (E:Value->Shared->Prop):Cx:={ X with xe:=E }
abbrev Cx.nox (X:Cx):Cx:=X.wish fun _ _=>False
theorem Cx.Ok.wish {X:Cx} (ok:X.Ok) (E:Value->Shared->Prop):(X.wish E).Ok:=
 ⟨ok.mod,ok.kind,ok.glob,ok.blt,ok.above,ok.inj,ok.has,ok.cab,ok.hd,ok.frames,ok.stk,ok.exf,ok.bs,ok.bsz,ok.noex,ok.exfs,ok.funs,ok.frf,ok.tab⟩
theorem Cx.Ok.unwish {X:Cx} {E:Value->Shared->Prop} (ok:(X.wish E).Ok):X.Ok:=
 ⟨ok.mod,ok.kind,ok.glob,ok.blt,ok.above,ok.inj,ok.has,ok.cab,ok.hd,ok.frames,ok.stk,ok.exf,ok.bs,ok.bsz,ok.noex,ok.exfs,ok.funs,ok.frf,ok.tab⟩
section
variable {X:Cx} {pins:List (Addr×Obj)} {σ:St} {H:Hp} {s:Shared} {E:Value->Shared->Prop}
theorem Inv.wish (I:Inv X pins σ H s) (E:Value->Shared->Prop):Inv (X.wish E) pins σ H s:=⟨I.ok.wish E,I.os,I.bare,I.base,I.loc,I.cell,I.free,I.freeC,I.pin,I.hok,I.len⟩
theorem Inv.unwish (I:Inv (X.wish E) pins σ H s):Inv X pins σ H s:=⟨I.ok.unwish,I.os,I.bare,I.base,I.loc,I.cell,I.free,I.freeC,I.pin,I.hok,I.len⟩
theorem SP.unwish {D:Ends} {f:Flow} {s':Shared} (h:SP (X.wish E) pins D f s'):SP X pins D f s':=by
 cases f with
 | next=>obtain ⟨σ',H',I,q⟩:=h; exact ⟨σ',H',I.unwish,q⟩
 | brk=>obtain ⟨σ',H',I,q⟩:=h; exact ⟨σ',H',I.unwish,q⟩
 | cont=>obtain ⟨σ',H',I,q⟩:=h; exact ⟨σ',H',I.unwish,q⟩
 | ret u=>obtain ⟨v,σ',H',I,r,q⟩:=h; exact ⟨v,σ',H',I.unwish,r,q⟩
theorem PSs.nox {st:List Stmt} {t:TS} (h:PSs X.nox st t):PSs X st t:=fun pins s σ H D I hw=>
 wpAny_mono (h pins s σ H D (I.wish _) hw) (fun _ _ q=>q.unwish) fun _ _ z=>False.elim z
end
section
variable {X:Cx} {st:Stmt} {rest:List Stmt} {t u:TS} {e:Expr} {te:TE} {pos:Pos}
def tNext:TS:=fun D σ H=>D.nx σ H
def oq (t u:TS):TS:=fun D σ H=>t { D with nx:=u D } σ H
theorem pss_nil:PSs X [] tNext:=fun _ _ σ H _ I h=>wpAny_execs_nil ⟨σ,H,I,h⟩
theorem fF (h1:PS X st t) (h2:PSs X rest u):PSs X (st::rest) (oq t u):=by
 intro pins s σ H D I h
 refine wpAny_execs_cons (thn (h1 pins s σ H { D with nx:=u D } I h) fun f s1 q=>?_)
 cases f with
 | next=>
  obtain ⟨σ',H',I',q⟩:=q
  exact h2 pins s1 σ' H' D I' q
 | ret v=>exact q
 | brk=>exact q
 | cont=>exact q
theorem iI (h1:PS X st t):PSs X [st] t:=by
 intro pins s σ H D I h
 refine wpAny_execs_cons (thn (h1 pins s σ H D I h) fun f s1 q=>?_)
 cases f with
 | next=>exact wpAny_execs_nil q
 | ret v=>exact q
 | brk=>exact q
 | cont=>exact q
def tCont:TS:=fun D σ H=>D.ct σ H
theorem ps_continue:PS X (.Continue pos) tCont:=fun _ _ σ H _ I h=>wpAny_Continue ⟨σ,H,I,h⟩
theorem Inv.quiet {pins:List (Addr×Obj)} {σ:St} {H:Hp} {s:Shared} (I:Inv X pins σ H s):interactive X.env=false:=by simp [interactive,I.ok.kind]
def jA (te:TE):TS:=fun D σ H=>te σ H fun _ H1=>D.nx σ H1
theorem iJ (he:PE X e te) (hs:swapsWith e none pos.line X.env=pure false:=by rfl):PS X (.Expr e pos) (jA te):=by
 intro pins s σ H D I h
 exact wpAny_Expr_any (thn (he pins s σ H _ I h) fun v s1 zz10=>by obtain ⟨x,H1,I1,r1,q1⟩:=zz10; exact ⟨σ,H1,I1,q1⟩) I.quiet hs
def jz (te:TE):TS:=fun D σ H=>te σ H D.rt
theorem lL (he:PE X e te):PS X (.Return (some e) pos) (jz te):=by
 intro pins s σ H D I h
 exact wpAny_Return_some (thn (he pins s σ H _ I h) fun v s1 zz11=>by obtain ⟨x,H1,I1,r1,q1⟩:=zz11; exact ⟨x,σ,H1,I1,r1,q1⟩)
def ot (c:TT) (t u:TS):TS:=fun D σ H=>c σ H fun b H1=>if b=true then t D σ H1 else u D σ H1
theorem rp {c:Expr} {a b:List Stmt} {tc:TT} (hc:PT X c tc) (ha:PSs X a t) (hb:PSs X b u):PS X (.If c a b pos) (ot tc t u):=by
 intro pins s σ H D I h
 refine wpAny_If (thn (hc pins s σ H _ I h) fun d s1 zz12=>?_)
 obtain ⟨H1,I1,q1⟩:=zz12
 cases d with
 | true=>exact ha pins s1 σ H1 D I1 q1
 | false=>exact hb pins s1 σ H1 D I1 q1
def tNever:TS:=fun _ _ _=>False
theorem ps_never:PS X st tNever:=fun _ _ _ _ _ _ h=>h.elim
end
abbrev TG:=V->St->Hp->(St->Hp->Prop)->Prop
abbrev TGs:=List V->St->Hp->(St->Hp->Prop)->Prop
def PG (X:Cx) (target:Expr) (t:TG):Prop:=
 ∀ (pins:List (Addr×Obj)) (s:Shared) (σ:St) (H:Hp) (v:V) (u:Value) (Q:St->Hp->Prop),Inv X pins σ H s->RelV v u->t v σ H Q ->
  wpAny (model X.prog X.w) X.A (assign target X.env u) (fun _ s'=>∃ σ' H',Inv X pins σ' H' s'/\Q σ' H') X.xe s
def PGs (X:Cx) (ts:List Expr) (t:TGs):Prop:=
 ∀ (pins:List (Addr×Obj)) (s:Shared) (σ:St) (H:Hp) (vs:List V) (us:List Value) (Q:St->Hp->Prop),Inv X pins σ H s->Vals vs us->t vs σ H Q ->
  wpAny (model X.prog X.w) X.A (assignInOrder ((assignEach ts X.env).map (·.2)) us) (fun _ s'=>∃ σ' H',Inv X pins σ' H' s'/\Q σ' H') X.xe s
abbrev TSet:=V->V->V->Hp->(Hp->Prop)->Prop
def Ay (X:Cx) (t:TSet):Prop:=
 ∀ (pins:List (Addr×Obj)) (s:Shared) (σ:St) (H:Hp) (o i v:V) (ov iv u:Value) (Q:Hp->Prop),Inv X pins σ H s->RelV o ov->RelV i iv->RelV v u->t o i v H Q ->
  wpAny (model X.prog X.w) X.A (setItem ov iv u) (fun _ s'=>∃ H',Inv X pins σ H' s'/\Q H') X.xe s
abbrev TIp:=V->V->Hp->VK->Prop
def PIp (X:Cx) (op:Operator) (t:TIp):Prop:=
 ∀ (pins:List (Addr×Obj)) (s:Shared) (σ:St) (H:Hp) (x y:V) (v u:Value) (Q:VK),Inv X pins σ H s->RelV x v->RelV y u->t x y H Q ->
  wpAny (model X.prog X.w) X.A (inplaceOp op v u) (EP X pins σ Q) X.xe s
section
variable {X:Cx} {pos:Pos}
def B4 (i:Nat):TG:=fun v σ H Q=>Q (σ.set i (some v)) H
theorem e9 {i:Nat} {x:Str} (hN:X.N.Nodup) (hi:X.N[i]?=some x) (hx:Loc X.env.scope x) (hf:X.fn x=true\/X.env.scope.names.lookup x=some .local:=by first | exact .inl rfl | exact .inr rfl | assumption):PG X (.Name x pos) (B4 i):=by
 intro pins s σ H v u Q I r h
 exact wpAny_assign_Name (bj I hN hi hx r (fun s' I'=>⟨_,H,I',h⟩) hf)
def gNil:TGs:=fun vs σ H Q=>vs = []/\Q σ H
def kh (t:TG) (u:TGs):TGs:=fun vs σ H Q=>∃ v r,vs=v::r/\t v σ H fun σ' H'=>u r σ' H' Q
theorem v7:PGs X [] gNil:=by
 intro pins s σ H vs us Q I r h
 obtain ⟨e,h⟩:=h
 subst e
 cases r
 exact assignInOrder_nil ⟨σ,H,I,h⟩
theorem h7 {e:Expr} {es:List Expr} {t:TG} {u:TGs} (h1:PG X e t) (h2:PGs X es u)
  (hs:(assignEach (e::es) X.env).map (·.2)=assign e X.env::(assignEach es X.env).map (·.2):=by rfl):PGs X (e::es) (kh t u):=by
 intro pins s σ H vs us Q I r h
 obtain ⟨v,vr,e1,h⟩:=h
 subst e1
 cases r with
 | cons r rr=>
  rw [hs]
  refine assignInOrder_cons (thn (h1 pins s σ H _ _ _ I r h) fun _ s1 zz13=>?_)
  obtain ⟨σ1,H1,I1,q1⟩:=zz13
  exact h2 pins s1 σ1 H1 _ _ Q I1 rr q1
def ke (K:Frag) (n:Nat) (t:TGs):TG:=fun v σ H Q=>∃ a xs,v=.ref a/\SqT K H a xs/\xs.length=n/\t xs σ H Q
theorem xw {es:List Expr} {k:Nat} {t:TGs} {n:Nat} (hc:X.calm=true) (h:PGs X es t)
  (hn:(assignEach es X.env).length=n:=by rfl) (hst:(assignEach es X.env).findIdx? (·.1)=none:=by rfl):PG X (.Tuple es k pos) (ke X.K n t):=by
 intro pins s σ H v u Q I r hw
 obtain ⟨a,xs,e1,hq,hl,hw⟩:=hw
 subst e1
 cases r
 obtain ⟨its,rv,ht,hz⟩:=I.tuple hq
 refine assign_Tuple_tuple (I.ok.hd hc) ht (by simp [hn,<- hl,rv.length]) hst fun h' hx=>?_
 have I1:Inv X pins σ H { s with heap:=h' }:=I.kept (t':=s.toks) fun b o e=>hx b o (Nat.ne_of_lt (Heap.lt_size e)) e
 exact h pins _ σ H xs _ Q I1 (by simpa using rv) hw
def gSub (to ti:TE) (t:TSet):TG:=fun v σ H Q=>to σ H fun o H1=>ti σ H1 fun i H2=>t o i v H2 fun H3=>Q σ H3
theorem fH {o i:Expr} {to ti:TE} {t:TSet} (ho:PE X o to) (hi:PE X i ti) (hs:Ay X t)
  (ha:∀ v,assign (.Subscript o i pos) X.env v=(do
   let ov <- holding [v] (eval o X.env)
   let iv <- holding [v,ov] (eval i X.env)
   standAt pos
   holding [v,ov,iv] (setItem ov iv v)
   release [v,ov,iv] []):=by intro _; rfl):PG X (.Subscript o i pos) (gSub to ti t):=by
 intro pins s σ H v u Q I r h
 rw [ha]
 refine wpAny_bind (wpAny_holding (thn (ho pins s σ H _ I h) fun ov s1 zz14=>?_))
 obtain ⟨x,H1,I1,r1,q1⟩:=zz14
 refine wpAny_bind (wpAny_holding (thn (hi pins s1 σ H1 _ I1 q1) fun iv s2 zz15=>?_))
 obtain ⟨y,H2,I2,r2,q2⟩:=zz15
 refine wpAny_bind (wpAny_standAt (wpAny_bind (wpAny_holding (thn (hs pins s2 σ H2 x y v ov iv u _ I2 r1 r2 r q2) fun _ s3 zz16=>?_))))
 obtain ⟨H3,I3,q3⟩:=zz16
 exact wpAny_release ⟨σ,H3,I3,q3⟩
def P0 (te:TE) (g:TG):TS:=fun D σ H=>te σ H fun x H1=>g x σ H1 D.nx
theorem lM {tg e:Expr} {te:TE} {g:TG} (he:PE X e te) (hg:PG X tg g) (hs:swapsWithSole [tg] e pos.line X.env=pure false:=by rfl) (hw:swappedStores [tg] e X.env=pure none:=by rfl)
  (h1:(assignEach [tg] X.env).map (·.2) = [assign tg X.env]:=by rfl):PS X (.Assign [tg] e pos) (P0 te g):=by
 intro pins s σ H D I h
 refine wpAny_Assign_stores (thn (he pins s σ H _ I h) fun v s1 zz17=>?_) hs hw
 obtain ⟨x,H1,I1,r1,q1⟩:=zz17
 rw [h1]
 exact thn (hg pins s1 σ H1 x v _ I1 r1 q1) fun _ s2 q=>q
theorem Z6 {i:Nat} {x:Str} {e:Expr} {te:TE} {pos':Pos} (hN:X.N.Nodup) (hi:X.N[i]?=some x) (hx:Loc X.env.scope x) (he:PE X e te) (hs:swapsWith e (some (.Name x pos')) pos.line X.env=pure false:=by rfl) (hf:X.fn x=true\/X.env.scope.names.lookup x=some .local:=by first | exact .inl rfl | exact .inr rfl | assumption) :
  PS X (.Assign [.Name x pos'] e pos) (P0 te (B4 i)):=by
 intro pins s σ H D I h
 refine wpAny_Assign_Name (thn (he pins s σ H _ I h) fun v s1 zz18=>?_) hs
 obtain ⟨y,H1,I1,r1,q1⟩:=zz18
 exact bj I1 hN hi hx r1 (fun s2 I2=>⟨_,H1,I2,q1⟩) hf
def vR (i:Nat) (te:TE) (ti:TIp):TS:=fun D σ H=>∃ x,σ[i]?=some (some x)/\te σ H fun y H1=>ti x y H1 fun z H2=>D.nx (σ.set i (some z)) H2
theorem xr {i:Nat} {x:Str} {e:Expr} {te:TE} {op:Operator} {ti:TIp} {pos':Pos} (hN:X.N.Nodup) (hi:X.N[i]?=some x) (hx:Loc X.env.scope x) (he:PE X e te) (ho:PIp X op ti) (hf:X.fn x=true\/X.env.scope.names.lookup x=some .local:=by first | exact .inl rfl | exact .inr rfl | assumption) :
  PS X (.AugAssign (.Name x pos') op e pos) (vR i te ti):=by
 intro pins s σ H D I h
 obtain ⟨v,e1,h⟩:=h
 obtain ⟨m,hn,hl⟩:=I.loc
 have vis:Vis X.env.scope x:=by rcases hx with k | k; exact .inl k; exact .inr (.inl k)
 obtain ⟨u,r,l⟩:=hl i x v hi e1 vis
 refine wpAny_AugAssign_Name ?_
 have go:wpAny (model X.prog X.w) X.A (eval e X.env) (fun w s₂=>wpAny (model X.prog X.w) X.A (inplaceOp op u w) (fun r s₃=>wpAny (model X.prog X.w) X.A (storeName X.env x r) (fun _=>SP X pins D .next) X.xe s₃) X.xe s₂) X.xe s:=by
  refine thn (he pins s σ H _ I h) fun w s1 zz19=>?_
  obtain ⟨y,H1,I1,r1,q1⟩:=zz19
  refine thn (ho pins s1 σ H1 v y u w _ I1 r r1 q1) fun z s2 zz20=>?_
  obtain ⟨zv,H2,I2,r2,q2⟩:=zz20
  exact bj I2 hN hi hx r2 (fun s3 I3=>⟨_,H2,I3,q2⟩) hf
 rcases l with ⟨hk,hm⟩ | ⟨hk,c,hc,hcell⟩
 ·exact wpAny_loadName_local I.ok.kind hk hn hm go
 ·rcases hk with hk | hk
  ·exact wpAny_loadName_cell I.ok.kind hk hc hcell go
  ·rcases hx with k | k
   ·have:X.env.scope.names.lookup x=some .free:=hk
    rw [k] at this; cases this
   ·have:X.env.scope.names.lookup x=some .free:=hk
    rw [k] at this; cases this
def ipI (f:Int->Int->Int):TIp:=fun x y H Q=>∃ i j,x=.int i/\y=.int j/\Q (.int (f i j)) H
theorem yD:PIp X .Add (ipI fun i j=>i+j):=by
 intro pins s σ H x y v u Q I r1 r2 h
 obtain ⟨i,j,e1,e2,q⟩:=h
 subst e1; subst e2
 obtain ⟨t,rfl⟩:=r1
 obtain ⟨t',rfl⟩:=r2
 exact iadd_int ⟨.int _,H,I.tok _,⟨_,rfl⟩,q⟩
end
section
variable {X:Cx} {pos:Pos}
def kX (c:TT) (tb:TS):TS:=fun D σ H=>∃ W:Nat->St->Hp->Prop,(∃ m,W m σ H)/\∀ m σ H,W m σ H ->
 c σ H fun b H1=>if b=true then ∃ N:St->Hp->Prop,(∀ σ' H',N σ' H'->∃ m',m'<m/\W m' σ' H')/\tb { D with nx:=N,ct:=N,bk:=D.nx } σ H1 else D.nx σ H1
theorem pi {c:Expr} {body:List Stmt} {tc:TT} {tb:TS} (hp:PassesOwn (model X.prog X.w) X.A X.env X.xe) (hc:PT X c tc) (hb:PSs X body tb):PS X (.While c body [] pos) (kX tc tb):=by
 intro pins s σ H D I h
 obtain ⟨W,⟨m0,w0⟩,turn⟩:=h
 refine wpAny_While (codeAny_whileLoop (fun n s'=>∃ σ' H',Inv X pins σ' H' s'/\W n σ' H') ?_ m0 ⟨σ,H,I,w0⟩)
 rintro n s1 ⟨σ1,H1,I1,w1⟩
 refine wpAny_passesOwn hp (thn (hc pins s1 σ1 H1 _ I1 (turn n σ1 H1 w1)) fun b s2 zz21=>?_)
 obtain ⟨H2,I2,q2⟩:=zz21
 cases b with
 | true=>
  obtain ⟨N,hN,q2⟩:=q2
  rw [if_pos rfl]
  refine wpAny_passesOwn hp (thn (hb pins s2 σ1 H2 _ I2 q2) fun f s3 q3=>?_)
  cases f with
  | next=>
   obtain ⟨σ3,H3,I3,n3⟩:=q3
   obtain ⟨m',hm,w3⟩:=hN σ3 H3 n3
   exact ⟨m',hm,σ3,H3,I3,w3⟩
  | cont=>
   obtain ⟨σ3,H3,I3,n3⟩:=q3
   obtain ⟨m',hm,w3⟩:=hN σ3 H3 n3
   exact ⟨m',hm,σ3,H3,I3,w3⟩
  | brk=>exact q3
  | ret v=>exact q3
 | false=>
  rw [if_neg Bool.false_ne_true]
  exact wpAny_execs_nil ⟨σ1,H2,I2,q2⟩
end
structure It where
 go:Nat->Hp->Prop
 yld:Nat->Hp->V->Hp->Prop
 stop:Nat->Hp->Prop
def v6 (X:Cx) (pins:List (Addr×Obj)) (H:Hp) (b:Addr):Prop:=
 H b=none/\b≠X.env.locals/\b∉X.fs/\(b∈X.ex\/X.s₀.heap.objs.size<=b)/\(∀ x c,X.env.cells.lookup x=some c->c≠b)/\∀ p∈X.pn++pins,p.1≠b
theorem Inv.fpOk {X:Cx} {pins:List (Addr×Obj)} {σ:St} {H H':Hp} {s:Shared} {b:Addr} (I:Inv X pins σ H s) (hb:s.heap.objs.size<=b) (hn:H' b=none):v6 X pins H' b:=by
 refine ⟨hn,Nat.ne_of_gt (Nat.lt_of_lt_of_le I.lt hb),I.nofs hb,.inr (Nat.le_trans I.sz hb),fun x c e z=>?_,fun p hp z=>?_⟩
 ·obtain ⟨v,q⟩:=I.cell x c e
  exact absurd (Nat.lt_of_lt_of_le q.lt (by rw [z]; exact hb)) (Nat.lt_irrefl _)
 ·exact absurd (Nat.lt_of_lt_of_le (Heap.lt_size (I.pin p hp).1) (by rw [z]; exact hb)) (Nat.lt_irrefl _)
structure Turn (P:Program) (w:World) (K:Frag) (tg:Expr) (J:It) (fp:List Addr) (it:Addr) (tn:Nat->Heap->Prop):Prop where
 mem:it∈fp
 obj:∀ i h,tn i h->∀ b∈fp,∃ o,h.get? b=some o/\∀ v,o.data≠.cell v
 keep:∀ i h h',tn i h->(∀ b∈fp,∀ o,h.get? b=some o->h'.get? b=some o)->tn i h'
 item:∀ (X:Cx),X.prog=P->X.w=w->X.K=K->X.calm=true->∀ (i:Nat) (pins:List (Addr×Obj)) (s:Shared) (σ:St) (H:Hp) (E:Value->Shared->Prop),Inv X pins σ H s->(∀ b∈fp,v6 X pins H b)->tn i s.heap->J.go i H ->
  wpAny (model P w) X.A (pyNext (.ref it)) (fun r s1=>∃ u,r=some u /\
   wpAny (model P w) X.A (letOwnedTupleGo tg (.ref it) u) (fun _ s2=>∃ x H',Inv X pins σ H' s2/\RelV x u/\J.yld i H x H'/\tn (i+1) s2.heap/\∀ b∈fp,H' b=none) E s1) E s
 done:∀ (X:Cx),X.prog=P->X.w=w->X.K=K->X.calm=true->∀ (i:Nat) (pins:List (Addr×Obj)) (s:Shared) (σ:St) (H:Hp) (E:Value->Shared->Prop),Inv X pins σ H s->(∀ b∈fp,v6 X pins H b)->tn i s.heap->J.stop i H ->
  wpAny (model P w) X.A (pyNext (.ref it)) (fun r s1=>r=none/\Inv X pins σ H s1) E s
 self:∀ (A:Around) (i:Nat) (s:Shared) (Q:Value->Shared->Prop) (E:Value->Shared->Prop),tn i s.heap->Q (.ref it) s->wpAny (model P w) A (pyIter (.ref it)) Q E s
abbrev TI:=St->Hp->(It->Hp->Prop)->Prop
def PIE (X:Cx) (pins:List (Addr×Obj)) (σ:St) (tg:Expr) (R:It->Hp->Prop) (itv:Value) (s2:Shared):Prop:=
 ∃ (it:Addr) (fp:List Addr) (tn:Nat->Heap->Prop) (J:It) (H':Hp),itv=.ref it/\Inv X pins σ H' s2/\Turn X.prog X.w X.K tg J fp it tn/\tn 0 s2.heap/\(∀ b∈fp,v6 X pins H' b)/\R J H'
def PI (X:Cx) (tg iter:Expr) (wi:TI):Prop:=
 ∀ (pins:List (Addr×Obj)) (s:Shared) (σ:St) (H:Hp) (R:It->Hp->Prop),Inv X pins σ H s->wi σ H R ->
  wpAny (model X.prog X.w) X.A (eval iter X.env) (fun v s1=>wpAny (model X.prog X.w) X.A (pyIter v) (PIE X pins σ tg R) X.xe s1) X.xe s
theorem kd {M:Model} {A:Around} {E:Value->Shared->Prop} {s:Shared} {tg:Expr} {it:Addr} {u:Value} {o:Obj} {n:String} {vs:Array Value} {Q:Unit->Shared->Prop} (ho:s.heap.get? it=some o) (hc:o.cls=.type n) (hd:o.data=.fields vs)
    (hn:["enumerate", "zip", "dict_itemiterator", "dict_reverseitemiterator", "odict_iterator", "itertools.zip_longest", "itertools.pairwise"].contains n=false) (hQ:Q () s):wpAny M A (letOwnedTupleGo tg (.ref it) u) Q E s:=by
  unfold letOwnedTupleGo
  cases tg <;> first
    | exact wpAny_pure hQ
    | (cases u <;> first
        | exact wpAny_pure hQ
        | (refine wpAny_bind (wpAny_load ho ?_)
           rw [hc,hd]
           show wpAny M A (if (["enumerate", "zip", "dict_itemiterator", "dict_reverseitemiterator", "odict_iterator", "itertools.zip_longest", "itertools.pairwise"].contains n&&vs[0]? == some (rawInt _))=true then _ else _) Q E s
           rw [if_neg (by intro h; rw [hn,Bool.false_and] at h; cases h)]
           exact wpAny_pure hQ))
def Itl (K:Frag) (a:Addr):It:=
 ⟨fun i H=>∃ xs x,SqL K H a xs/\xs[i]?=some x,fun i H x H'=>H'=H/\∀ xs,SqL K H a xs->xs[i]?=some x,fun i H=>∃ xs,SqL K H a xs/\xs.length<=i⟩
def Itt (K:Frag) (a:Addr):It:=
 ⟨fun i H=>∃ xs x,SqT K H a xs/\xs[i]?=some x,fun i H x H'=>H'=H/\∀ xs,SqT K H a xs->xs[i]?=some x,fun i H=>∃ xs,SqT K H a xs/\xs.length<=i⟩
def Itr (lo:Int) (n:Nat):It:=⟨fun i _=>i<n,fun i H x H'=>H'=H/\x=.int (lo+i),fun i _=>n<=i⟩
theorem kT {P:Program} {w:World} {K:Frag} {tg:Expr} (a it:Addr):Turn P w K tg (Itl K a) [it] it (fun i h=>h.IsListIter it a i) where
 mem:=by simp
 obj:=fun i h st b hb=>by
  have e:b=it:=by simpa using hb
  subst e
  obtain ⟨o,e,c,d⟩:=st
  exact ⟨o,e,fun v z=>by rw [d] at z; cases z⟩
 keep:=fun i h h' st k=>st.at fun o e=>k it (by simp) o e
 item:=by
  intro X hP hw hK hc i pins s σ H E I hf st hg
  subst hP hw hK
  obtain ⟨xs,x,hq,hx⟩:=hg
  obtain ⟨its,rv,p,hz⟩:=I.list hq
  obtain ⟨u,hu,ru⟩:=rv.get hx
  obtain ⟨f0,f1,f2,f3,f4,f5⟩:=hf it (by simp)
  refine wpAny_pyNext_list_item st p.isList (x:=u) (by simpa using hu) fun h' st' sb=>?_
  have I1:Inv X pins σ H { s with heap:=h' }:=I.turned (t':=s.toks) (fun b o hb e=>(sb.2 b hb).trans e) f0 f1 f3 f4 f5
  obtain ⟨o,e,c,d⟩:=id st'
  exact ⟨u,rfl,kd (s:={ s with heap:=h' }) e c d (by decide) ⟨x,H,I1,ru,⟨rfl,fun ys hy=>by rw [I.list_inj hy hq]; exact hx⟩,st',fun b hb=>(hf b hb).1⟩⟩
 done:=by
  intro X hP hw hK hc i pins s σ H E I hf st hg
  subst hP hw hK
  obtain ⟨xs,hq,hx⟩:=hg
  obtain ⟨its,rv,p,hz⟩:=I.list hq
  obtain ⟨f0,f1,f2,f3,f4,f5⟩:=hf it (by simp)
  have hl:=rv.length
  exact wpAny_pyNext_list_end (I.ok.hd hc) st p.isList (by simp; omega) fun h' eb=>⟨rfl,I.turned (t':=s.toks) (fun b o hb e=>eb b o hb e) f0 f1 f3 f4 f5⟩
 self:=fun _ _ _ _ _ st h=>wpAny_pyIter_listiter st h
theorem jw {P:Program} {w:World} {K:Frag} {tg:Expr} (a it:Addr):Turn P w K tg (Itt K a) [it] it (fun i h=>h.IsTupleIter it a i) where
 mem:=by simp
 obj:=fun i h st b hb=>by
  have e:b=it:=by simpa using hb
  subst e
  obtain ⟨o,e,c,d⟩:=st
  exact ⟨o,e,fun v z=>by rw [d] at z; cases z⟩
 keep:=fun i h h' st k=>st.at fun o e=>k it (by simp) o e
 item:=by
  intro X hP hw hK hc i pins s σ H E I hf st hg
  subst hP hw hK
  obtain ⟨xs,x,hq,hx⟩:=hg
  obtain ⟨its,rv,p,hz⟩:=I.tuple hq
  obtain ⟨u,hu,ru⟩:=rv.get hx
  obtain ⟨f0,f1,f2,f3,f4,f5⟩:=hf it (by simp)
  refine wpAny_pyNext_tuple_item st (show s.heap.IsTuple a its.toArray from p) (x:=u) (by simpa using hu) fun h' st' sb=>?_
  have I1:Inv X pins σ H { s with heap:=h' }:=I.turned (t':=s.toks) (fun b o hb e=>(sb.2 b hb).trans e) f0 f1 f3 f4 f5
  obtain ⟨o,e,c,d⟩:=id st'
  exact ⟨u,rfl,kd (s:={ s with heap:=h' }) e c d (by decide) ⟨x,H,I1,ru,⟨rfl,fun ys hy=>by rw [I.tuple_inj hy hq]; exact hx⟩,st',fun b hb=>(hf b hb).1⟩⟩
 done:=by
  intro X hP hw hK hc i pins s σ H E I hf st hg
  subst hP hw hK
  obtain ⟨xs,hq,hx⟩:=hg
  obtain ⟨its,rv,p,hz⟩:=I.tuple hq
  obtain ⟨f0,f1,f2,f3,f4,f5⟩:=hf it (by simp)
  have hl:=rv.length
  exact wpAny_pyNext_tuple_end (I.ok.hd hc) st (show s.heap.IsTuple a its.toArray from p) (by simp; omega) fun h' eb=>⟨rfl,I.turned (t':=s.toks) (fun b o hb e=>eb b o hb e) f0 f1 f3 f4 f5⟩
 self:=fun _ _ _ _ _ st h=>wpAny_pyIter_tupleiter st h
theorem jx {P:Program} {w:World} {K:Frag} {tg:Expr} (it:Addr) (lo:Int) (n:Nat):Turn P w K tg (Itr lo n) [it] it (fun i h=>IsRangeIter h it (lo+(i:Nat)*1) ((n:Int)-(i:Nat)) 1) where
 mem:=by simp
 obj:=fun i h st b hb=>by
  have e:b=it:=by simpa using hb
  subst e
  exact ⟨_,st,fun v z=>by
   have z':Data.fields _=Data.cell v:=z
   cases z'⟩
 keep:=fun i h h' st k=>k it (by simp) _ st
 item:=by
  intro X hP hw hK hc i pins s σ H E I hf st hg
  subst hP hw hK
  obtain ⟨f0,f1,f2,f3,f4,f5⟩:=hf it (by simp)
  have W:=Walks.range (prog:=X.prog) (w:=X.w) (I.ok.hd hc) it lo 1 n
  refine W.item i s _ _ hg st fun v h' tk hv st' kk=>?_
  obtain ⟨t,rfl⟩:=hv
  have I1:Inv X pins σ H { s with heap:=h',toks:=tk }:=I.turned (fun b o hb e=>kk b o (by simpa using hb) e) f0 f1 f3 f4 f5
  refine ⟨_,rfl,kd (s:={ s with heap:=h',toks:=tk }) (n := "range_iterator") st' rfl rfl (by decide) ⟨.int (lo+i),H,I1,⟨t,?_⟩,⟨rfl,rfl⟩,st',fun b hb=>(hf b hb).1⟩⟩
  rw [Int.mul_one]
 done:=by
  intro X hP hw hK hc i pins s σ H E I hf st hg
  subst hP hw hK
  obtain ⟨f0,f1,f2,f3,f4,f5⟩:=hf it (by simp)
  exact wpAny_pyNext_range_end (I.ok.hd hc) st (by have:n<=i:=hg; omega) fun h' eb=>⟨rfl,I.turned (t':=s.toks) (fun b o hb e=>eb b o hb e) f0 f1 f3 f4 f5⟩
 self:=fun _ _ _ _ _ st h=>wpAny_pyIter_rangeiter st h
end L2
namespace L2
open PySem PySem.Spec PyProof.Rows
section
variable {X:Cx} {tg:Expr}
theorem oS {pins:List (Addr×Obj)} {σ:St} {H:Hp} {s:Shared} {R:It->Hp->Prop} {E:Value->Shared->Prop} {lo hi:Int} {t u v:Tok} {tk:Nat} (I:Inv X pins σ H s) (h1:-(2^62)<=lo) (h2:lo<2^62) (h3:-(2^62)<=hi) (h4:hi<2^62)
  (q:R (Itr lo (hi-lo).toNat) H):wpAny (model X.prog X.w) X.A (pyIter (.ref s.heap.objs.size)) (PIE X pins σ tg R) E { s with heap:=s.heap.push { cls:=.type "range",data:=.fields #[.int lo t,.int hi u,.int 1 v] },toks:=tk }:=by
 refine wpAny_pyIter_range (IsRange.new ..) (small_one h1 h2 h3 h4) ?_
 have I1:Inv X pins σ H { s with heap:=s.heap.push { cls:=.type "range",data:=.fields #[.int lo t,.int hi u,.int 1 v] },toks:=tk }:=I.kept fun b o e=>Heap.get?_push_of_some _ e
 refine ⟨(s.heap.push { cls:=.type "range",data:=.fields #[.int lo t,.int hi u,.int 1 v] }).objs.size,[(s.heap.push { cls:=.type "range",data:=.fields #[.int lo t,.int hi u,.int 1 v] }).objs.size],_,_,H,rfl,
  I1.kept (t':=tk) fun b o e=>Heap.get?_push_of_some _ e,jx _ lo (hi-lo).toNat,?_,fun b hb=>?_,q⟩
 ·have e1:lo+((0:Nat):Int)*1=lo:=by simp
  have e2:(((hi-lo).toNat:Nat):Int)-((0:Nat):Int)=Builtin.Range.rangeSize lo hi 1:=by rw [rangeSize_one]; split <;> omega
  show IsRangeIter _ _ (lo+((0:Nat):Int)*1) ((((hi-lo).toNat:Nat):Int)-((0:Nat):Int)) 1
  rw [e1,e2]
  exact Heap.get?_push_size _ rfl
 ·have e:b=(s.heap.push { cls:=.type "range",data:=.fields #[.int lo t,.int hi u,.int 1 v] }).objs.size:=by simpa using hb
  subst e
  exact I1.fpOk (Nat.le_refl _) (I1.hok.fresh (Nat.le_refl _))
def rD (ta:TA):TI:=fun σ H R=>ta σ H fun vs H1=>∃ j:Int,vs = [.int j] /\ -(2^62)<=j/\j<2^62/\R (Itr 0 j.toNat) H1
theorem lR {a:Expr} {ta:TA} {p pos:Pos} (hg:Gl X "range") (hm:X.mg "range" = none) (ha:PA X [a] ta) (hs:starEach [a] X.env = [(false,eval a X.env)]:=by rfl):PI X tg (.Call (.Name "range" p) [a] [] pos) (rD ta):=by
 intro pins s σ H R I h
 refine Call_ (J5 I hg hm boot_range (PyProof.Rows.callWith_type1 (thn (ha pos pins s σ H _ I h) fun us s1 zz22=>?_) hs rfl))
 obtain ⟨vs,H1,I1,r1,q1⟩:=zz22
 obtain ⟨j,e,q1,q2,q⟩:=q1
 subst e
 cases r1 with
 | cons r rr=>
  cases rr
  obtain ⟨t,rfl⟩:=r
  exact call_range_1 (oS I1 (by omega) (by omega) q1 q2 (by simpa using q))
def vP (wi:TI) (g:TG) (tb:TS):TS:=fun D σ H=>wi σ H fun J H1=>∃ W:Nat->Nat->St->Hp->Prop,(∃ m,W 0 m σ H1)/\∀ i m σ H,W i m σ H ->
 (J.stop i H/\D.nx σ H)\/(J.go i H/\∃ N:St->Hp->Prop,(∀ σ' H',N σ' H'->∃ m',m'<m/\W (i+1) m' σ' H')/\∀ x H',J.yld i H x H'->g x σ H' fun σ2 H2=>tb { D with nx:=N,ct:=N,bk:=D.nx } σ2 H2)
def U2 (fp:List Addr) (h:Heap):List (Addr×Obj):=fp.filterMap fun b=>(h.get? b).map fun o=>(b,o)
theorem D9 {fp:List Addr} {h:Heap} {b:Addr} {o:Obj} (hb:b∈fp) (e:h.get? b=some o):(b,o)∈U2 fp h:=List.mem_filterMap.mpr ⟨b,hb,by rw [e]; rfl⟩
theorem mq {fp:List Addr} {h:Heap} {p:Addr×Obj} (hp:p∈U2 fp h):p.1∈fp/\h.get? p.1=some p.2:=by
 obtain ⟨b,hb,e⟩:=List.mem_filterMap.mp hp
 cases q:h.get? b with
 | none=>rw [q] at e; cases e
 | some o=>
  rw [q] at e
  have e':(b,o)=p:=Option.some.inj e
  subst e'
  exact ⟨hb,q⟩
theorem Inv.pinned {pins:List (Addr×Obj)} {σ:St} {H:Hp} {s:Shared} {fp:List Addr} (I:Inv X pins σ H s) (hf:∀ b∈fp,v6 X pins H b) (ho:∀ b∈fp,∃ o,s.heap.get? b=some o/\∀ v,o.data≠.cell v):Inv X (pins++U2 fp s.heap) σ H s:=
 I.pins_of fun p hp=>(List.mem_append.mp hp).elim (fun z=>I.pin p (List.mem_append_right _ z)) fun z=>by
  obtain ⟨hb,e⟩:=mq z
  obtain ⟨f0,f1,f2,_⟩:=hf p.1 hb
  obtain ⟨o,e',d⟩:=ho p.1 hb
  rw [e] at e'; cases e'
  exact ⟨e,f0,f1,f2,d⟩
theorem Inv.unpinned {pins pl:List (Addr×Obj)} {σ:St} {H:Hp} {s:Shared} (I:Inv X (pins++pl) σ H s):Inv X pins σ H s:=I.pins_of fun p hp=>I.pin p (List.mem_append_right _ (List.mem_append_left _ hp))
theorem xq {iter:Expr} {body:List Stmt} {wi:TI} {g:TG} {tb:TS} {pos:Pos} (hp:PassesOwn (model X.prog X.w) X.A X.env X.xe) (hc:X.calm=true) (hi:PI X tg iter wi) (hg:PG X tg g) (hb:PSs X body tb)
  (hs:∀ x,foldedSetIterable iter X.env x=pure x:=by intro _; rfl):PS X (.For tg iter body [] pos) (vP wi g tb):=by
 intro pins s σ H D I h
 refine wpAny_For (thn (hi pins s σ H _ I h) fun v s1 h1=>thn h1 fun itv s2 h2=>?_) hs
 obtain ⟨it,fp,tn,J,H2,e,I2,T,st2,f2,W,⟨m0,w0⟩,turn⟩:=h2
 subst e
 -- what stays true of the iterator's objects through the loop
 have stat:∀ {H':Hp},(∀ b∈fp,H' b=none)->∀ b∈fp,v6 X pins H' b:=fun hn b hb=>⟨hn b hb,(f2 b hb).2⟩
 refine codeAny_forLoop_any (fun n s'=>∃ i σ' H',Inv X pins σ' H' s'/\tn i s'.heap/\(∀ b∈fp,H' b=none)/\W i n σ' H') ?_ m0 ⟨0,σ,H2,I2,st2,fun b hb=>(f2 b hb).1,w0⟩
 rintro n s3 ⟨i,σ3,H3,I3,st3,fr3,w3⟩
 rcases turn i n σ3 H3 w3 with ⟨stop,qn⟩ | ⟨go,N,hN,step⟩
 ·refine wpAny_passesOwn hp (thn (T.done X rfl rfl rfl hc i pins s3 σ3 H3 X.xe I3 (stat fr3) st3 stop) fun r s4 ⟨hr,I4⟩=>?_)
  subst hr
  exact wpAny_execs_nil ⟨σ3,H3,I4,qn⟩
 ·refine wpAny_passesOwn hp (thn (T.item X rfl rfl rfl hc i pins s3 σ3 H3 X.xe I3 (stat fr3) st3 go) fun r s4 ⟨u,hr,h4⟩=>?_)
  subst hr
  refine wpAny_passesOwn hp (thn h4 fun _ s5 zz25=>?_)
  obtain ⟨x,H5,I5,r5,y5,st5,fr5⟩:=zz25
  have I5':=I5.pinned (stat fr5) (T.obj _ _ st5)
  refine wpAny_passesOwn hp (thn (hg _ s5 σ3 H5 x u _ I5' r5 (step x H5 y5)) fun _ s6 zz26=>?_)
  obtain ⟨σ6,H6,I6,q6⟩:=zz26
  refine wpAny_passesOwn hp (thn (hb _ s6 σ6 H6 _ I6 q6) fun f s7 q7=>?_)
  have again:∀ {σ7:St} {H7:Hp},Inv X (pins++U2 fp s5.heap) σ7 H7 s7->N σ7 H7->∃ m,m<n/\∃ i σ' H',Inv X pins σ' H' s7/\tn i s7.heap/\(∀ b∈fp,H' b=none)/\W i m σ' H':=fun {σ7 H7} I7 n7=>by
   obtain ⟨m',hm,w7⟩:=hN σ7 H7 n7
   refine ⟨m',hm,i+1,σ7,H7,I7.unpinned,T.keep _ _ _ st5 fun b hb o e=>(I7.pin (b,o) (List.mem_append_right _ (List.mem_append_right _ (D9 hb e)))).1,fun b hb=>?_,w7⟩
   obtain ⟨o,e,d⟩:=T.obj _ _ st5 b hb
   exact (I7.pin (b,o) (List.mem_append_right _ (List.mem_append_right _ (D9 hb e)))).2.1
  cases f with
  | next=>obtain ⟨σ7,H7,I7,n7⟩:=q7; exact again I7 n7
  | cont=>obtain ⟨σ7,H7,I7,n7⟩:=q7; exact again I7 n7
  | brk=>obtain ⟨σ7,H7,I7,q7⟩:=q7; exact ⟨σ7,H7,I7.unpinned,q7⟩
  | ret v=>obtain ⟨x7,σ7,H7,I7,r7,q7⟩:=q7; exact ⟨x7,σ7,H7,I7.unpinned,r7,q7⟩
end
end L2
namespace L2
open PySem PySem.Spec PyProof.Rows
abbrev R2:=V->V->Hp->VK->Prop
def OpR (X:Cx) (f:Value->Value->Sem Value) (r:R2):Prop:=
 ∀ (pins:List (Addr×Obj)) (s:Shared) (σ:St) (H:Hp) (x y:V) (v u:Value) (Q:VK),Inv X pins σ H s->RelV x v->RelV y u->r x y H Q ->
  wpAny (model X.prog X.w) X.A (f v u) (EP X pins σ Q) X.xe s
def UnR (X:Cx) (f:Value->Sem Value) (r:V->Hp->VK->Prop):Prop:=
 ∀ (pins:List (Addr×Obj)) (s:Shared) (σ:St) (H:Hp) (x:V) (v:Value) (Q:VK),Inv X pins σ H s->RelV x v->r x H Q ->
  wpAny (model X.prog X.w) X.A (f v) (EP X pins σ Q) X.xe s
def K6 (X:Cx) (f:Value) (r:List V->Hp->VK->Prop):Prop:=
 ∀ (pins:List (Addr×Obj)) (s:Shared) (σ:St) (H:Hp) (xs:List V) (us:List Value) (Q:VK),Inv X pins σ H s->Vals xs us->r xs H Q ->
  wpAny (model X.prog X.w) X.A (call f us) (EP X pins σ Q) X.xe s
def tOp (r:R2) (ta tb:TE):TE:=fun σ H Q=>ta σ H fun x H1=>tb σ H1 fun y H2=>r x y H2 Q
def tUn (r:V->Hp->VK->Prop) (ta:TE):TE:=fun σ H Q=>ta σ H fun x H1=>r x H1 Q
def rI (C:Int->Int->Prop) (g:Int->Int->V):R2:=fun x y H Q=>∃ i j,x=.int i/\y=.int j/\C i j/\Q (g i j) H
def rI0 (g:Int->Int->V):R2:=fun x y H Q=>∃ i j,x=.int i/\y=.int j/\Q (g i j) H
def rU (g:Int->V):V->Hp->VK->Prop:=fun x H Q=>∃ i,x=.int i/\Q (g i) H
section
variable {X:Cx} {a b c:Expr} {ta tb tc:TE} {pos:Pos}
theorem qJ (ha:PE X a ta) (hb:PE X b tb) {pins:List (Addr×Obj)} {s:Shared} {σ:St} {H:Hp} {R:V->V->Hp->Prop} (I:Inv X pins σ H s)
  (h:ta σ H fun x H1=>tb σ H1 fun y H2=>R x y H2) {Q:Value->Shared->Prop} {f:Value->Value->Sem Value}
  (hf:∀ v u s2 x y H2,Inv X pins σ H2 s2->RelV x v->RelV y u->R x y H2->wpAny (model X.prog X.w) X.A (f v u) Q X.xe s2) :
  wpAny (model X.prog X.w) X.A (eval a X.env) (fun v s₁=>wpAny (model X.prog X.w) X.A (eval b X.env) (fun u s₂=>wpAny (model X.prog X.w) X.A (f v u) Q X.xe s₂) X.xe s₁) X.xe s:=by
 refine thn (ha pins s σ H _ I h) fun v s1 zz27=>?_
 obtain ⟨x,H1,I1,r1,q1⟩:=zz27
 refine thn (hb pins s1 σ H1 _ I1 q1) fun u s2 zz28=>?_
 obtain ⟨y,H2,I2,r2,q2⟩:=zz28
 exact hf v u s2 x y H2 I2 r1 r2 q2
theorem AR {op:Operator} {r:R2} (ho:OpR X (binaryOp op) r) (ha:PE X a ta) (hb:PE X b tb):PE X (.BinOp a op b pos) (tOp r ta tb):=by
 intro pins s σ H Q I h
 exact wpAny_BinOp (qJ ha hb I h fun v u s2 x y H2 I2 rx ry q=>ho pins s2 σ H2 x y v u Q I2 rx ry q)
theorem AQ {op:UnaryOp} {r:V->Hp->VK->Prop} (ho:UnR X (unaryOp op) r) (ha:PE X a ta):PE X (.UnaryOp op a pos) (tUn r ta):=by
 intro pins s σ H Q I h
 exact UnaryOp_ (thn (ha pins s σ H _ I h) fun v s1 zz29=>by obtain ⟨x,H1,I1,r1,q1⟩:=zz29; exact ho pins s1 σ H1 x v Q I1 r1 q1)
theorem opI {f:Value->Value->Sem Value} {C:Int->Int->Prop} {g:Int->Int->Int}
  (rule:∀ (i j:Int) (t u:Tok) (s:Shared) (Q:Value->Shared->Prop) (E:Value->Shared->Prop),C i j->Q (.int (g i j) s.toks) { s with toks:=s.toks+1 }->wpAny (model X.prog X.w) X.A (f (.int i t) (.int j u)) Q E s) :
  OpR X f (rI C fun i j=>.int (g i j)):=by
 intro pins s σ H x y v u Q I rx ry h
 obtain ⟨i,j,rfl,rfl,hc,q⟩:=h
 obtain ⟨t,rfl⟩:=rx
 obtain ⟨t',rfl⟩:=ry
 exact rule i j t t' s _ _ hc ⟨.int (g i j),H,I.tok _,⟨_,rfl⟩,q⟩
theorem xF {f:Value->Value->Sem Value} {g:Int->Int->Int}
  (rule:∀ (i j:Int) (t u:Tok) (s:Shared) (Q:Value->Shared->Prop) (E:Value->Shared->Prop),Q (.int (g i j) s.toks) { s with toks:=s.toks+1 }->wpAny (model X.prog X.w) X.A (f (.int i t) (.int j u)) Q E s) :
  OpR X f (rI0 fun i j=>.int (g i j)):=by
 intro pins s σ H x y v u Q I rx ry h
 obtain ⟨i,j,rfl,rfl,q⟩:=h
 obtain ⟨t,rfl⟩:=rx
 obtain ⟨t',rfl⟩:=ry
 exact rule i j t t' s _ _ ⟨.int (g i j),H,I.tok _,⟨_,rfl⟩,q⟩
theorem xG {f:Value->Value->Sem Value} {g:Int->Int->Bool}
  (rule:∀ (i j:Int) (t u:Tok) (s:Shared) (Q:Value->Shared->Prop) (E:Value->Shared->Prop),Q (.bool (g i j)) s->wpAny (model X.prog X.w) X.A (f (.int i t) (.int j u)) Q E s) :
  OpR X f (rI0 fun i j=>.bl (g i j)):=by
 intro pins s σ H x y v u Q I rx ry h
 obtain ⟨i,j,rfl,rfl,q⟩:=h
 obtain ⟨t,rfl⟩:=rx
 obtain ⟨t',rfl⟩:=ry
 exact rule i j t t' s _ _ ⟨.bl (g i j),H,I,rfl,q⟩
def aD (i j:Int):Prop:=0<j/\j<1073741824
def R0 (i j:Int):Prop:=0<=j/\j<=1000000/\i.natAbs<2^64
def CMul (i j:Int):Prop:=(-(2^64)<i/\i<2^64)\/(-(2^64)<j/\j<2^64)
theorem CMul.ok {i j:Int} (h:CMul i j):IntMulOk i j:=by
 rcases h with ⟨h1,h2⟩ | ⟨h1,h2⟩
 ·exact .of_left (intBits_le_64 h1 h2)
 ·exact .of_right (intBits_le_64 h1 h2)
theorem v0:OpR X (binaryOp .Add) (rI0 fun i j=>.int (i+j)):=xF fun _ _ _ _ _ _ _ q=>add_int q
theorem fK:OpR X (binaryOp .Sub) (rI0 fun i j=>.int (i-j)):=xF fun _ _ _ _ _ _ _ q=>sub_int q
theorem tO:OpR X (binaryOp .FloorDiv) (rI aD fun i j=>.int (i/j)):=opI fun i j _ _ _ _ _ hc q=>by
 have h1:(0:Int)<j:=hc.1
 have h2:j<1073741824:=hc.2
 exact floordiv_int (by omega) (by rw [Int.fdiv_eq_ediv_of_nonneg i (by omega)]; exact q) (.inl (PyProof.noPylong_small (by omega)))
theorem U3:OpR X (binaryOp .Mod) (rI (fun _ j=>0<j) fun i j=>.int (i%j)):=opI fun i j _ _ _ _ _ hc q=>by
 have h1:(0:Int)<j:=hc
 exact mod_int' (by omega) (by rw [Int.fmod_eq_emod_of_nonneg i (by omega)]; exact q)
theorem fL:OpR X (binaryOp .Pow) (rI R0 fun i j=>.int (i^j.toNat)):=opI fun _ _ _ _ _ _ _ hc q=>pow_int_small hc.1 hc.2.1 hc.2.2 q
theorem unI {f:Value->Sem Value} {g:Int->Int}
  (rule:∀ (i:Int) (t:Tok) (s:Shared) (Q:Value->Shared->Prop) (E:Value->Shared->Prop),Q (.int (g i) s.toks) { s with toks:=s.toks+1 }->wpAny (model X.prog X.w) X.A (f (.int i t)) Q E s) :
  UnR X f (rU fun i=>.int (g i)):=by
 intro pins s σ H x v Q I rx h
 obtain ⟨i,rfl,q⟩:=h
 obtain ⟨t,rfl⟩:=rx
 exact rule i t s _ _ ⟨.int (g i),H,I.tok _,⟨_,rfl⟩,q⟩
theorem Y5:UnR X (unaryOp .USub) (rU fun i=>.int (-i)):=unI fun _ _ _ _ _ q=>neg_int q
end
def fk:V->V->Bool
 | .non,.non=>true | .non,.int _=>true | .int _,.non=>true | .non,.bl _=>true | .bl _,.non=>true | .non,.str _=>true | .str _,.non=>true
 | .int _,.int _=>true | .bl _,.bl _=>true | .str _,.str _=>true | .byt _,.byt _=>true
 | .int _,.str _=>true | .str _,.int _=>true | .bl _,.str _=>true | .str _,.bl _=>true
 | _,_=>false
def rEq:R2:=fun x y H Q=>fk x y=true/\Q (.bl (decide (x=y))) H
def rNe:R2:=fun x y H Q=>fk x y=true/\Q (.bl (!decide (x=y))) H
theorem jj {i j:Int}:decide (V.int i=V.int j)=(i == j):=by
 rw [Bool.eq_iff_iff]
 simp
theorem nv {i j:Bool}:decide (V.bl i=V.bl j)=(i == j):=by
 rw [Bool.eq_iff_iff]
 simp
theorem ji {i j:Str}:decide (V.str i=V.str j)=(i == j):=by
 rw [Bool.eq_iff_iff]
 simp
theorem jk {i j:Array UInt8}:decide (V.byt i=V.byt j)=(i.toList == j.toList):=by
 rw [Bool.eq_iff_iff]
 cases i
 cases j
 simp
section
variable {X:Cx} {a b c:Expr} {ta tb tc:TE} {pos:Pos}
theorem i9 {pins:List (Addr×Obj)} {σ:St} {H:Hp} {s:Shared} {Q:VK} {k k':Bool} (I:Inv X pins σ H s) (q:Q (.bl k) H) (e:k=k'):EP X pins σ Q (.bool k') s:=by
 subst e
 exact ⟨.bl k,H,I,rfl,q⟩
theorem B3:OpR X (compareOp .Eq) rEq:=by
 intro pins s σ H x y v u Q I rx ry h
 obtain ⟨hs,q⟩:=h
 cases x with
 | non=>
  cases rx
  cases y with
  | non=>cases ry; exact PySem.EqNone.eq_none_none (i9 I q (by simp))
  | bl j=>cases ry; exact PySem.EqNone.eq_none_bool (i9 I q (by simp))
  | int j=>obtain ⟨t',rfl⟩:=ry; exact PySem.EqNone.eq_none_int (i9 I q (by simp))
  | str j=>obtain ⟨t',rfl⟩:=ry; exact PySem.EqNone.eq_none_str (i9 I q (by simp))
  | _=>exact absurd (show false=true from hs) Bool.false_ne_true
 | bl i=>
  cases rx
  cases y with
  | non=>cases ry; exact PySem.EqNone.eq_bool_none (i9 I q (by simp))
  | bl j=>cases ry; exact eq_bool (i9 I q nv)
  | str j=>obtain ⟨t',rfl⟩:=ry; exact PySem.EqMixed.eq_bool_str (i9 I q (by simp))
  | _=>exact absurd (show false=true from hs) Bool.false_ne_true
 | int i=>
  obtain ⟨t,rfl⟩:=rx
  cases y with
  | non=>cases ry; exact PySem.EqNone.eq_int_none (i9 I q (by simp))
  | int j=>obtain ⟨t',rfl⟩:=ry; exact eq_int (i9 I q jj)
  | str j=>obtain ⟨t',rfl⟩:=ry; exact PySem.EqMixed.eq_int_str (i9 I q (by simp))
  | _=>exact absurd (show false=true from hs) Bool.false_ne_true
 | str i=>
  obtain ⟨t,rfl⟩:=rx
  cases y with
  | non=>cases ry; exact PySem.EqNone.eq_str_none (i9 I q (by simp))
  | bl j=>cases ry; exact PySem.EqMixed.eq_str_bool (i9 I q (by simp))
  | int j=>obtain ⟨t',rfl⟩:=ry; exact PySem.EqMixed.eq_str_int (i9 I q (by simp))
  | str j=>obtain ⟨t',rfl⟩:=ry; exact eq_str (i9 I q ji)
  | _=>exact absurd (show false=true from hs) Bool.false_ne_true
 | byt i=>
  obtain ⟨t,rfl⟩:=rx
  cases y with
  | byt j=>obtain ⟨t',rfl⟩:=ry; exact PySem.W.eq_bytes (i9 I q jk)
  | _=>exact absurd (show false=true from hs) Bool.false_ne_true
 | _=>cases y <;> exact absurd (show false=true from hs) Bool.false_ne_true
theorem jQ:OpR X (compareOp .NotEq) rNe:=by
 intro pins s σ H x y v u Q I rx ry h
 obtain ⟨hs,q⟩:=h
 cases x with
 | non=>
  cases rx
  cases y with
  | non=>cases ry; exact PySem.EqNone.ne_none_none (i9 I q (by simp))
  | bl j=>cases ry; exact PySem.EqNone.ne_none_bool (i9 I q (by simp))
  | int j=>obtain ⟨t',rfl⟩:=ry; exact PySem.EqNone.ne_none_int (i9 I q (by simp))
  | str j=>obtain ⟨t',rfl⟩:=ry; exact PySem.EqNone.ne_none_str (i9 I q (by simp))
  | _=>exact absurd (show false=true from hs) Bool.false_ne_true
 | bl i=>
  cases rx
  cases y with
  | non=>cases ry; exact PySem.EqNone.ne_bool_none (i9 I q (by simp))
  | bl j=>cases ry; exact ne_bool (i9 I q (congrArg not nv))
  | str j=>obtain ⟨t',rfl⟩:=ry; exact PySem.EqMixed.ne_bool_str (i9 I q (by simp))
  | _=>exact absurd (show false=true from hs) Bool.false_ne_true
 | int i=>
  obtain ⟨t,rfl⟩:=rx
  cases y with
  | non=>cases ry; exact PySem.EqNone.ne_int_none (i9 I q (by simp))
  | int j=>obtain ⟨t',rfl⟩:=ry; exact ne_int (i9 I q (congrArg not jj))
  | str j=>obtain ⟨t',rfl⟩:=ry; exact PySem.EqMixed.ne_int_str (i9 I q (by simp))
  | _=>exact absurd (show false=true from hs) Bool.false_ne_true
 | str i=>
  obtain ⟨t,rfl⟩:=rx
  cases y with
  | non=>cases ry; exact PySem.EqNone.ne_str_none (i9 I q (by simp))
  | bl j=>cases ry; exact PySem.EqMixed.ne_str_bool (i9 I q (by simp))
  | int j=>obtain ⟨t',rfl⟩:=ry; exact PySem.EqMixed.ne_str_int (i9 I q (by simp))
  | str j=>obtain ⟨t',rfl⟩:=ry; exact ne_str (i9 I q (congrArg not ji))
  | _=>exact absurd (show false=true from hs) Bool.false_ne_true
 | byt i=>
  obtain ⟨t,rfl⟩:=rx
  cases y with
  | byt j=>obtain ⟨t',rfl⟩:=ry; exact PySem.W.ne_bytes (i9 I q (congrArg not jk))
  | _=>exact absurd (show false=true from hs) Bool.false_ne_true
 | _=>cases y <;> exact absurd (show false=true from hs) Bool.false_ne_true
theorem jR:OpR X (compareOp .Lt) (rI0 fun i j=>.bl (decide (i<j))):=xG fun _ _ _ _ _ _ _ q=>lt_int q
theorem R8:OpR X (compareOp .Gt) (rI0 fun i j=>.bl (decide (j<i))):=xG fun _ _ _ _ _ _ _ q=>gt_int q
theorem xE:OpR X (compareOp .Is) (fun x y H Q=>y=.non/\Q (.bl (decide (x=.non))) H):=by
 intro pins s σ H x y v u Q I rx ry h
 obtain ⟨rfl,q⟩:=h
 cases ry
 refine is_none_gen (i9 I q ?_)
 cases x <;> first
  | (cases rx; rfl)
  | (obtain ⟨t,rfl⟩:=rx; rfl)
theorem de:OpR X (compareOp .IsNot) (fun x y H Q=>y=.non/\Q (.bl (!decide (x=.non))) H):=by
 intro pins s σ H x y v u Q I rx ry h
 obtain ⟨rfl,q⟩:=h
 cases ry
 refine isnot_none_gen (i9 I q ?_)
 cases x <;> first
  | (cases rx; rfl)
  | (obtain ⟨t,rfl⟩:=rx; rfl)
theorem fY (b:Expr) {op:CmpOp} (h:op≠.In:=by decide) (h2:op≠.NotIn:=by decide):behindInMarks op b=false:=by
 have e1:(op == CmpOp.In)=false:=by cases op <;> first | rfl | exact absurd rfl h
 have e2:(op == CmpOp.NotIn)=false:=by cases op <;> first | rfl | exact absurd rfl h2
 cases b <;> simp [behindInMarks,e1,e2]
theorem tL {op:CmpOp} {r:R2} (ho:OpR X (compareOp op) r) (ha:PE X a ta) (hb:PE X b tb) (hm:behindInMarks op b=false):PE X (.Compare a [op] [b] pos) (tOp r ta tb):=by
 intro pins s σ H Q I h
 exact wpAny_Compare1 (qJ ha hb I h fun v u s2 x y H2 I2 rx ry q=>ho pins s2 σ H2 x y v u Q I2 rx ry q) hm
def qR (t:TE):TT:=fun σ H Q=>t σ H fun x H'=>∃ k,x=.bl k/\Q k H'
theorem tx {op:CmpOp} {r:R2} (ho:OpR X (compareOp op) r) (ha:PE X a ta) (hb:PE X b tb) (hm:behindInMarks op b=false):PT X (.Compare a [op] [b] pos) (qR (tOp r ta tb)):=by
 intro pins s σ H Q I h
 refine wpAny_isTrue_Compare1 (thn (ha pins s σ H _ I h) fun v s1 ⟨x,H1,I1,r1,q1⟩=>thn (hb pins s1 σ H1 _ I1 q1) fun u s2 ⟨y,H2,I2,r2,q2⟩=>
  thn (ho pins s2 σ H2 x y v u _ I2 r1 r2 q2) fun c s3 ⟨z,H3,I3,r3,k,e,q3⟩=>?_) hm
 subst e
 cases r3
 exact wpAny_truthy_bool ⟨H3,I3,q3⟩
theorem U8:(sizeLine:Nat)<2^63:=by rw [sizeLine_eq]; decide
theorem vals1 {x:V} {us:List Value} (r:Vals [x] us):∃ u,us = [u]/\RelV x u:=by
 cases r with
 | cons r1 r2=>cases r2; exact ⟨_,rfl,r1⟩
theorem vals2 {x y:V} {us:List Value} (r:Vals [x,y] us):∃ u w',us = [u,w']/\RelV x u/\RelV y w':=by
 cases r with
 | cons r1 r2=>
  cases r2 with
  | cons r3 r4=>cases r4; exact ⟨_,_,rfl,r1,r3⟩
end
end L2
namespace L2
open PySem PySem.Spec PyProof.Rows
structure ObjM (h:Heap) (x dx C:Addr) (mA:Str->Option Value):Prop where
 obj:h.get? x=some (PySem.W.instObj C dx)
 ns:h.Ns1 dx mA
 ne:dx≠x
theorem mL {h:Heap} {dx:Addr} {mA:Str->Option Value} (n:h.Ns1 dx mA):∃ od,h.get? dx=some od/\∀ name,PySem.W.lookIn name od=some (mA name):=by
 obtain ⟨o,es,ep,ho,hd,hk,_,hm⟩:=n
 refine ⟨o,ho,fun name=>?_⟩
 have e:=hm name
 unfold nsFind findBy at e
 rw [<- Array.find?_toList] at e
 unfold PySem.W.lookIn
 rw [hd]
 dsimp only
 split
 ·rename_i y q
  rw [q] at e
  exact congrArg some e
 ·rename_i q
  rw [q] at e
  have a:es.toList.any (·.refKey)=false:=by
   rw [List.any_eq_false]
   intro y hy
   obtain ⟨z,t,hkey⟩:=hk y (Array.mem_toList_iff.mp hy)
   simp [DictEntry.refKey,hkey]
  have a':¬ es.toList.any (·.refKey)=true:=by rw [a]; exact Bool.false_ne_true
  rw [if_neg a']
  exact congrArg some e
theorem ObjM.look {h:Heap} {x dx C:Addr} {mA:Str->Option Value} (I:ObjM h x dx C mA):∃ od,PySem.W.InstAt h x (PySem.W.instObj C dx) C (some od)/\∀ name,PySem.W.lookIn name od=some (mA name):=
 let ⟨od,ho,hl⟩:=mL I.ns
 ⟨od,⟨I.obj,rfl,rfl,ho⟩,hl⟩
section
variable {prog:Program} {w:World} {A:Around} {E:Value->Shared->Prop} {s:Shared} {K:Frag} {x dx C f:Addr} {mA:Str->Option Value} {name:Str} {v:Value}
end
section
variable {P:Program} {w:World} {H H':Hp} {h h':Heap} {a C dx:Addr} {fs fs':List (Str×V)}
theorem ux (hok:HOk P w H h) (e:H a=some (.ins C dx fs)):∃ mA,ObjM h a dx C mA/\(∀ f,RelO (fs.lookup f) (mA f))/\PySem.Within mA (fs.map (·.1))/\fs.length<=1000/\H dx=some (.own a):=by
 obtain ⟨d,z,ne,ob,mA,n,r,q⟩:=(show ObjOk P w H h a (.ins C dx fs) from hok a _ e)
 exact ⟨mA,⟨ob,n,ne⟩,r,q,z,d⟩
end
structure Cls (K:Frag) (C:Addr):Prop where
 pg:PySem.W.plainGet K C Str.empty=true
 hd:PySem.W.hasDictIn K C=true
 po:PySem.W.plainOver K C=true
 sa:PySem.W.findIn K (.ref C) "__setattr__" = some (some (.builtin "object.__setattr__"))
theorem Cls.get {K:Frag} {C:Addr} (c:Cls K C) (f:Str):PySem.W.plainGet K C f=true:=c.pg
section
variable {X:Cx} {pins:List (Addr×Obj)} {σ:St} {H:Hp} {s:Shared} {a C dx:Addr} {fs:List (Str×V)} {f:Str} {v:V} {A:Around} {E:Value->Shared->Prop}
end
section
variable {X:Cx} {o e value:Expr} {f:Str} {pos pos' tpos:Pos} {ta tv:TE}
end
section
variable {X:Cx} {pins:List (Addr×Obj)} {σ:St} {H:Hp} {s:Shared} {A:Around} {E:Value->Shared->Prop} {Q:Value->Shared->Prop} {c:Value} {b:Bool}
inductive L7 (K:Frag) (H:Hp):V->Value->Prop where
 | non:L7 K H .non (.type "NoneType")
 | bl (x:Bool):L7 K H (.bl x) (.type "bool")
 | int (i:Int):L7 K H (.int i) (.type "int")
 | str (x:Str):L7 K H (.str x) (.type "str")
 | flt (x:UInt64):L7 K H (.flt x) (.type "float")
 | lst {a:Addr} {xs:List V} (e:H a=some (.lst xs)):L7 K H (.ref a) (.type "list")
 | frz {a:Addr} {o:Obj} {xs:List V} (e:H a=some (.frz o (.lst xs))):L7 K H (.ref a) (.type "list")
 | tup {a:Addr} {xs:List V} (e:H a=some (.tup xs)):L7 K H (.ref a) (.type "tuple")
 | dK {a:Addr} {kvs:List (Key×V)} (e:H a=some (.dK kvs)):L7 K H (.ref a) (.type "dict")
 | dT {a:Addr} {kvs:List (List Key×V)} (e:H a=some (.dT kvs)):L7 K H (.ref a) (.type "dict")
 | ins {a C dx:Addr} {fs:List (Str×V)} (e:H a=some (.ins C dx fs)) (cl:Cls K C) (ha:PySem.W.findIn K (.ref C) "__class__" = some (some (.builtin "object.__class__")))
   (hn:PySem.W.specialIn K (.builtin "object.__class__") "__get__" = some (some (.builtin "getset_descriptor.__get__"))) (htk:PySem.W.takesIn K (.builtin "object.__class__")=some true)
   (hm:PySem.W.mroIn K C (.type "object")=some true):L7 K H (.ref a) (.ref C)
theorem mV {x:V} {u t:Value} (I:Inv X pins σ H s) (rx:RelV x u) (ty:L7 X.K H x t) (e:PySem.W.kitOne X.K t c=some b) (h:∀ tk,Q (.bool b) { s with toks:=tk }) :
  wpAny (model X.prog X.w) A (call (.builtin "isinstance") [u,c]) Q E s:=by
 cases ty with
 | non=>cases (show u=Value.none from rx); exact PySem.W.kia_one PySem.W.kitx_none I.kIn True.intro e (fun z=>nomatch z) h
 | bl y=>cases (show u=Value.bool y from rx); exact PySem.W.kia_one PySem.W.kitx_bool I.kIn True.intro e (fun z=>nomatch z) h
 | int i=>obtain ⟨t,q⟩:=(show ∃ t,u=Value.int i t from rx); cases q; exact PySem.W.kia_one PySem.W.kitx_int I.kIn True.intro e (fun z=>nomatch z) h
 | str y=>obtain ⟨t,q⟩:=(show ∃ t,u=Value.str y t from rx); cases q; exact PySem.W.kia_one PySem.W.kitx_str I.kIn True.intro e (fun z=>nomatch z) h
 | flt y=>obtain ⟨t,q⟩:=(show ∃ t,u=Value.float y t from rx); cases q; exact PySem.W.kia_one PySem.W.kitx_float I.kIn True.intro e (fun z=>nomatch z) h
 | @lst a xs ea=>
  cases (show u=Value.ref a from rx)
  obtain ⟨_,_,n,_,h1⟩:=(show ObjOk X.prog X.w H s.heap a (.lst xs) from I.hok a _ ea)
  exact PySem.W.kia_one PySem.W.kitx_list I.kIn ⟨_,h1,rfl⟩ e (fun z=>nomatch z) h
 | @frz a ob xs ea=>
  cases (show u=Value.ref a from rx)
  obtain ⟨_,_,_,n,_,h1⟩:=(show ObjOk X.prog X.w H s.heap a (.frz ob (.lst xs)) from I.hok a _ ea)
  exact PySem.W.kia_one PySem.W.kitx_list I.kIn ⟨_,h1,rfl⟩ e (fun z=>nomatch z) h
 | @tup a xs ea=>
  cases (show u=Value.ref a from rx)
  obtain ⟨_,_,_,p⟩:=(show ObjOk X.prog X.w H s.heap a (.tup xs) from I.hok a _ ea)
  obtain ⟨o,h1,h2,_⟩:=p
  exact PySem.W.kia_one PySem.W.kitx_tuple I.kIn ⟨o,h1,h2⟩ e (fun z=>nomatch z) h
 | @dK a kvs ea=>
  cases (show u=Value.ref a from rx)
  obtain ⟨_,_,vs,_,p⟩:=(show ObjOk X.prog X.w H s.heap a (.dK kvs) from I.hok a _ ea)
  obtain ⟨o,es,ep,h1,h2,_⟩:=p
  exact PySem.W.kia_one PySem.W.kitx_dict I.kIn ⟨o,h1,h2.1⟩ e (fun z=>nomatch z) h
 | @dT a kvs ea=>
  cases (show u=Value.ref a from rx)
  obtain ⟨_,_,xs,_,o,es,ep,h1,h2,_⟩:=(show ObjOk X.prog X.w H s.heap a (.dT kvs) from I.hok a _ ea)
  exact PySem.W.kia_one PySem.W.kitx_dict I.kIn ⟨o,h1,h2.1⟩ e (fun z=>nomatch z) h
 | @ins a C dx fs ea cl ha hn htk hm=>
  cases (show u=Value.ref a from rx)
  obtain ⟨mA,O,_⟩:=ux I.hok ea
  obtain ⟨od,J,_⟩:=O.look
  exact PySem.W.kia_one (PySem.W.kitx_own (cl.get _) cl.hd ha hn htk hm) I.kIn J e (fun z=>nomatch z) h
end
end L2
namespace L2
open PySem PySem.Spec PyProof.Rows
structure Room (k:Nat) (A:Around):Prop where
 hd:A.handled=none
 dp:A.depth+3*k+5<recursionLimit
 un:A.units+16*k+200<cLine
theorem Room.mono {j k:Nat} {A:Around} (r:Room k A) (h:j<=k):Room j A:=⟨r.hd,by have:=r.dp; omega,by have:=r.un; omega⟩
theorem Room.deeper {k:Nat} {A:Around} (r:Room (k+1) A) (env:Env):Room k (A.deeper env):=
 ⟨r.hd,by have:=r.dp; show A.depth+1+3*k+5<_; omega,by have:=r.un; show A.units+3+16*k+200<_; omega⟩
theorem Room.in1 {k:Nat} {A:Around} (r:Room (k+1) A):Room k A.in1:=
 ⟨r.hd,by have:=r.dp; show A.depth+3*k+5<_; omega,by have:=r.un; show A.units+1+16*k+200<_; omega⟩
theorem Room.depth {k:Nat} {A:Around} (r:Room k A):A.depth<recursionLimit:=by have:=r.dp; omega
theorem Room.units {k:Nat} {A:Around} (r:Room k A):A.units+64<cLine:=by have:=r.un; omega
def tNil:TA:=fun _ H Q=>Q [] H
def qV (ta:TE) (tr:TA):TA:=fun σ H Q=>ta σ H fun x H1=>tr σ H1 fun xs H2=>Q (x::xs) H2
section
variable {X:Cx} {e:Expr} {es:List Expr} {te:TE} {t:TA} {pos:Pos}
theorem pa_nil:PA X [] tNil:=fun _ _ _ _ H Q I h=>Calls.spliced_nil ⟨[],H,I,.nil,h⟩
theorem iN (ha:PE X e te) (hr:PA X es t) (hs:starEach (e::es) X.env=(false,eval e X.env)::starEach es X.env:=by rfl):PA X (e::es) (qV te t):=by
 intro pos pins s σ H Q I h
 rw [hs]
 show wpAny _ _ (spliced ((false,eval e X.env)::backTo pos (starEach es X.env))) _ _ s
 refine Calls.spliced_cons (thn (ha pins s σ H _ I h) fun u s1 zz33=>?_)
 obtain ⟨x,H1,I1,r1,q1⟩:=zz33
 exact thn (hr pos pins s1 σ H1 _ I1 q1) fun us s2 zz34=>by obtain ⟨xs,H2,I2,r2,q2⟩:=zz34; exact ⟨x::xs,H2,I2,.cons r1 r2,q2⟩
def on (t:TA):TE:=fun σ H Q=>t σ H fun xs H1=>xs.length<=sizeLine/\∀ p,H1 p=none->Q (.ref p) (upd H1 p (.tup xs))
def vN (t:TA):TE:=fun σ H Q=>t σ H fun xs H1=>xs.length<=sizeLine/\∀ p,H1 p=none->Q (.ref p) (upd H1 p (.lst xs))
theorem lT {x1} (h:PA X es t):PE X (.Tuple es x1 pos) (on t):=by
 intro pins s σ H Q I hq
 refine wpAny_Tuple_spliced (thn (h pos pins s σ H _ I hq) fun us s1 ⟨xs,H1,I1,r,z,q⟩=>⟨by rw [<- r.length]; exact z,?_⟩)
 have hf:H1 s1.heap.objs.size=none:=I1.hok.fresh (Nat.le_refl _)
 refine ⟨.ref s1.heap.objs.size,upd H1 s1.heap.objs.size (.tup xs),I1.laid (t':=s1.toks) (fun b u e=>Heap.get?_push_of_some _ e) (Nat.le_refl _) ?_,rfl,q _ hf⟩
 exact ⟨z,us,r,⟨_,Heap.get?_push_size _ rfl,rfl,_,rfl⟩⟩
theorem xz (h:PA X es t):PE X (.List es pos) (vN t):=by
 intro pins s σ H Q I hq
 refine wpAny_List_spliced (thn (h pos pins s σ H _ I hq) fun us s1 ⟨xs,H1,I1,r,z,q⟩=>⟨by rw [<- r.length]; exact z,?_⟩)
 have hf:H1 s1.heap.objs.size=none:=I1.hok.fresh (Nat.le_refl _)
 refine ⟨.ref s1.heap.objs.size,upd H1 s1.heap.objs.size (.lst xs),I1.laid (t':=s1.toks) (fun b u e=>Heap.get?_push_of_some _ e) (Nat.le_refl _) ?_,rfl,q _ hf⟩
 exact ⟨z,us,0,r,Heap.get?_push_size _ rfl⟩
end
abbrev Sp:=List V->Hp->VK->XK->Prop
abbrev CXT:=List Env->Hp->Shared->XK->Value->Shared->Prop
structure kL (P:Program) (w:World) (K:Frag) (mg:Str->Option Value) (base:Heap) (A:Around) (outer:List Env) (s:Shared) (H:Hp):Prop where
 frames:A.frames=some outer
 mod:Mod K mg base
 bs:∀ b o,base.get? b=some o->s.heap.get? b=some o/\H b=none
 bsz:base.objs.size<=s.heap.objs.size
 funs:s.heap.FunFrames base outer
 frf:∀ b∈frs outer,H b=none
 hok:HOk P w H s.heap
 bare:AllBare s.gens
 tab:∀ p∈lamT,H p.1=some (.tbl p.2)
def CE (outer:List Env) (P:Program) (w:World) (H:Hp) (s:Shared) (Q:VK) (u:Value) (s':Shared):Prop:=
 ∃ v H',s'.os=s.os/\AllBare s'.gens/\Un (frs outer) [] H H' s.heap s'.heap/\HOk P w H' s'.heap/\RelV v u/\Q v H'
def CR (CX:CXT) (outer:List Env) (P:Program) (w:World) (H:Hp) (s:Shared) (Q:VK) (E:XK) (r:Result) (s':Shared):Prop:=
 match r with
 | .ok (.ret u)=>CE outer P w H s Q u s'
 | .ok _=>False
 | .error e=>CX outer H s E e s'
structure FnOk (P:Program) (w:World) (K:Frag) (mg:Str->Option Value) (base:Heap) (CX:CXT) (k:Nat) (f:Addr) (fd:FuncData) (ps:List Str) (sp:Sp):Prop where
 len:∀ vs H Q E,sp vs H Q E->vs.length=ps.length
 run:∀ (A:Around) (outer:List Env) (s:Shared) (H:Hp) (args:Args) (us:List Value) (vs:List V) (Q:VK) (E:XK),Room k A->kL P w K mg base A outer s H->BindsTo s fd args (ps.zip us)->Vals vs us->sp vs H Q E ->
  codeAny (model P w) A (.call (.ref f) args) (CR CX outer P w H s Q E) s
theorem FnOk.imp {P:Program} {w:World} {K:Frag} {mg:Str->Option Value} {base:Heap} {CX:CXT} {k:Nat} {f:Addr} {fd:FuncData} {ps:List Str} {sp sp':Sp} (F:FnOk P w K mg base CX k f fd ps sp)
  (h:∀ vs H Q E,sp' vs H Q E->sp vs H Q E):FnOk P w K mg base CX k f fd ps sp':=
 ⟨fun vs H Q E q=>F.len vs H Q E (h _ _ _ _ q),fun A outer s H args us vs Q E hr he hb hv hs=>F.run A outer s H args us vs Q E hr he hb hv (h _ _ _ _ hs)⟩
section
variable {X:Cx} {pins:List (Addr×Obj)} {σ:St} {H:Hp} {s s':Shared}
theorem Inv.env0 (I:Inv X pins σ H s):kL X.prog X.w X.K X.mg X.base X.A X.stack s H:=
 ⟨I.ok.frames,I.ok.mod,I.bs,Nat.le_trans I.ok.bsz I.sz,I.stack,I.stkFree,I.hok,I.bare,I.tab⟩
theorem Inv.after {Q:VK} {u:Value} (I:Inv X pins σ H s) (h:CE X.stack X.prog X.w H s Q u s'):EP X pins σ Q u s':=by
 obtain ⟨v,H',os,bare,un,hok,r,q⟩:=h
 obtain ⟨hh,g,d,t,os'⟩:=s'
 obtain rfl:os'=s.os:=os
 exact ⟨v,H',I.call (h':=hh) (g':=g) (d':=d) (t':=t) (ch:=[]) un hok bare (fun b z=>absurd z (by simp)),r,q⟩
end
def jB (sp:Sp) (dvs:List V) (E:XK) (t:TA):TE:=fun σ H Q=>t σ H fun vs H1=>sp (vs++dvs) H1 Q E
def Binds (K:Frag) (fd:FuncData) (ps:List Str) (ds:List Value):Prop:=
 ∀ (s:Shared) (us:List Value),K.In s.heap->(us++ds).length=ps.length->BindsTo s fd ⟨us,[]⟩ (ps.zip (us++ds))
theorem Binds.all {K:Frag} {fd:FuncData} {ps:List Str} (h:∀ us:List Value,us.length=ps.length->bindArgs fd ⟨us,[]⟩=pure (ps.zip us)):Binds K fd ps []:=fun s us _ hl=>by
 rw [List.append_nil] at hl ⊢
 exact .of_eq (h us hl)
def hV (CX:CXT) (X:Cx) (E:XK):Prop:=∀ (pins:List (Addr×Obj)) (σ:St) (H:Hp) (s:Shared) (e:Value) (s':Shared),Inv X pins σ H s->CX X.stack H s E e s'->X.xe e s'
section
variable {X:Cx} {CX:CXT} {k:Nat} {f C:Addr} {fd:FuncData} {ps:List Str} {sp:Sp} {dvs:List V} {ds:List Value} {E:XK} {x m:Str} {p pos apos:Pos} {e o:Expr} {es:List Expr} {ta:TE} {t:TA}
theorem wm {pins:List (Addr×Obj)} {σ:St} {H:Hp} {s:Shared} {Q:VK} {us:List Value} {vs:List V} (F:FnOk X.prog X.w X.K X.mg X.base CX k f fd ps sp) (hr:Room k X.A) (hb:Binds X.K fd ps ds) (hd:Vals dvs ds) (hx:hV CX X E)
  (I:Inv X pins σ H s) (r:Vals vs us) (h:sp (vs++dvs) H Q E):wpAny (model X.prog X.w) X.A (call (.ref f) us) (EP X pins σ Q) X.xe s:=by
 have r2:Vals (vs++dvs) (us++ds):=r.append hd
 have hl:(us++ds).length=ps.length:=by rw [<- r2.length]; exact F.len _ _ _ _ h
 refine wpAny_call (codeAny_mono (F.run X.A X.stack s H ⟨us,[]⟩ (us++ds) (vs++dvs) Q E hr I.env0 (hb s us I.kIn hl) r2 h) fun r s' hq=>?_)
 cases r with
 | error e=>exact hx pins σ H s e s' I hq
 | ok fl=>
  cases fl with
  | ret u=>exact I.after hq
  | next=>exact False.elim hq
  | brk=>exact False.elim hq
  | cont=>exact False.elim hq
theorem iM (F:FnOk X.prog X.w X.K X.mg X.base CX k f fd ps sp) (hr:Room k X.A) (hg:Gl X x) (hm:X.mg x=some (.ref f)) (hk:PySem.W.keepIn X.K (.ref f)=true) (hb:Binds X.K fd ps ds) (hd:Vals dvs ds) (hx:hV CX X E)
  (ha:PA X (e::es) t) (hdb:(x == ("__debug__" : Str))=false:=by decide) (he:starEach (e::es) X.env=(false,eval e X.env)::starEach es X.env:=by rfl) (hpl:(backTo pos (starEach es X.env)).any (·.1)=false:=by rfl) :
  PE X (.Call (.Name x p) (e::es) [] pos) (jB sp dvs E t):=by
 intro pins s σ H Q I h
 refine wpAny_Call_Name_kw (ur I hg hm ?_ hdb)
 refine PySem.W.callWith_K (h₀:=X.base) I.ok.mod.kin hk (thn (ha pos pins s σ H _ I h) fun us s1 ⟨vs,H1,I1,r,q⟩=>⟨I1.kIn,?_⟩) he hpl
 exact wm F hr hb hd hx I1 r q
structure Mk (K:Frag) (C f:Addr):Prop where
 makes:PySem.W.makesIn K C=true
 init:PySem.W.findIn K (.ref C) "__init__" = some (some (.ref f))
 fn:PySem.W.isFn K (.ref f)=true
 kp:PySem.W.keepIn K (.ref C)=true
end
section
variable {X:Cx} {CX:CXT} {k:Nat} {f C:Addr} {fd:FuncData} {ps ks:List Str} {sp:Sp} {E:XK} {x m:Str} {p pos apos kpos:Pos} {e o:Expr} {es:List Expr} {kws:List Keyword} {te ta:TE} {t tk:TA} {nm:Option Str}
variable {g:List Value->List Value->List Value} {gV:List V->List V->List V}
end
structure f8 (N P:List Str) (sc:Scope):Prop where
 kind:sc.kind=.function
 co:sc.isCoroutine=false
 gen:sc.isGenerator=false
 nd:N.Nodup
 pre:N.take P.length=P
 par:∀ x∈P,sc.names.lookup x=some .local\/sc.names.lookup x=some .cell
 nofree:∀ y∈sc.names,y.2≠.free
theorem nL {kindOf:Str->Option NameKind} {x:Str}:∀ {binds:List (Str×Value)} {m:Str->Option Value},(∀ v,(x,v)∉binds)->bindL kindOf binds m x=m x:=by
 intro binds
 induction binds with
 | nil=>intro m _; rfl
 | cons p r ih=>
  intro m h
  unfold bindL
  rw [ih fun w hw=>h w (List.mem_cons_of_mem _ hw)]
  split
  ·have:x≠p.1:=by rintro rfl; exact h p.2 List.mem_cons_self
   simp [this]
  ·rfl
theorem nN {kindOf:Str->Option NameKind} {x:Str}:∀ {binds:List (Str×Value)} {m:Str->Option Value},(∀ v,(x,v)∉binds)->bindC kindOf binds m x=m x:=by
 intro binds
 induction binds with
 | nil=>intro m _; rfl
 | cons p r ih=>
  intro m h
  unfold bindC
  rw [ih fun w hw=>h w (List.mem_cons_of_mem _ hw)]
  split
  ·rfl
  ·have:x≠p.1:=by rintro rfl; exact h p.2 List.mem_cons_self
   simp [this]
theorem nM {kindOf:Str->Option NameKind} {x:Str} {v:Value}:∀ {P:List Str} {vs:List Value} {i:Nat} {m:Str->Option Value},P.Nodup->P[i]?=some x->vs[i]?=some v->kindOf x=some .local ->
  bindL kindOf (P.zip vs) m x=some v:=by
 intro P
 induction P with
 | nil=>intro vs i m _ h _ _; cases h
 | cons p P ih=>
  intro vs i m nd h1 h2 hk
  cases vs with
  | nil=>cases h2
  | cons w vs=>
   show bindL kindOf ((p,w)::P.zip vs) m x=_
   unfold bindL
   cases i with
   | zero=>
    cases h1
    cases h2
    rw [nL fun v hv=>(List.nodup_cons.mp nd).1 (List.of_mem_zip hv).1,if_pos hk]
    simp
   | succ i=>exact ih (List.nodup_cons.mp nd).2 h1 h2 hk
theorem nO {kindOf:Str->Option NameKind} {x:Str} {v:Value}:∀ {P:List Str} {vs:List Value} {i:Nat} {m:Str->Option Value},P.Nodup->P[i]?=some x->vs[i]?=some v->kindOf x≠some .local ->
  bindC kindOf (P.zip vs) m x=some v:=by
 intro P
 induction P with
 | nil=>intro vs i m _ h _ _; cases h
 | cons p P ih=>
  intro vs i m nd h1 h2 hk
  cases vs with
  | nil=>cases h2
  | cons w vs=>
   show bindC kindOf ((p,w)::P.zip vs) m x=_
   unfold bindC
   cases i with
   | zero=>
    cases h1
    cases h2
    rw [nN fun v hv=>(List.nodup_cons.mp nd).1 (List.of_mem_zip hv).1,if_neg hk]
    simp
   | succ i=>exact ih (List.nodup_cons.mp nd).2 h1 h2 hk
def start (N:List Str) (vs:List V):St:=vs.map some++List.replicate (N.length-vs.length) none
def T6 (CX:CXT) (P:Program) (w:World) (K:Frag) (mg:Str->Option Value) (base:Heap) (N:List Str) (qual:Str) (scope:Scope) (f:Addr) (cd:Value) (A:Around) (outer:List Env) (s:Shared) (H:Hp) (E:XK):Cx where
 prog:=P
 w:=w
 K:=K
 mg:=mg
 base:=base
 A:=A.deeper (envOfC qual scope s.heap.objs.size f cd)
 N:=N
 s₀:=s
 H₀:=H
 env:=envOfC qual scope s.heap.objs.size f cd
 outer:=outer
 stack:=envOfC qual scope s.heap.objs.size f cd::outer
 ex:=[]
 calm:=true
 fn:=fun _=>true
 pn:=[]
 xe:=fun e s'=>wpAny (model P w) (A.deeper (envOfC qual scope s.heap.objs.size f cd)) (leaving (envOfC qual scope s.heap.objs.size f cd) e) (fun _ s''=>CX outer H s E e s'') (fun e' s''=>CX outer H s E e' s'') s'
theorem gM {sc:Scope} {n:Nat} {x:Str} (h:sc.names.lookup x=some .cell):∃ c,(cellsFrom n sc.names []).lookup x=some c:=by
 have q:=PySem.W.cellsFrom_some sc.names n [] (.inl h)
 exact Option.isSome_iff_exists.mp q
theorem mY {CX:CXT} {P:Program} {w:World} {K:Frag} {mg:Str->Option Value} {base:Heap} {N ps:List Str} {qual:Str} {scope:Scope} {f:Addr} {cd:Value} {A:Around} {outer:List Env} {s s1:Shared} {H:Hp} {E:XK} {us:List Value} {vs:List V}
  (S:f8 N ps scope) (hd:A.handled=none) (e0:kL P w K mg base A outer s H) (hl:vs.length=ps.length) (r:Vals vs us)
  (x:InCallC s s.heap.objs.size (bindL (envOfC qual scope s.heap.objs.size f cd).kindOf (ps.zip us) fun _=>none) (cellsFrom (s.heap.objs.size+1) scope.names []) (bindC (envOfC qual scope s.heap.objs.size f cd).kindOf (ps.zip us) fun _=>none) s1) :
  Inv (T6 CX P w K mg base N qual scope f cd A outer s H E) [] (start N vs) H s1:=by
 have hpl:ps.length<=N.length:=by have:=congrArg List.length S.pre; rw [List.length_take] at this; omega
 obtain ⟨h1,tk,rfl,hk⟩:=x.done
 have noA:∀ b:Addr,b∉(T6 CX P w K mg base N qual scope f cd A outer s H E).ex:=fun b z=>absurd (show b∈([]:List Addr) from z) (by simp)
 refine ⟨⟨e0.mod,S.kind,rfl,rfl,Nat.le_refl _,fun y z c h1 h2=>?_,fun y hy=>?_,fun y c _ h=>?_,fun _=>hd,Around.frames_deeper e0.frames,.inr ⟨rfl,rfl⟩,fun b z=>absurd z (noA b),e0.bs,e0.bsz,fun b _ _=>noA b,fun b z=>absurd z (noA b),e0.funs,e0.frf,e0.tab⟩,
  rfl,e0.bare,Un.kept hk,⟨_,x.toInCall.ns,fun i y v h1 h2 h3=>?_⟩,fun y c h=>⟨_,x.cell y c h⟩,e0.hok.fresh (Nat.le_refl _),fun y c h=>?_,fun p hp=>absurd (show p∈([]:List (Addr×Obj)) from hp) (by simp),e0.hok.kept hk,?_⟩
 ·exact name_of_addr x.apart (PySem.mem_of_lookup h1) (PySem.mem_of_lookup h2)
 ·have hy:scope.names.lookup y=some .cell\/scope.names.lookup y=some .free:=hy
  rcases hy with hy | hy
  ·exact gM hy
  ·exact absurd rfl (S.nofree _ (PySem.mem_of_lookup hy))
 ·exact Nat.le_of_lt (x.above y c (PySem.mem_of_lookup h))
 ·have hi:i<vs.length:=by
   unfold start at h2
   by_cases hi:i<vs.length
   ·exact hi
   ·rw [List.getElem?_append_right (by simpa using hi)] at h2
    rw [List.getElem?_replicate] at h2
    split at h2 <;> cases h2
  have ha:vs[i]?=some v:=by
   unfold start at h2
   rw [List.getElem?_append_left (by simpa using hi),List.getElem?_map] at h2
   cases e:vs[i]? with
   | none=>rw [e] at h2; cases h2
   | some a=>rw [e] at h2; cases h2; rfl
  obtain ⟨u,hu,rv⟩:=r.get ha
  have hp:ps[i]?=some y:=by
   rw [<- S.pre,List.getElem?_take_of_lt (by omega)]; exact h1
  have ndP:ps.Nodup:=by rw [<- S.pre]; exact S.nd.sublist (List.take_sublist _ _)
  refine ⟨u,rv,?_⟩
  rcases S.par y (List.mem_of_getElem? hp) with k | k
  ·exact .inl ⟨k,nM ndP hp hu k⟩
  ·obtain ⟨c,e⟩:=gM (n:=s.heap.objs.size+1) k
   refine .inr ⟨.inl k,c,e,?_⟩
   have q:=x.cell y c e
   rw [nO ndP hp hu (by show scope.names.lookup y≠_; rw [k]; decide)] at q
   exact q
 ·exact e0.hok.fresh (Nat.le_of_lt (x.above y c (PySem.mem_of_lookup h)))
 ·unfold start
  show _=N.length
  rw [List.length_append,List.length_map,List.length_replicate]
  omega
theorem rG {CX:CXT} {P:Program} {w:World} {K:Frag} {mg:Str->Option Value} {base:Heap} {k:Nat} {f:Addr} {name qual:Str} {params:Arguments} {body:List Stmt} {scope:Scope} {dV kV doc pm cdv ct oc:Value} {an od:Option Addr}
  {osl:Array (Option Value)} {N ps:List Str} {sp:Sp} (lk:K.lookup f=some ⟨oc,od,.func (PySem.W.fnOf name qual params body scope dV kV doc pm an cdv ct),osl⟩) (hcd:PySem.W.codeIn K cdv qual=true) (S:f8 N ps scope)
  (len:∀ vs H Q E,sp vs H Q E->vs.length=ps.length)
  (hbody:∀ (A:Around) (outer:List Env) (s:Shared) (H:Hp) (vs:List V) (Q:VK) (E:XK),Room k (A.deeper (envOfC qual scope s.heap.objs.size f cdv))->sp vs H Q E ->
   ∃ t,PSs (T6 CX P w K mg base N qual scope f cdv A outer s H E) body t/\t { nx:=fun _ H'=>Q .non H',rt:=Q } (start N vs) H) :
  FnOk P w K mg base CX (k+1) f (PySem.W.fnOf name qual params body scope dV kV doc pm an cdv ct) ps sp:=by
 refine ⟨len,fun A outer s H args us vs Q E hr e0 hb r hsp=>?_⟩
 have hl:=len _ _ _ _ hsp
 have KX:K.In s.heap:=e0.mod.kin.keeps fun b o e=>(e0.bs b o e).1
 have lim:s.heap.NoLimit:=e0.mod.nolimit.keeps fun b o e=>(e0.bs b o e).1
 have hkind:∀ y∈ps.zip us,scope.names.lookup y.1=some .local\/(scope.names.lookup y.1=some .cell/\((cellsFrom (s.heap.objs.size+1) scope.names []).lookup y.1).isSome=true):=fun zz38 hy=>by
  obtain ⟨n,v⟩:=zz38
  rcases S.par n (List.of_mem_zip hy).1 with q | q
  ·exact .inl q
  ·exact .inr ⟨q,PySem.W.cellsFrom_some _ _ _ (.inl q)⟩
 refine codeAny_call_function hr.depth (KX _ _ lk) rfl S.co S.gen rfl (PySem.W.codeRec_of KX hcd) (hb _ _ _ _ ?_)
 refine wpAny_newFunctionEnv_cells S.kind hkind fun env he s1 x=>?_
 subst he
 refine ⟨lim.keeps x.toInCall.keep,codeAny_func ?_⟩
 obtain ⟨t,ht,hq⟩:=hbody A outer s H vs Q E (hr.deeper _) hsp
 have I:Inv (T6 CX P w K mg base N qual scope f cdv A outer s H E) [] (start N vs) H s1:=mY S hr.hd e0 hl r x
 refine wpAny_mono (ht [] s1 (start N vs) H _ I hq) (fun fl s' hs=>?_) fun e s' hs=>hs
 have fin:∀ {σ':St} {H':Hp} {v:V} {u:Value},Inv (T6 CX P w K mg base N qual scope f cdv A outer s H E) [] σ' H' s'->RelV v u->Q v H'->CE outer P w H s Q u s':=
  fun {σ' H' v u} J rv q=>⟨v,H',J.os,J.bare,J.base,J.hok,rv,q⟩
 cases fl with
 | ret u=>
  obtain ⟨v,σ',H',J,rv,q⟩:=hs
  exact fin J rv q
 | next=>
  obtain ⟨σ',H',J,q⟩:=hs
  exact fin (v:=V.non) (u:=Value.none) J rfl q
 | brk=>
  obtain ⟨_,_,_,q⟩:=hs
  exact False.elim q
 | cont=>
  obtain ⟨_,_,_,q⟩:=hs
  exact False.elim q
end L2
namespace L2
open PySem PySem.Spec PyProof.Rows
section
variable {X:Cx} {x:Str} {p pos:Pos} {e:Expr} {es:List Expr} {t:TA} {id T:String} {r:List V->Hp->VK->Prop}
def tCB (r:List V->Hp->VK->Prop) (t:TA):TE:=fun σ H Q=>t σ H fun vs H1=>r vs H1 Q
theorem pw (hc:K6 X (.builtin id) r) (hg:Gl X x) (hm:X.mg x=none) (hv:bootBuiltins x=some (.builtin id)) (ha:PA X (e::es) t) (hn:x ≠ "__name__" := by decide) (hdb:(x == ("__debug__" : Str))=false:=by decide)
  (he:starEach (e::es) X.env=(false,eval e X.env)::starEach es X.env:=by rfl) (hpl:(backTo pos (starEach es X.env)).any (·.1)=false:=by rfl):PE X (.Call (.Name x p) (e::es) [] pos) (tCB r t):=by
 intro pins s σ H Q I h
 refine wpAny_Call_Name_kw (J5 I hg hm hv ?_ hn hdb)
 exact PyProof.Rows.callWith_builtin1 (thn (ha pos pins s σ H _ I h) fun us s1 zz39=>by obtain ⟨vs,H1,I1,r1,q1⟩:=zz39; exact hc pins s1 σ H1 vs us Q I1 r1 q1) he hpl
theorem lV (hc:K6 X (.type T) r) (hg:Gl X x) (hm:X.mg x=none) (hv:bootBuiltins x=some (.type T)) (ha:PA X (e::es) t) (hn:x ≠ "__name__" := by decide) (hdb:(x == ("__debug__" : Str))=false:=by decide)
  (he:starEach (e::es) X.env=(false,eval e X.env)::starEach es X.env:=by rfl) (hpl:(backTo pos (starEach es X.env)).any (·.1)=false:=by rfl):PE X (.Call (.Name x p) (e::es) [] pos) (tCB r t):=by
 intro pins s σ H Q I h
 refine wpAny_Call_Name_kw (J5 I hg hm hv ?_ hn hdb)
 exact PyProof.Rows.callWith_type1 (thn (ha pos pins s σ H _ I h) fun us s1 zz40=>by obtain ⟨vs,H1,I1,r1,q1⟩:=zz40; exact hc pins s1 σ H1 vs us Q I1 r1 q1) he hpl
end
end L2
namespace HT
open PySem PyProof.Rows
def lexLt:List Int->List Int->Bool
 | [],[]=>false
 | [],_::_=>true
 | _::_,[]=>false
 | x::xs,y::ys=>if x=y then lexLt xs ys else decide (x<y)
section
open PySem.SeqAt
open PySem.AutoSeq1 (wpAny_loadPart')
open PySem.MeetsSeq PySem.MeetsSeq2 PySem.MeetsSeq3
end
section
variable {prog:Program} {w:World} {A:Around} {E:Value->Shared->Prop} {s:Shared}
theorem cat_tup {t b:Addr} {vs ws:List Value} {Q:Value->Shared->Prop} (ht:IsTup s.heap t vs.toArray) (hb:IsTup s.heap b ws.toArray) (hv:vs ≠ [])
  (h1:ws = []->Q (.ref t) s) (h2:ws ≠ []->Q (.ref s.heap.objs.size) { s with heap:=s.heap.push { cls:=.type "tuple",data:=.seq (vs++ws).toArray } })
  (hsz:vs.length+ws.length<=sizeLine):wpAny (model prog w) A (binaryOp .Add (.ref t) (.ref b)) Q E s:=by
 obtain ⟨⟨cls,dd,data,sl⟩,ho,hc,n,hd⟩:=id ht
 obtain ⟨⟨cls2,dd2,data2,sl2⟩,ho2,hc2,n2,hd2⟩:=id hb
 simp only at hc hd hc2 hd2
 subst hc hd hc2 hd2
 have e:vs.toArray++ws.toArray=(vs++ws).toArray:=by simp
 by_cases hw:ws = []
 ·exact concat_meets ⟨_,ho,rfl⟩ ⟨_,ho2,rfl⟩ noFill_tuple_add seq_tuple_add PySem.F.slot_tuple_add PySem.F.entry_tuple_add (PySem.F.args_tuple_add_2 _ _)
   (tuple_addW1 t b vs.toArray ws.toArray n n2 dd dd2 sl sl2 (by simpa using hv) (by simp [hw])) ⟨ho,ho2,h1 hw⟩
 ·refine concat_meets ⟨_,ho,rfl⟩ ⟨_,ho2,rfl⟩ noFill_tuple_add seq_tuple_add PySem.F.slot_tuple_add PySem.F.entry_tuple_add (PySem.F.args_tuple_add_2 _ _)
   (tuple_addW2 t b vs.toArray ws.toArray n n2 dd dd2 sl sl2 (by simpa using hv) (by simpa using hw) (by rw [List.size_toArray,List.size_toArray]; exact hsz)) ⟨ho,ho2,?_⟩
  rw [e]
  exact h2 hw
def sIx (n d:Nat):Option Int->Nat
 | none=>d
 | some v=>if v<0 then (v+(n:Int)).toNat else min v.toNat n
theorem sIx_none (n d:Nat):sIx n d none=d:=rfl
theorem sIx_nat (n d k:Nat):sIx n d (some (k:Int))=min k n:=by
 show (if (k:Int)<0 then ((k:Int)+(n:Int)).toNat else min (k:Int).toNat n)=min k n
 rw [if_neg (by omega),Int.toNat_natCast]
theorem lC (n d:Nat) (hd:d<=n) (o:Option Int):sIx n d o<=n:=by
 cases o with
 | none=>exact hd
 | some v=>
  show (if v<0 then (v+(n:Int)).toNat else min v.toNat n)<=n
  by_cases hv:v<0
  ·rw [if_pos hv]; omega
  ·rw [if_neg hv]; exact Nat.min_le_right _ _
theorem jm (v:Int) (n d:Nat):(if v<0 then max (v+(n:Int)) 0 else min v (n:Int))=((sIx n d (some v):Nat):Int):=by
 show (if v<0 then max (v+(n:Int)) 0 else min v (n:Int))=(((if v<0 then (v+(n:Int)).toNat else min v.toNat n):Nat):Int)
 by_cases hv:v<0
 ·simp only [if_pos hv]; omega
 ·simp only [if_neg hv]; omega
theorem kJ (lo hi:Option Int) (n:Nat):Builtin.Slice.sliceAdjust lo hi 1 (n:Int)=(((sIx n 0 lo:Nat):Int),((sIx n n hi:Nat):Int)):=by
 have h1:¬ ((1:Int)<0):=by omega
 unfold Builtin.Slice.sliceAdjust
 simp only [h1,if_false]
 refine Prod.ext ?_ ?_
 ·cases lo with
  | none=>rfl
  | some v=>exact jm v n 0
 ·cases hi with
  | none=>rfl
  | some v=>exact jm v n n
theorem jN (i j:Nat):Builtin.Slice.slicePlaces (i:Int) (j:Int) 1=j-i:=by
 unfold Builtin.Slice.slicePlaces
 have h1:(1:Int)>0:=by omega
 simp only [h1,if_true,Int.ediv_one]
 split <;> omega
theorem bQ {v:Value} {o:Option Int} {Q:Option Int->Shared->Prop} (p:IsPart v o) (h:Q o s):wpAny (model prog w) A (Builtin.Slice.slicePartIndex v) Q E s:=by
 cases p with
 | none=>exact slicePart_none h
 | int i t=>exact slicePart_int h
theorem P1 {sl:Addr} {vl vu:Value} {lo hi:Option Int} {n:Nat} {Q:Int×Int×Nat->Shared->Prop} (hs:s.heap.IsSliceOf sl vl vu .none) (pl:IsPart vl lo) (pu:IsPart vu hi)
  (h:Q (((sIx n 0 lo:Nat):Int),1,sIx n n hi-sIx n 0 lo) s):wpAny (model prog w) A (Builtin.Slice.sliceApplied (.ref sl) (pure (n:Int))) Q E s:=by
 obtain ⟨os,hos,hcs,hds⟩:=id hs
 unfold Builtin.Slice.sliceApplied Builtin.Slice.sliceFields
 refine wpAny_bind (wpAny_bind (wpAny_field hos hds (x:=vl) rfl (wpAny_bind (wpAny_field hos hds (x:=vu) rfl (wpAny_bind (wpAny_field hos hds (x:=.none) rfl (wpAny_pure ?_)))))))
 refine wpAny_bind (slicePart_none ?_)
 show wpAny _ _ (if ((1:Int) == 0)=true then _ else _) _ _ s
 rw [if_neg (by decide)]
 refine wpAny_bind (bQ pl (wpAny_bind (bQ pu (wpAny_bind (wpAny_pure ?_)))))
 show wpAny _ _ (match Builtin.Slice.sliceAdjust lo hi 1 (n:Int) with | (lo,hi)=>pure (lo,(1:Int),Builtin.Slice.slicePlaces lo hi 1)) _ _ s
 rw [kJ lo hi n]
 show wpAny _ _ (pure (((sIx n 0 lo:Nat):Int),(1:Int),Builtin.Slice.slicePlaces ((sIx n 0 lo:Nat):Int) ((sIx n n hi:Nat):Int) 1)) _ _ s
 rw [jN]
 exact wpAny_pure h
theorem pp (xs:Array Value) (i k:Nat):((List.range k).filterMap fun (m:Nat)=>xs[((i:Int)+(m:Int)*1).toNat]?).toArray=((xs.toList.drop i).take k).toArray:=by
 have e:(fun (m:Nat)=>xs[((i:Int)+(m:Int)*1).toNat]?)=fun m=>xs[i+m]?:=by
  funext m
  have:((i:Int)+(m:Int)*1).toNat=i+m:=by omega
  rw [this]
 rw [e]
 have:=pick_run xs i k
 rw [List.filterMap_map] at this
 have e2:((fun x=>xs[x]?)∘fun x=>i+x)=fun m=>xs[i+m]?:=rfl
 rw [e2] at this
 rw [this]
theorem getItem_tuple_cut {t sl:Addr} {items:Array Value} {vl vu:Value} {lo hi:Option Int} {Q:Value->Shared->Prop} (ht:IsTup s.heap t items) (hs:s.heap.IsSliceOf sl vl vu .none) (pl:IsPart vl lo) (pu:IsPart vu hi)
  (hw:¬ (sIx items.size 0 lo=0/\sIx items.size items.size hi=items.size))
  (h:Q (.ref s.heap.objs.size) { s with heap:=s.heap.push { cls:=.type "tuple",data:=.seq ((items.toList.drop (sIx items.size 0 lo)).take (sIx items.size items.size hi-sIx items.size 0 lo)).toArray } })
  (hsz:items.size<=sizeLine):wpAny (model prog w) A (getItem (.ref t) (.ref sl)) Q E s:=by
 have htake:sizeOk (.seq ((items.toList.drop (sIx items.size 0 lo)).take (sIx items.size items.size hi-sIx items.size 0 lo)).toArray):=by
  show ((items.toList.drop (sIx items.size 0 lo)).take (sIx items.size items.size hi-sIx items.size 0 lo)).toArray.size<=sizeLine
  rw [List.size_toArray,List.length_take,List.length_drop,Array.length_toList]
  omega
 have hj:sIx items.size items.size hi<=items.size:=lC _ _ (Nat.le_refl _) hi
 obtain ⟨os,hos,hcs,hds⟩:=id hs
 have hTs:s.TypeIs (.ref sl) "slice" := ⟨os,hos,hcs⟩
 unfold getItem
 try with_reducible refine wpAny_holding ?_
 first | refine wpAny_bind (wpAny_pure ?_) | skip
 refine wpAny_bind (wpAny_sequenceKey ht.typeIs (by decide) ?_)
 refine wpAny_bind (wpAny_callSpecial?_slot (name:=Str.ofString "__getitem__") ht.typeIs PyProof.Rows.slot_tuple_getitem
  (wpAny_call_entry PyProof.Rows.slot_tuple_getitem ht.typeIs entry_tuple_getitem ?_ (args_tuple_getitem _ _)))
 show wpAny _ _ (Builtin.Tuple.tupleItemsOf (.ref t)>>=_) _ _ s
 refine wpAny_bind (tupleItemsOf_ ht ?_)
 refine wpAny_bind (wpAny_typeOf hTs ?_)
 rw [if_pos (by decide)]
 refine wpAny_bind (P1 hs pl pu ?_)
 have hno:¬ ((((sIx items.size 0 lo:Nat):Int) == 0&&(1:Int) == 1&&(sIx items.size items.size hi-sIx items.size 0 lo) == items.size)=true):=by
  intro q
  rw [Bool.and_eq_true,Bool.and_eq_true] at q
  have q1:((sIx items.size 0 lo:Nat):Int)=0:=eq_of_beq q.1.1
  have q2:sIx items.size items.size hi-sIx items.size 0 lo=items.size:=eq_of_beq q.2
  exact hw ⟨by omega,by omega⟩
 show wpAny _ _ (if (((sIx items.size 0 lo:Nat):Int) == 0&&(1:Int) == 1&&(sIx items.size items.size hi-sIx items.size 0 lo) == items.size)=true then _ else _) _ _ s
 rw [if_neg hno,pp]
 first
  | exact wpAny_bind (m:=Builtin.Tuple.tupleExact _) (wpAny_newObj_type (wpAny_pure ⟨_,rfl,wpAny_pure h⟩) htake)
  | exact wpAny_bind (m:=Builtin.Tuple.tupleExact _) (wpAny_newObj_type (wpAny_bind (wpAny_pure (wpAny_pure ⟨_,rfl,wpAny_pure h⟩))) htake)
  | exact wpAny_bind (wpAny_bind (m:=Builtin.Tuple.tupleExact _) (wpAny_newObj_type (wpAny_pure (wpAny_pure ⟨_,rfl,wpAny_pure h⟩)) htake))
  | exact wpAny_bind (wpAny_bind (m:=Builtin.Tuple.tupleExact _) (wpAny_newObj_type (wpAny_pure ⟨_,rfl,wpAny_pure h⟩) htake))
end
end HT
namespace L2
open PySem PySem.Spec PyProof.Rows
abbrev TO:=St->Hp->(Option Int->Hp->Prop)->Prop
def PO (X:Cx) (e:Option Expr) (t:TO):Prop:=
 ∀ (pins:List (Addr×Obj)) (s:Shared) (σ:St) (H:Hp) (Q:Option Int->Hp->Prop),Inv X pins σ H s->t σ H Q ->
  wpAny (model X.prog X.w) X.A (evalPart e X.env) (fun u s'=>∃ o H',Inv X pins σ H' s'/\IsPart u o/\Q o H') X.xe s
def tNoPart:TO:=fun _ H Q=>Q none H
def qS (t:TE):TO:=fun σ H Q=>t σ H fun x H1=>∃ i,x=.int i/\Q (some i) H1
section
variable {X:Cx} {e:Expr} {te:TE} {lo hi:Option Expr} {tl th:TO} {pos p2:Pos}
theorem po_none:PO X none tNoPart:=by
 intro pins s σ H Q I h
 rw [evalPart_none]
 exact wpAny_pure ⟨none,H,I,.none,h⟩
theorem tE (h:PE X e te):PO X (some e) (qS te):=by
 intro pins s σ H Q I hw
 rw [evalPart_some]
 refine thn (h pins s σ H _ I hw) fun u s1 zz41=>?_
 obtain ⟨x,H1,I1,r1,q1⟩:=zz41
 obtain ⟨i,rfl,q⟩:=q1
 obtain ⟨t,rfl⟩:=r1
 exact ⟨some i,H1,I1,.int i t,q⟩
def SlR (X:Cx) (r:V->Option Int->Option Int->Hp->VK->Prop):Prop:=
 ∀ (pins:List (Addr×Obj)) (s:Shared) (σ:St) (H:Hp) (x:V) (v vl vu:Value) (lo hi:Option Int) (sl:Addr) (Q:VK),Inv X pins σ H s->RelV x v->s.heap.IsSliceOf sl vl vu .none->IsPart vl lo->IsPart vu hi->r x lo hi H Q ->
  ∃ T id,typeLookup (.type T) "__getitem__" = pure (some (.builtin id))/\s.TypeIs v T/\wpAny (model X.prog X.w) X.A (getItem v (.ref sl)) (EP X pins σ Q) X.xe s
theorem SlR.or {r r':V->Option Int->Option Int->Hp->VK->Prop} (h:SlR X r) (h':SlR X r'):SlR X (fun x lo hi H Q=>r x lo hi H Q\/r' x lo hi H Q):=by
 intro pins s σ H x v vl vu lo hi sl Q I rx hs pl pu q
 rcases q with q | q
 ·exact h pins s σ H x v vl vu lo hi sl Q I rx hs pl pu q
 ·exact h' pins s σ H x v vl vu lo hi sl Q I rx hs pl pu q
def tSl (r:V->Option Int->Option Int->Hp->VK->Prop) (te:TE) (tl th:TO):TE:=fun σ H Q=>te σ H fun x H1=>tl σ H1 fun l H2=>th σ H2 fun u H3=>r x l u H3 Q
theorem fJ {r:V->Option Int->Option Int->Hp->VK->Prop} (hr:SlR X r) (he:PE X e te) (hl:PO X lo tl) (hu:PO X hi th):PE X (.Subscript e (.Slice lo hi none p2) pos) (tSl r te tl th):=by
 intro pins s σ H Q I h
 refine Subscript_ (thn (he pins s σ H _ I h) fun v s1 zz42=>?_)
 obtain ⟨x,H1,I1,r1,q1⟩:=zz42
 refine wpAny_Slice (thn (hl pins s1 σ H1 _ I1 q1) fun vl s2 ⟨l,H2,I2,pl,q2⟩=>thn (hu pins s2 σ H2 _ I2 q2) fun vu s3 zz44=>?_)
 obtain ⟨u,H3,I3,pu,q3⟩:=zz44
 rw [evalPart_none]
 refine wpAny_pure ?_
 have I4:Inv X pins σ H3 { s3 with heap:=s3.heap.push { cls:=.type "slice",data:=.fields #[vl,vu,.none] } }:=I3.kept (t':=s3.toks) fun b ob q=>Heap.get?_push_of_some _ q
 obtain ⟨T,id,hT,ht,hg⟩:=hr pins { s3 with heap:=s3.heap.push { cls:=.type "slice",data:=.fields #[vl,vu,.none] } } σ H3 x v vl vu l u s3.heap.objs.size Q I4 r1 (Heap.IsSliceOf.new ..) pl pu q3
 show wpAny (model X.prog X.w) X.A (subscriptTail e (.Slice lo hi none p2) v (.ref s3.heap.objs.size)) (EP X pins σ Q) X.xe { s3 with heap:=s3.heap.push { cls:=.type "slice",data:=.fields #[vl,vu,.none] } }
 exact tail_any (ops:=[.ref s3.heap.objs.size,v]) ht hT hg (by with_unfolding_all rfl)
def X4 (xs:List V) (lo hi:Option Int):List V:=(xs.drop (HT.sIx xs.length 0 lo)).take (HT.sIx xs.length xs.length hi-HT.sIx xs.length 0 lo)
theorem bb (xs:List V) (lo hi:Option Int):(X4 xs lo hi).length<=xs.length:=by
 unfold X4
 rw [List.length_take,List.length_drop]
 omega
def wQ (K:Frag):V->Option Int->Option Int->Hp->VK->Prop:=fun x lo hi H Q=>∃ a xs,x=.ref a/\SqT K H a xs /\
 ¬ (HT.sIx xs.length 0 lo=0/\HT.sIx xs.length xs.length hi=xs.length)/\∀ p,H p=none->Q (.ref p) (upd H p (.tup (X4 xs lo hi)))
theorem vT:SlR X (wQ X.K):=by
 intro pins s σ H x v vl vu lo hi sl Q I rx hs pl pu h
 obtain ⟨a,xs,rfl,hx,hw,q⟩:=h
 cases rx
 obtain ⟨its,r,ht,hz⟩:=I.tuple hx
 have hlen:its.toArray.size=xs.length:=by rw [List.size_toArray]; exact r.length.symm
 refine ⟨"tuple",_,PyProof.Rows.slot_tuple_getitem.lookup,ht.typeIs,?_⟩
 refine HT.getItem_tuple_cut ht hs pl pu (by rw [hlen]; exact hw) ?_ (by rw [hlen]; exact hz)
 rw [hlen]
 refine ⟨.ref s.heap.objs.size,_,I.laid (t':=s.toks) (o:=.tup (X4 xs lo hi)) (fun b ob q=>Heap.get?_push_of_some _ q) (Nat.le_refl _) ?_,rfl,q _ (I.hok.fresh (Nat.le_refl _))⟩
 exact ⟨Nat.le_trans (bb xs lo hi) hz,_,(r.drop (HT.sIx xs.length 0 lo)).take (HT.sIx xs.length xs.length hi-HT.sIx xs.length 0 lo),IsTup.new _ _⟩
def rd (K:Frag):R2:=fun x y H Q=>∃ a b xs ys,x=.ref a/\y=.ref b/\SqT K H a xs/\SqT K H b ys/\xs ≠ []/\xs.length+ys.length<=sizeLine /\
 (ys = []->Q (.ref a) H)/\(ys ≠ []->∀ p,H p=none->Q (.ref p) (upd H p (.tup (xs++ys))))
theorem Vals.nil_iff {xs:List V} {us:List Value} (r:Vals xs us):us = []↔xs = []:=by
 cases r with
 | nil=>simp
 | cons _ _=>simp
theorem tP:OpR X (binaryOp .Add) (rd X.K):=by
 intro pins s σ H x y v u Q I rx ry h
 obtain ⟨a,b,xs,ys,rfl,rfl,ha,hb,hx,hz,q1,q2⟩:=h
 cases rx
 cases ry
 obtain ⟨its,r1,p1,_⟩:=I.tuple ha
 obtain ⟨its2,r2,p2,_⟩:=I.tuple hb
 refine HT.cat_tup p1 p2 (fun z=>hx (r1.nil_iff.mp z)) (fun z=>⟨.ref a,H,I,rfl,q1 (r2.nil_iff.mp z)⟩) (fun z=>?_) (by rw [<- r1.length,<- r2.length]; exact hz)
 refine ⟨.ref s.heap.objs.size,_,I.laid (t':=s.toks) (o:=.tup (xs++ys)) (fun b ob q=>Heap.get?_push_of_some _ q) (Nat.le_refl _) ?_,rfl,q2 (fun w=>z (r2.nil_iff.mpr w)) _ (I.hok.fresh (Nat.le_refl _))⟩
 exact ⟨by rw [List.length_append]; exact hz,_,r1.append r2,IsTup.new _ _⟩
end
end L2
namespace L2
open PySem PySem.Spec PyProof.Rows
def ixN (n:Nat) (i:Int):Option Nat:=if 0<=i then (if i<n then some i.toNat else none) else if -(n:Int)<=i then some (i+n).toNat else none
def atI {α:Type} (xs:List α) (i:Int):Option α:=(ixN xs.length i).bind fun j=>xs[j]?
theorem jc {n:Nat} {i:Int} {j:Nat} (h:ixN n i=some j):seqIndex? i n=some j/\j<n /\ -(n:Int)<=i/\i<n:=by
 unfold ixN at h
 by_cases h0:0<=i
 ·rw [if_pos h0] at h
  by_cases h1:i<n
  ·rw [if_pos h1] at h
   have e:i.toNat=j:=Option.some.inj h
   exact ⟨by rw [seqIndex_of h0 h1,e],by omega,by omega,h1⟩
  ·rw [if_neg h1] at h; cases h
 ·rw [if_neg h0] at h
  by_cases h1:-(n:Int)<=i
  ·rw [if_pos h1] at h
   have e:(i+n).toNat=j:=Option.some.inj h
   exact ⟨by rw [seqIndex_neg (by omega) h1,e],by omega,h1,by omega⟩
  ·rw [if_neg h1] at h; cases h
theorem dI {α:Type} {xs:List α} {i:Int} {v:α} (h:atI xs i=some v):∃ j,seqIndex? i xs.length=some j/\xs[j]?=some v/\j<xs.length /\ -(xs.length:Int)<=i/\i<xs.length:=by
 unfold atI at h
 cases e:ixN xs.length i with
 | none=>rw [e] at h; cases h
 | some j=>
  rw [e] at h
  obtain ⟨h1,h2,h3,h4⟩:=jc e
  exact ⟨j,h1,h,h2,h3,h4⟩
theorem atI_nat {α:Type} {xs:List α} {j:Nat} {v:α} (h:xs[j]?=some v):atI xs (j:Int)=some v:=by
 have hj:j<xs.length:=(List.getElem?_eq_some_iff.mp h).1
 have e:ixN xs.length (j:Int)=some j:=by
  unfold ixN
  rw [if_pos (by omega),if_pos (by omega)]; simp
 unfold atI; rw [e]; exact h
def aT (b:Expr):Prop:=∀ o i,subscripted b false o i=operate [o,i] (getItem o i)
def IxR (X:Cx) (r:R2):Prop:=
 ∀ (value slice:Expr) (pins:List (Addr×Obj)) (s:Shared) (σ:St) (H:Hp) (x y:V) (v u:Value) (Q:VK),Inv X pins σ H s->RelV x v->RelV y u->r x y H Q ->
  subscripted slice false v u=operate [v,u] (getItem v u)->wpAny (model X.prog X.w) X.A (subscriptTail value slice v u) (EP X pins σ Q) X.xe s
def MtR (X:Cx) (id:String) (r:V->List V->Hp->VK->Prop):Prop:=
 ∀ (pins:List (Addr×Obj)) (s:Shared) (σ:St) (H:Hp) (x:V) (xs:List V) (v:Value) (us:List Value) (Q:VK),Inv X pins σ H s->RelV x v->Vals xs us->r x xs H Q ->
  wpAny (model X.prog X.w) X.A (call (.builtin id) (v::us)) (EP X pins σ Q) X.xe s
section
variable {X:Cx} {a b:Expr} {ta tb:TE} {pos:Pos}
theorem IxR.or {r r':R2} (h:IxR X r) (h':IxR X r'):IxR X (fun x y H Q=>r x y H Q\/r' x y H Q):=by
 intro value slice pins s σ H x y v u Q I rx ry q hs
 rcases q with q | q
 ·exact h value slice pins s σ H x y v u Q I rx ry q hs
 ·exact h' value slice pins s σ H x y v u Q I rx ry q hs
theorem jP {r:R2} (hr:IxR X r) (ha:PE X a ta) (hb:PE X b tb) (hs:aT b):PE X (.Subscript a b pos) (tOp r ta tb):=by
 intro pins s σ H Q I h
 exact Subscript_ (qJ ha hb I h fun v u s2 x y H2 I2 rx ry q=>hr a b pins s2 σ H2 x y v u Q I2 rx ry q (hs _ _))
def wW (K:Frag):R2:=fun x y H Q=>∃ p xs i v,x=.ref p/\y=.int i/\SqL K H p xs/\atI xs i=some v/\Q v H
def oV (K:Frag):R2:=fun x y H Q=>∃ p xs i v,x=.ref p/\y=.int i/\SqT K H p xs/\atI xs i=some v/\Q v H
def rIxS:R2:=fun x y H Q=>∃ z i c,x=.str z/\y=.int i/\z.length<=sizeLine/\atI z.cps.toList i=some c/\Q (.str ⟨#[c]⟩) H
theorem ix_list:IxR X (wW X.K):=by
 intro value slice pins s σ H x y v u Q I rx ry h hs
 obtain ⟨p,xs,i,z,rfl,rfl,hq,he,q⟩:=h
 cases rx
 obtain ⟨t,rfl⟩:=ry
 obtain ⟨its,r,pl,hz⟩:=I.list hq
 obtain ⟨j,h1,h2,h3,h4,h5⟩:=dI he
 obtain ⟨w,ew,rw'⟩:=r.get h2
 have hl:=r.length
 have hn:=U8
 have fin:EP X pins σ Q w s:=⟨z,H,I,rw',q⟩
 by_cases h0:0<=i
 ·have hj:i.toNat=j:=by
   rw [seqIndex_of h0 h5] at h1
   exact Option.some.inj h1
  exact item_listR pl.isList h0 (by omega) (by rw [hj]; simpa using ew) fin hs
 ·have hj:(i+(its.toArray.size:Int)).toNat=j:=by
   rw [seqIndex_neg (by omega) h4] at h1
   rw [List.size_toArray,<- hl]
   exact Option.some.inj h1
  exact subscriptTail_builtinR (x:=w) pl.isList.typeIs slot_list_getitem.lookup
   (wpAny_getItem_list_neg (Q:=fun r s'=>r=w/\EP X pins σ Q r s') pl.isList (by omega) (by rw [List.size_toArray] <;> omega) (by omega) (by rw [hj]; simpa using ew) ⟨rfl,fin⟩) hs
theorem ix_tup:IxR X (oV X.K):=by
 intro value slice pins s σ H x y v u Q I rx ry h hs
 obtain ⟨p,xs,i,z,rfl,rfl,hq,he,q⟩:=h
 cases rx
 obtain ⟨t,rfl⟩:=ry
 obtain ⟨its,r,pl,hz⟩:=I.tuple hq
 obtain ⟨j,h1,h2,h3,h4,h5⟩:=dI he
 obtain ⟨w,ew,rw'⟩:=r.get h2
 have hl:=r.length
 have hn:=U8
 have fin:EP X pins σ Q w s:=⟨z,H,I,rw',q⟩
 exact subscriptTail_builtinR (x:=w) pl.typeIs slot_tuple_getitem.lookup
  (getItem_tuple (j:=j) (Q:=fun r s'=>r=w/\EP X pins σ Q r s') pl (by omega) (by omega) (by rw [List.size_toArray,<- hl]; exact h1) (by simpa using ew) ⟨rfl,fin⟩) hs
theorem xZ:IxR X rIxS:=by
 intro value slice pins s σ H x y v u Q I rx ry h hs
 obtain ⟨z,i,c,rfl,rfl,hz,he,q⟩:=h
 obtain ⟨t,rfl⟩:=rx
 obtain ⟨t',rfl⟩:=ry
 obtain ⟨j,h1,h2,h3,h4,h5⟩:=dI he
 have hl:z.cps.toList.length=z.length:=by simp [Str.length]
 rw [hl] at h1 h4 h5
 have hn:=U8
 exact tail_any (typeIs_str s z t) slot_str_getitem.lookup (getItem_str (c:=c) (by
  have e1:decide (i < -(2^63:Int))=false:=decide_eq_false (by omega)
  have e2:decide (i≥2^63)=false:=decide_eq_false (by omega)
  rw [e1,e2,Bool.or_false]) (by rw [h1]; simpa using h2) ⟨.str ⟨#[c]⟩,H,I.tok _,⟨_,rfl⟩,q⟩) hs
def rIx (K:Frag):R2:=fun x y H Q=>wW K x y H Q\/oV K x y H Q\/rIxS x y H Q
theorem mR:IxR X (rIx X.K):=ix_list.or (ix_tup.or xZ)
theorem jW (its:List Value) (n j:Nat) (u:Value):Obj.mapSeq (·.setIfInBounds j u) { cls:=.type "list",data:=.seq its.toArray n }={ cls:=.type "list",data:=.seq (its.set j u).toArray n }:=by
 simp [Obj.mapSeq]
theorem Inv.lst {pins:List (Addr×Obj)} {σ:St} {H:Hp} {s:Shared} {p:Addr} {xs:List V} (I:Inv X pins σ H s) (h:H p=some (.lst xs)) :
  ∃ (its:List Value) (n:Nat),Vals xs its/\s.heap.get? p=some { cls:=.type "list",data:=.seq its.toArray n }/\xs.length<=sizeLine:=by
 obtain ⟨z,its,n,r,e⟩:=I.hok p _ h
 exact ⟨its,n,r,e,z⟩
theorem Inv.lstUpd {pins:List (Addr×Obj)} {σ:St} {H:Hp} {s:Shared} {p:Addr} {xs ys:List V} {its its':List Value} {n n':Nat} {f:Obj->Obj} (I:Inv X pins σ H s) (h:H p=some (.lst xs))
  (ho:s.heap.get? p=some { cls:=.type "list",data:=.seq its.toArray n }) (hf:f { cls:=.type "list",data:=.seq its.toArray n }={ cls:=.type "list",data:=.seq its'.toArray n' }) (r:Vals ys its') (hz:ys.length<=sizeLine) (t:Nat) :
  Inv X pins σ (upd H p (.lst ys)) { s with heap:=s.heap.update p f,toks:=t }:=by
 have e:(s.heap.update p f).get? p=some { cls:=.type "list",data:=.seq its'.toArray n' }:=by
  rw [Heap.get?_update_self f ho (by rw [hf] <;> rfl),hf]
 refine I.write (x:=p) (e:=p) (by rw [h]; trivial) (.inl rfl) (fun b u hb q=>(Heap.get?_update_other _ _ (Ne.symm hb)).trans q) ⟨_,e⟩ ?_
 exact ⟨hz,its',n',r,e⟩
def rSetL:V->V->V->Hp->(Hp->Prop)->Prop:=fun o i v H Q=>∃ p xs k j,o=.ref p/\i=.int k/\H p=some (.lst xs)/\ixN xs.length k=some j/\Q (upd H p (.lst (xs.set j v)))
theorem set_list:Ay X rSetL:=by
 intro pins s σ H o i v ov iv u Q I ro ri rv h
 obtain ⟨p,xs,k,j,rfl,rfl,hp,hj,q⟩:=h
 cases ro
 obtain ⟨t,rfl⟩:=ri
 obtain ⟨its,n,r,ho,hz⟩:=I.lst hp
 obtain ⟨h1,h2,h3,h4⟩:=jc hj
 have hl:=r.length
 have hn:=U8
 have I':Inv X pins σ (upd H p (.lst (xs.set j v))) { s with heap:=s.heap.update p (Obj.mapSeq (·.setIfInBounds j u)) }:=
  I.lstUpd hp ho (jW its n j u) (r.set rv j) (by rw [List.length_set]; exact hz) s.toks
 by_cases h0:0<=k
 ·have hk:k.toNat=j:=by
   rw [seqIndex_of h0 h4] at h1
   exact Option.some.inj h1
  exact PySem.W.ki_setAt ho h0 (by omega) (by rw [List.size_toArray,<- hl]; exact h4) (by rw [hk]; exact ⟨_,I',q⟩)
 ·have hk:(k+(its.toArray.size:Int)).toNat=j:=by
   rw [seqIndex_neg (by omega) h3] at h1
   rw [List.size_toArray,<- hl]
   exact Option.some.inj h1
  exact PySem.W.ki_setBack ho (by omega) (by rw [List.size_toArray,<- hl]; exact h3) (by omega) (by rw [hk]; exact ⟨_,I',q⟩)
theorem ff (lo hi:Option Int) (n:Nat):(sliceBounds lo hi none n).1=((HT.sIx n 0 lo:Nat):Int)/\(sliceBounds lo hi none n).2.1=((HT.sIx n n hi:Nat):Int)/\(sliceBounds lo hi none n).2.2=1:=by
 refine ⟨?_,?_,rfl⟩
 ·cases lo with
  | none=>simp [sliceBounds,HT.sIx]
  | some i=>
   simp only [sliceBounds,HT.sIx,Option.getD_none,show (1:Int)>0 by decide,if_true]
   by_cases h:i<0
   ·simp only [h,if_true] <;> omega
   ·simp only [h,if_false] <;> omega
 ·cases hi with
  | none=>simp [sliceBounds,HT.sIx]
  | some i=>
   simp only [sliceBounds,HT.sIx,Option.getD_none,show (1:Int)>0 by decide,if_true]
   by_cases h:i<0
   ·simp only [h,if_true] <;> omega
   ·simp only [h,if_false] <;> omega
theorem eD (its:List Value) (lo hi:Option Int):slicePick its.toArray lo hi none=((its.drop (HT.sIx its.length 0 lo)).take (HT.sIx its.length its.length hi-HT.sIx its.length 0 lo)).toArray:=by
 obtain ⟨h1,h2,h3⟩:=ff lo hi its.toArray.size
 unfold slicePick
 rw [h1,h2,h3]
 simp only [sliceRange_one,pick_run,List.size_toArray] <;> rfl
def wR (K:Frag):V->Option Int->Option Int->Hp->VK->Prop:=fun x lo hi H Q=>∃ a xs,x=.ref a/\SqL K H a xs/\∀ p,H p=none->Q (.ref p) (upd H p (.lst (X4 xs lo hi)))
theorem sv:SlR X (wR X.K):=by
 intro pins s σ H x v vl vu lo hi sl Q I rx hs pl pu h
 obtain ⟨a,xs,rfl,hx,q⟩:=h
 cases rx
 obtain ⟨its,r,ht,hz⟩:=I.list hx
 have hlen:=r.length
 refine ⟨"list",_,slot_list_getitem.lookup,ht.isList.typeIs,?_⟩
 refine wpAny_getItem_list_slice ht.isList hs pl pu .none (by simp) ?_ (by rw [List.size_toArray] <;> omega)
 rw [eD,<- hlen]
 refine ⟨.ref s.heap.objs.size,_,I.laid (t':=s.toks) (o:=.lst (X4 xs lo hi)) (fun b ob q=>Heap.get?_push_of_some _ q) (Nat.le_refl _) ?_,rfl,q _ (I.hok.fresh (Nat.le_refl _))⟩
 exact ⟨Nat.le_trans (bb xs lo hi) hz,_,0,(r.drop (HT.sIx xs.length 0 lo)).take (HT.sIx xs.length xs.length hi-HT.sIx xs.length 0 lo),Heap.get?_push_size _ rfl⟩
theorem gO:K6 X (.builtin "len") (fun xs H Q=>∃ p ys,xs = [.ref p]/\(SqL X.K H p ys\/SqT X.K H p ys)/\Q (.int ys.length) H):=by
 intro pins s σ H xs us Q I r h
 obtain ⟨p,ys,rfl,hq,q⟩:=h
 obtain ⟨u,rfl,rx⟩:=vals1 r
 cases rx
 have hn:=U8
 rcases hq with hq | hq
 ·obtain ⟨its,r',pl,hz⟩:=I.list hq
  have hlen:=r'.length
  exact Calls.call_len_list pl.isList (by simp only [List.size_toArray] <;> omega) ⟨.int ys.length,H,I.tok _,⟨s.toks+1,by rw [List.size_toArray,hlen]⟩,q⟩
 ·obtain ⟨its,r',pl,hz⟩:=I.tuple hq
  have hlen:=r'.length
  exact len_tuple pl (by simp only [List.size_toArray] <;> omega) ⟨.int ys.length,H,I.tok _,⟨s.toks+1,by rw [List.size_toArray,hlen]⟩,q⟩
theorem eG:K6 X (.type "tuple") (fun xs H Q=>∃ p ys,xs = [.ref p]/\((SqL X.K H p ys/\∀ l,H l=none->Q (.ref l) (upd H l (.tup ys)))\/(SqT X.K H p ys/\Q (.ref p) H))):=by
 intro pins s σ H xs us Q I r h
 obtain ⟨p,ys,rfl,h⟩:=h
 obtain ⟨u,rfl,rx⟩:=vals1 r
 cases rx
 rcases h with ⟨hq,q⟩ | ⟨hq,q⟩
 ·obtain ⟨its,r',pl,hz⟩:=I.list hq
  have hlen:=r'.length
  refine call_tuple_list pl.isList (fun h' kp=>?_) (by simp only [List.size_toArray] <;> omega)
  have I1:Inv X pins σ H { s with heap:=h' }:=I.kept (t':=s.toks) kp
  have I2:Inv X pins σ (upd H h'.objs.size (.tup ys)) { s with heap:=h'.push { cls:=.type "tuple",data:=.seq its.toArray } }:=
   I1.laid (t':=s.toks) (fun b o e=>Heap.get?_push_of_some _ e) (Nat.le_refl _) (show ObjOk X.prog X.w _ _ _ (.tup ys) from ⟨hz,its,r',IsTup.new _ _⟩)
  exact ⟨.ref h'.objs.size,_,I2,rfl,q _ (I1.hok.fresh (Nat.le_refl _))⟩
 ·obtain ⟨its,r',pl,hz⟩:=I.tuple hq
  exact call_tuple_same pl ⟨.ref p,H,I,rfl,q⟩
def tyV (K:Frag) (T:String) (x:V) (H:Hp):Prop:=match x with
 | .str _=>T = "str"
 | .int _=>T = "int"
 | .ref p=>(T = "list" /\ ∃ xs,SqL K H p xs)\/(T = "tuple" /\ ∃ o,K.lookup p=some o/\o.cls=.type "tuple" /\ o.dict=none) \/
   (T = "dict" /\ ((∃ kvs,H p=some (.dK kvs))\/∃ kvs,H p=some (.dT kvs)))\/(T = "set" /\ ∃ S n,H p=some (.set S n))
 | _=>False
theorem kS {pins:List (Addr×Obj)} {σ:St} {H:Hp} {s:Shared} {T:String} {x:V} {v:Value} (I:Inv X pins σ H s) (r:RelV x v) (ty:tyV X.K T x H) :
  s.TypeIs v T/\∀ a,v=.ref a->∃ ob,s.heap.get? a=some ob/\ob.dict=none:=by
 cases x with
 | str z=>
  obtain ⟨t,rfl⟩:=r
  cases (show T = "str" from ty)
  exact ⟨typeIs_str s z t,fun _ e=>nomatch e⟩
 | int i=>
  obtain ⟨t,rfl⟩:=r
  cases (show T = "int" from ty)
  exact ⟨typeIs_int s i t,fun _ e=>nomatch e⟩
 | ref p=>
  cases r
  rcases ty with ⟨rfl,xs,hq⟩ | ⟨rfl,o,hk,hc,hd⟩ | ⟨rfl,hk⟩ | ⟨rfl,S,n,hk⟩
  ·obtain ⟨its,_,pl,_⟩:=I.list hq
   refine ⟨pl.isList.typeIs,fun a e=>?_⟩
   cases e
   obtain ⟨o,n,e,c,hd,_⟩:=pl
   exact ⟨o,e,hd⟩
  ·refine ⟨⟨o,I.kIn p o hk,hc⟩,fun a e=>?_⟩
   cases e
   exact ⟨o,I.kIn _ o hk,hd⟩
  ·have z:∃ o,s.heap.get? p=some o/\o.ExactDict:=by
    rcases hk with ⟨kvs,hk⟩ | ⟨kvs,hk⟩
    ·obtain ⟨_,_,_,_,o,_,_,e,ex,_⟩:=I.hok p _ hk
     exact ⟨o,e,ex⟩
    ·obtain ⟨_,_,_,_,o,_,_,e,ex,_⟩:=I.hok p _ hk
     exact ⟨o,e,ex⟩
   obtain ⟨o,e,ex⟩:=z
   refine ⟨⟨o,e,ex.1⟩,fun a e2=>?_⟩
   cases e2
   exact ⟨o,e,ex.2.1⟩
  ·obtain ⟨o,_,_,_,e,ex,_⟩:=I.hok p _ hk
   refine ⟨⟨o,e,ex.1⟩,fun a e2=>?_⟩
   cases e2
   exact ⟨o,e,ex.2.1⟩
 | _=>exact False.elim ty
def tBM (K:Frag) (T:String) (r:V->List V->Hp->VK->Prop) (to:TE) (t:TA):TE:=fun σ H Q=>to σ H fun x H1=>tyV K T x H1/\t σ H1 fun xs H2=>r x xs H2 Q
variable {o e:Expr} {es:List Expr} {to:TE} {t:TA} {name:Str} {apos cpos:Pos} {T id:String} {r:V->List V->Hp->VK->Prop}
theorem AS (pa:PlainAttrs T) (slot:Slot T name id) (hty:typeOf (.builtin id)=pure (.type "method_descriptor")) (hm:MtR X id r) (ho:PE X o to) (ha:PA X (e::es) t)
  (hbase:attributeBase o name X.env (eval o X.env)=eval o X.env:=by rfl)
  (hfew:((backTo cpos (starEach (e::es) X.env)).all (fun x=>!x.1)&&(backToKw cpos (keywordEach [] X.env)).all (fun x=>x.1.isSome)
   && decide ((e::es).length+([]:List Keyword).length+(if ([]:List Keyword).isEmpty then 0 else 1)<30))=true:=by rfl)
  (hline:(apos.endLine == cpos.line)=true:=by rfl) (hs:starEach (e::es) X.env=(false,eval e X.env)::starEach es X.env:=by rfl) (hplain:(backTo cpos (starEach es X.env)).any (·.1)=false:=by rfl) :
  PE X (.Call (.Attribute o name apos) (e::es) [] cpos) (tBM X.K T r to t):=by
 intro pins s σ H Q I h
 refine wpAny_Call_method_late hbase hfew hline rfl (thn (ho pins s σ H _ I h) fun v s1 zz45=>?_)
 obtain ⟨x,H1,I1,r1,ty,q1⟩:=zz45
 obtain ⟨h1,h2⟩:=kS I1 r1 ty
 refine ⟨T,id,pa,slot,hty,h1,h2,?_⟩
 have hA:=ha cpos pins s1 σ H1 _ I1 q1
 rw [hs] at hA ⊢
 refine Calls.callWith_builtin (by show (false||(backTo cpos (starEach es X.env)).any (·.1))=false; rw [hplain] <;> rfl) (Calls.evalArgs_plain ?_)
 exact thn hA fun us s2 zz46=>by obtain ⟨vs,H2,I2,r2,q2⟩:=zz46; exact hm pins s2 σ H2 x vs v us Q I2 r1 r2 q2
end
end L2
namespace L2
open PySem PySem.Spec PyProof.Rows
def MtM (X:Cx) (id:String) (r:V->List V->Hp->VK->Prop):Prop:=
 ∀ (pins:List (Addr×Obj)) (s:Shared) (σ:St) (H:Hp) (x:V) (xs:List V) (v:Value) (us:List Value) (Q:VK),Inv X pins σ H s->RelV x v->Vals xs us->r x xs H Q ->
  wpAny (model X.prog X.w) X.A (call (.builtin id) (v::us)) (EP X pins σ Q) X.xe s
theorem Vals.one:∀ {x:V} {us:List Value},Vals [x] us->∃ u,us = [u]/\RelV x u:=by
 intro x us r
 cases r with
 | cons r t=>cases t; exact ⟨_,rfl,r⟩
theorem Vals.reverse {xs:List V} {us:List Value} (h:Vals xs us):Vals xs.reverse us.reverse:=by
 induction h with
 | nil=>exact .nil
 | cons r t ih=>rw [List.reverse_cons,List.reverse_cons]; exact Vals.append ih (.cons r .nil)
theorem Vals.rep {xs:List V} {us:List Value} (h:Vals xs us):∀ k:Nat,Vals (List.replicate k xs).flatten (List.replicate k us).flatten
 | 0=>.nil
 | k+1=>by
  rw [List.replicate_succ,List.replicate_succ,List.flatten_cons,List.flatten_cons]
  exact Vals.append h (Vals.rep h k)
theorem foldl_rep (its:List Value):∀ (k:Nat) (acc:List Value),
  List.foldl (fun x1 x2=>x1++x2) acc.toArray (List.replicate k its.toArray)=(acc++(List.replicate k its).flatten).toArray:=by
 intro k
 induction k with
 | zero=>intro acc; simp
 | succ k ih=>
  intro acc
  have e:acc.toArray++its.toArray=(acc++its).toArray:=by simp
  have e2:(acc++its)++(List.replicate k its).flatten=acc++(List.replicate (k+1) its).flatten:=by
   rw [List.replicate_succ,List.flatten_cons,List.append_assoc]
  rw [<- e2,<- ih (acc++its),<- e,List.replicate_succ,List.foldl_cons]
section
variable {X:Cx} {pins:List (Addr×Obj)} {σ:St} {H:Hp} {s:Shared} {l b:Addr} {xs ys zs:List V}
theorem Inv.lset {its its':List Value} {n:Nat} {f:Array Value->Array Value} {t':Nat} (I:Inv X pins σ H s) (hH:H l=some (.lst xs))
  (e:s.heap.get? l=some { cls:=.type "list",data:=.seq its.toArray n }) (hf:f its.toArray=its'.toArray) (hv:Vals ys its') (hz:ys.length<=sizeLine) :
  Inv X pins σ (upd H l (.lst ys)) { s with heap:=s.heap.update l (Obj.mapSeq f),toks:=t' }:=by
 have q:=PySem.IsL.update e f
 rw [hf] at q
 refine I.write (x:=l) (e:=l) (by rw [hH]; exact trivial) (.inl rfl) (fun b' u hb hu=>(Heap.get?_update_other s.heap (Obj.mapSeq f) (Ne.symm hb)).trans hu) ⟨_,q⟩ ?_
 exact ⟨hz,its',_,hv,q⟩
theorem Inv.lnew {its:List Value} {t':Nat} (I:Inv X pins σ H s) (hv:Vals ys its) (hz:ys.length<=sizeLine) :
  Inv X pins σ (upd H s.heap.objs.size (.lst ys)) { s with heap:=s.heap.push { cls:=.type "list",data:=.seq its.toArray },toks:=t' }:=
 I.laid (fun _ _ q=>Heap.get?_push_of_some _ q) (Nat.le_refl _) ⟨hz,its,0,hv,Heap.get?_push_size _ rfl⟩
theorem Inv.fresh (I:Inv X pins σ H s):H s.heap.objs.size=none:=I.hok.fresh (Nat.le_refl _)
theorem Inv.lstM (I:Inv X pins σ H s) (hH:H l=some (.lst xs)):xs.length<=sizeLine/\∃ (its:List Value) (n:Nat),Vals xs its/\xs.length=its.length/\s.heap.get? l=some { cls:=.type "list",data:=.seq its.toArray n }:=by
 obtain ⟨z,its,n,r,e⟩:=I.hok l _ hH
 exact ⟨z,its,n,r,r.length,e⟩
theorem pA {n:Nat} (h:n<=sizeLine):Builtin.List.listTooLong n=false:=by
 unfold Builtin.List.listTooLong
 exact decide_eq_false (by omega)
end
section
variable {X:Cx}
def rAppend:V->List V->Hp->VK->Prop:=fun x vs H Q=>∃ l xs y,x=.ref l/\vs = [y]/\H l=some (.lst xs)/\xs.length<sizeLine/\Q .non (upd H l (.lst (xs ++ [y])))
theorem ae:MtM X "list.append" rAppend:=by
 intro pins s σ H x vs v us Q I rx rv h
 obtain ⟨l,xs,y,rfl,rfl,hH,hz,q⟩:=h
 cases rx
 obtain ⟨u,rfl,ru⟩:=rv.one
 obtain ⟨z,its,n,r,hl,e⟩:=I.lstM hH
 refine call_meets F.slot_list_append ⟨_,e,rfl⟩ F.entry_list_append (F.args_list_append_2 _ _) (PySem.list_append l its.toArray n u (by rw [List.size_toArray]; omega)) ⟨e,?_⟩
 refine ⟨.non,_,I.lset (its':=its ++ [u]) hH e (by simp) (r.append (.cons ru .nil)) ?_,rfl,q⟩
 rw [List.length_append,List.length_singleton]
 omega
def rRep:R2:=fun x y H Q=>∃ l k xs,x=.ref l/\y=.int k/\H l=some (.lst xs) /\ -(2^63)<=k/\k<2^63/\xs.length*k.toNat<=sizeLine /\
 ∀ p,H p=none->Q (.ref p) (upd H p (.lst (List.replicate k.toNat xs).flatten))
theorem len_rep {α:Type} (xs:List α) (k:Nat):(List.replicate k xs).flatten.length=k*xs.length:=by
 induction k with
 | zero=>simp
 | succ k ih=>rw [List.replicate_succ,List.flatten_cons,List.length_append,ih,Nat.succ_mul,Nat.add_comm]
theorem xC:OpR X (binaryOp .Mult) rRep:=by
 intro pins s σ H x y v u Q I rx ry h
 obtain ⟨l,k,xs,rfl,rfl,hH,h1,h2,hz,q⟩:=h
 cases rx
 obtain ⟨t,rfl⟩:=ry
 obtain ⟨z,its,n,r,hl,e⟩:=I.lstM hH
 have hlen:its.toArray.size*k.toNat<=sizeLine:=by rw [List.size_toArray,<- hl]; exact hz
 have hcap:¬ its.toArray.size*k.toNat>(2^63-1)/8:=by
  have:(sizeLine:Nat)<=(2^63-1)/8:=by decide
  omega
 have hfit:¬ (!Builtin.List.listFitsIndex k)=true:=by
  rw [fitsIndex_both h1 h2]
  exact Bool.false_ne_true
 have hlong:¬ Builtin.List.listTooLong (its.toArray.size*k.toNat)=true:=by
  rw [pA hlen]
  exact Bool.false_ne_true
 have hnew:List.foldl (fun x1 x2=>x1++x2) #[] (List.replicate (if its.toArray.isEmpty=true then 0 else k.toNat) its.toArray)=(List.replicate k.toNat its).flatten.toArray:=by
  have f0:∀ m:Nat,List.foldl (fun x1 x2=>x1++x2) #[] (List.replicate m its.toArray)=(List.replicate m its).flatten.toArray:=fun m=>by
   have:=foldl_rep its m []
   rw [List.nil_append] at this
   exact this
  rw [f0]
  cases its with
  | nil=>simp
  | cons a r'=>rw [if_neg (by simp)]
 refine wpAny_binaryOp_repeat_ref (T := "list") (U := "int") (by decide) ⟨_,e,rfl⟩ (fun s'=>typeIs_int s' k t) noFill_list_mul F.fills_int_mul F.slot_int_rmul repeat_list F.slot_int_index.lookup
  (call_meets F.slot_int_rmul (typeIs_int s k t) F.entry_int_rmul (F.args_int_rmul_2 _ _) (int___rmul___int_list k t l its.toArray n)
   ⟨e,rfl,⟨_,e,rfl⟩,call_meets F.slot_list_mul ⟨_,e,rfl⟩ F.entry_list_mul (F.args_list_mul_2 _ _) (AutoListH.list___mul___list_int_3 l its.toArray n k t hfit hcap hlong) ⟨e,?_⟩⟩)
 rw [hnew]
 exact ⟨.ref _,_,I.lnew (t':=s.toks) (r.rep k.toNat) (by rw [len_rep,Nat.mul_comm]; exact hz),rfl,q _ I.fresh⟩
end
section
variable {prog:Program} {w:World} {A:Around} {E:Value->Shared->Prop} {s:Shared}
end
section
variable {X:Cx}
end
end L2
namespace Att
open PySem PySem.W PySem.Calls PyProof.Rows
theorem cE {P:Params} {h:Heap}:∀ (ns:List Int) (vs:List Value),WellAll P h vs (ns.map WData.int)->IntsAre vs ns:=by
 intro ns
 induction ns with
 | nil=>
  intro vs w
  rw [List.map_nil] at w
  cases w
  exact .nil
 | cons n ns ih=>
  intro vs w
  rw [List.map_cons] at w
  cases w with
  | cons a b=>
   cases a
   exact .cons _ _ (ih _ b)
theorem ly {l:OpenLaw} {n:Nat} (hn:l.most=some n) {P:Params} {h:Heap} {args:List WData} {vals:List Value}
  (hpre:l.row.toRowW.claim.pre args=true) (hwl:WellAll P h vals args) :
  ∃ a vs ns,vals = [Value.ref a]/\args = [WData.list (ns.map WData.int)]/\h.get? a=some { cls:=.type "list",data:=.seq vs.toArray }/\IntsAre vs ns/\ns.length<=n:=by
 have hsh:WShape.hasAll [] args [.list .int]=true:=(pre_splitW hpre).1
 have hc:l.pre.holds [] { args:=args }=true:=(pre_splitW hpre).2
 obtain ⟨d,r,rfl,h1,h2⟩:=hasAllW_cons hsh
 obtain rfl:=hasAllW_nil h2
 obtain ⟨xs,rfl,h3⟩:=hasW_list h1
 obtain ⟨ns,rfl⟩:=items_int h3
 have hlen:ns.length<=n:=by
  unfold OpenLaw.pre at hc
  have h4:(WTm.not (.lt (.lit (.int (n:Int))) (.len (.arg 0)))).holds [] { args:=[.list (ns.map .int)] }=true:=by
   have h4:=(holds_andW hc).1
   rw [hn] at h4
   exact h4
  have h5:=condW_of h4 (w_not (w_lt w_lit (w_len_list (w_arg rfl))))
  rw [List.length_map] at h5
  refine Nat.le_of_not_lt fun q=>?_
  have q':(n:Int)<((ns.length:Nat):Int):=by omega
  first
   | (rw [decide_eq_true q'] at h5; exact absurd h5 (by decide))
   | (simp at h5; omega)
 cases hwl with
 | cons w1 w2=>
  cases w2
  cases w1 with
  | list ho hall=>exact ⟨_,_,ns,rfl,rfl,ho,cE ns _ hall,hlen⟩
theorem lN (l:OpenLaw) (args:List WData):l.row.toRowW.claim.post args (.bool true) args=true:=
 postW_of (r:=l.row.toRowW) (X:=(true == true))
  (show WShape.has [] (.bool true) .bool=true by first | rfl | decide | simp [WShape.has,WShape.arms,WShape.armsAll])
  (show (WTm.eq .res (.lit (.bool true))).value [] { args:=args,res:=some (.bool true),after:=args }=some (.bool (true == true)) from w_eq_bool (w_res rfl) w_lit) rfl
section
variable {prog:Program} {w:World} {A:Around} {E:Value->Shared->Prop} {s:Shared} {K:Frag}
end
end Att
namespace L2
open PySem PySem.Spec PyProof.Rows
theorem kQ:∀ {vs:List Value} {ns:List Int},IntsAre vs ns->Vals (ns.map V.int) vs:=by
 intro vs ns h
 induction h with
 | nil=>exact .nil
 | cons n t h ih=>exact .cons ⟨t,rfl⟩ ih
def hZ (H:Hp):Prop:=∀ b,H b=none\/(∃ o xs,H b=some (.frz o (.lst xs)))\/∃ k,H b=some (.tbl k)
theorem xR {α β:Type} [BEq α] [LawfulBEq α]:∀ {l:List (α×β)} {n:α} {c:β},l.lookup n=some c->(n,c)∈l
 | (k,v)::r,n,c,h=>by
  rw [List.lookup_cons] at h
  cases hb:n == k with
  | true=>rw [hb] at h; cases h; rw [beq_iff_eq.mp hb]; exact List.mem_cons_self
  | false=>rw [hb] at h; exact List.mem_cons_of_mem _ (xR h)
theorem pM {P:Program} {w:World} {K:Frag} {mg mb:Str->Option Value} {CX:CXT} {k:Nat} {fa a:Addr} {fd:FuncData} {x:Str} {sp:Sp} {s₁:Shared} {vs:List Value} {ns:List Int}
  (KX:K.In s₁.heap) (hns:s₁.heap.Ns mainGlobals mg) (hb:s₁.heap.Ns builtinsNs mb) (hbb:∀ x:Str,x ≠ "__name__" -> mb x=bootBuiltins x) (hlim:s₁.heap.NoLimit) (hg:s₁.gens=#[])
  (hbm:∃ bm o,mg "__builtins__" = some (.ref bm)/\bm≠builtinsNs/\s₁.heap.get? bm=some o/\o.cls=.type "module" /\ o.dict=some builtinsNs/\o.data=.plain)
  (hT:∀ p∈lamT,s₁.heap.get? p.1=some { cls:=.none,data:=.fields #[] }/\isCodeTable s₁.heap p.1/\K.lookup p.1=none/\lamT.lookup p.1=some p.2)
  (ha:s₁.heap.get? a=some { cls:=.type "list",data:=.seq vs.toArray }) (hi:IntsAre vs ns) (hl:ns.length<=sizeLine) (hr:Room k callerA)
  (F:∀ base:Heap,K.In base->base.Ns mainGlobals mg->FnOk P w K mg base CX k fa fd [x] sp) (hbind:∀ (s:Shared) (u:Value),BindsTo s fd ⟨[u],[]⟩ [(x,u)])
  (hsp:∀ H:Hp,hZ H->SqL K H a (ns.map V.int)->sp [.ref a] H (fun v _=>v=.bl true) fun _ _ _=>False)
  (hCX:∀ H e s',CX [] H s₁ (fun _ _ _=>False) e s'->False) :
  codeAny (model P w) callerA (.call (.ref fa) ⟨[.ref a],[]⟩) (fun r s'=>r=.ok (.ret (.bool true))/\OldK s₁.heap s'.heap/\s'.os=s₁.os/\AllBare s'.gens) s₁:=by
 have rv:=kQ hi
 have lenV:=hi.length
 have tabT:∀ b q,lamT.lookup b=some q->s₁.heap.get? b=some { cls:=.none,data:=.fields #[] }/\isCodeTable s₁.heap b/\K.lookup b=none:=fun b q e=>by
  have hm:=xR e
  exact ⟨(hT _ hm).1,(hT _ hm).2.1,(hT _ hm).2.2.1⟩
 -- from an abstract heap in which nothing but the script and the tables may be tracked
 have core:∀ H:Hp,hZ H->SqL K H a (ns.map V.int)->HOk P w H s₁.heap->(∀ b,H b≠none->b=a\/∃ q,lamT.lookup b=some q)->(∀ b,H b≠none->K.lookup b=none)->(∀ b q,H b=some (.tbl q)->lamT.lookup b=some q)->(∀ p∈lamT,H p.1=some (.tbl p.2)) ->
   codeAny (model P w) callerA (.call (.ref fa) ⟨[.ref a],[]⟩) (fun r s'=>r=.ok (.ret (.bool true))/\OldK s₁.heap s'.heap/\s'.os=s₁.os/\AllBare s'.gens) s₁:=by
  intro H hO hS hok hA hK hB hTb
  have base_of:∀ {b:Addr} {o:Obj},s₁.heap.get? b=some o->H b=none->(X1 s₁.heap H).get? b=some o:=fun e n=>pZ e n
  have noX:∀ {b:Addr} {o:Obj},s₁.heap.get? b=some o->(∀ its n,o.data≠.seq its n)->(∀ ps,o.data≠.fields ps)->H b=none:=fun {b o} e d1 d2=>by
   cases q:H b with
   | none=>rfl
   | some u=>
    rcases hA b (by rw [q]; simp) with e' | ⟨y,e'⟩
    ·subst e'
     rw [ha] at e; cases e
     exact absurd rfl (d1 _ _)
    ·rw [(tabT b y e').1] at e; cases e
     exact absurd rfl (d2 _)
  have noA:∀ {b:Addr} {o:Obj} {es:Array DictEntry} {ep:Nat},s₁.heap.get? b=some o->o.data=.dict es ep->H b=none:=fun {b o es ep} e d=>noX e (fun _ _ z=>by rw [d] at z; cases z) fun _ z=>by rw [d] at z; cases z
  have nsK:∀ {b:Addr} {m:Str->Option Value},s₁.heap.Ns b m->(X1 s₁.heap H).Ns b m:=fun {b m} zz47=>by obtain ⟨o,es,ep,e,d,r⟩:=zz47; exact ⟨o,es,ep,base_of e (noA e d),d,r⟩
  have hKb:K.In (X1 s₁.heap H):=fun b o e=>base_of (KX b o e) (by
   cases q:H b with
   | none=>rfl
   | some u=>rw [hK b (by rw [q]; simp)] at e; cases e)
  have hM:Mod K mg (X1 s₁.heap H):=⟨hKb,nsK hns,⟨mb,nsK hb,hbb⟩,let ⟨mc,h1,h2⟩:=hlim; ⟨mc,nsK h1,h2⟩,let ⟨bm,o,b1,b2,b3,b4,b5,b6⟩:=hbm; ⟨bm,o,b1,b2,base_of b3 (noX b3 (fun _ _ z=>by rw [b6] at z; cases z) fun _ z=>by rw [b6] at z; cases z),b4,b5,b6⟩⟩
  have e0:kL P w K mg (X1 s₁.heap H) callerA [] s₁ H:=⟨rfl,hM,fun b o e=>tR e,Nat.le_of_eq (nh _ _),trivial,fun b hb=>absurd (show b∈([]:List Addr) from hb) (by simp),hok,.of_eq hg,hTb⟩
  refine codeAny_mono ((F _ hKb (nsK hns)).run callerA [] s₁ H ⟨[.ref a],[]⟩ [.ref a] [.ref a] _ _ hr e0 (hbind s₁ (.ref a)) (.cons rfl .nil) (hsp H hO hS)) fun r s' h=>?_
  cases r with
  | error e=>exact (hCX H e s' h).elim
  | ok fl=>
   cases fl with
   | next=>exact False.elim h
   | brk=>exact False.elim h
   | cont=>exact False.elim h
   | ret u=>
    obtain ⟨v,H',os,bare,un,hok',r',q⟩:=h
    have q':v=.bl true:=q
    subst q'
    obtain rfl:u=Value.bool true:=r'
    have key:∀ b o,s₁.heap.get? b=some o->asItWas s₁.heap s'.heap b o:=fun b o e=>by
     cases q:H b with
     | none=>exact .inl (un.keep b o e q (by intro z; exact absurd (show b∈([]:List Addr) from z) (by simp)) (by simp))
     | some u=>
      rcases hO b with z | ⟨ob,xs,z⟩ | ⟨y,z⟩
      ·rw [q] at z; cases z
      ·have z2:=un.frzs b ob _ z
       obtain ⟨e1,_⟩:=hok b _ z
       obtain ⟨e2,_⟩:=hok' b _ z2
       rw [e] at e1; cases e1
       exact .inl e2
      ·have z2:=un.tbls b _ z
       obtain ⟨ps,e2,_⟩:=hok' b _ z2
       obtain ⟨t1,t2,_⟩:=tabT b y (hB b y z)
       rw [t1] at e; cases e
       exact .inr (.inl ⟨t2,rfl,#[],ps,rfl,by rw [e2]; simp⟩)
    refine ⟨rfl,⟨key,fun b o e=>un.there b o e (by simp)⟩,os,bare⟩
 have tobj:∀ (H:Hp) b q,lamT.lookup b=some q->ObjOk P w H s₁.heap b (.tbl q):=fun H b q e=>⟨#[],(tabT b q e).1,.inl rfl⟩
 cases hk:K.lookup a with
 | some o=>
  -- the script is one of the module's own objects
  have e:=KX a o hk
  rw [ha] at e
  cases e
  refine core (fun b=>(lamT.lookup b).map .tbl) (fun b=>?_) (.inr ⟨_,vs.toArray,_,hk,rfl,rfl,rfl,by rw [List.size_toArray,lenV]; exact hl,by simpa using rv⟩) (fun b u z=>?_) (fun b z=>?_) (fun b z=>?_) (fun b y z=>?_) fun p hp=>?_
  ·cases q:lamT.lookup b with
   | none=>exact .inl (by show (lamT.lookup b).map HO.tbl=_; rw [q]; rfl)
   | some y=>exact .inr (.inr ⟨y,by show (lamT.lookup b).map HO.tbl=_; rw [q]; rfl⟩)
  ·obtain ⟨y,e1,rfl⟩:=Option.map_eq_some_iff.mp z
   exact tobj _ b y e1
  ·cases q:lamT.lookup b with
   | none=>exact absurd (by rw [q]; rfl) z
   | some y=>exact .inr ⟨y,rfl⟩
  ·cases q:lamT.lookup b with
   | none=>exact absurd (by rw [q]; rfl) z
   | some y=>exact (tabT b y q).2.2
  ·obtain ⟨y',e1,e2⟩:=Option.map_eq_some_iff.mp z
   cases e2; exact e1
  ·show (lamT.lookup p.1).map HO.tbl=_
   rw [(hT p hp).2.2.2]; rfl
 | none=>
  have na:∀ b y,lamT.lookup b=some y->b≠a:=fun b y e z=>by
   have:=(tabT b y e).1
   rw [z,ha] at this; cases this
  refine core (fun b=>if b=a then some (.frz { cls:=.type "list",data:=.seq vs.toArray } (.lst (ns.map V.int))) else (lamT.lookup b).map .tbl) (fun b=>?_) (.inl (.inr ⟨{ cls:=.type "list",data:=.seq vs.toArray },if_pos rfl⟩)) (fun b u z=>?_) (fun b z=>?_) (fun b z=>?_) (fun b y z=>?_) fun p hp=>?_
  ·by_cases hb:b=a
   ·exact .inr (.inl ⟨_,_,if_pos hb⟩)
   ·dsimp only
    rw [if_neg hb]
    cases q:lamT.lookup b with
    | none=>exact .inl rfl
    | some y=>exact .inr (.inr ⟨y,rfl⟩)
  ·by_cases hb:b=a
   ·have z':=(if_pos hb).symm.trans z
    cases z'
    subst hb
    exact ⟨ha,by rw [List.length_map]; exact hl,vs,_,rv,ha⟩
   ·have z':=(if_neg hb).symm.trans z
    obtain ⟨y,e1,rfl⟩:=Option.map_eq_some_iff.mp z'
    exact tobj _ b y e1
  ·by_cases hb:b=a
   ·exact .inl hb
   ·cases q:lamT.lookup b with
    | none=>exact absurd (by rw [if_neg hb,q]; rfl) z
    | some y=>exact .inr ⟨y,rfl⟩
  ·by_cases hb:b=a
   ·rw [hb]; exact hk
   ·cases q:lamT.lookup b with
    | none=>exact absurd (by rw [if_neg hb,q]; rfl) z
    | some y=>exact (tabT b y q).2.2
  ·by_cases hb:b=a
   ·have z':=(if_pos hb).symm.trans z
    cases z'
   ·have z':=(if_neg hb).symm.trans z
    obtain ⟨y',e1,e2⟩:=Option.map_eq_some_iff.mp z'
    cases e2; exact e1
  ·have hp2:=(hT p hp).2.2.2
   show (if p.1=a then _ else (lamT.lookup p.1).map HO.tbl)=_
   rw [if_neg (na _ _ hp2),hp2]; rfl
end L2
namespace L2
open PySem PySem.Spec PyProof.Rows
end L2
namespace L2
open PySem PySem.Spec PyProof.Rows
def L6 (s:Stmt):Arguments:=match s with
 | .FunctionDef _ a _ _ _ _ _ _ _ _=>a
 | _=>{ posonlyargs:=[],args:=[],vararg:=none,kwonlyargs:=[],kw_defaults:=[],kwarg:=none,defaults:=[] }
def y9 (s:Stmt):List Stmt:=match s with
 | .FunctionDef _ _ b _ _ _ _ _ _ _=>b
 | _=>[]
def c6 (s:Stmt):Scope:=match s with
 | .FunctionDef _ _ _ _ _ _ sc _ _ _=>sc
 | _=>{ kind:=.function,names:=[],isGenerator:=false,isCoroutine:=false }
abbrev CX0:CXT:=fun _ _ _ _ _ _=>False
abbrev E0:XK:=fun _ _ _=>False
theorem rq {X:Cx}:hV CX0 X E0:=fun _ _ _ _ _ _ _ h=>h.elim
structure Fun (K:Frag) (x qual:Str) (st:Stmt) (f:Addr) (fd:FuncData):Prop where
 ex:∃ (oc:Value) (od:Option Addr) (kV doc pm:Value) (an:Option Addr) (cdv ct:Value) (osl:Array (Option Value)),
  fd=PySem.W.fnOf x qual (L6 st) (y9 st) (c6 st) .none kV doc pm an cdv ct/\K.lookup f=some ⟨oc,od,.func fd,osl⟩/\PySem.W.codeIn K cdv qual=true
 kp:PySem.W.keepIn K (.ref f)=true
section
variable {P:Program} {w:World} {K:Frag} {mg:Str->Option Value} {base:Heap}
theorem Fun.ok {x qual:Str} {st:Stmt} {f:Addr} {fd:FuncData} {N ps:List Str} {k:Nat} {sp:Sp} (F:Fun K x qual st f fd) (S:f8 N ps (c6 st)) (len:∀ vs H Q E,sp vs H Q E->vs.length=ps.length)
  (hbody:∀ (cdv:Value) (A:Around) (outer:List Env) (s:Shared) (H:Hp) (vs:List V) (Q:VK) (E:XK),Room k (A.deeper (envOfC qual (c6 st) s.heap.objs.size f cdv))->sp vs H Q E ->
   ∃ t,PSs (T6 CX0 P w K mg base N qual (c6 st) f cdv A outer s H E).nox (y9 st) t/\t { nx:=fun _ H'=>Q .non H',rt:=Q } (start N vs) H):FnOk P w K mg base CX0 (k+1) f fd ps sp:=by
 obtain ⟨oc,od,kV,doc,pm,an,cdv,ct,osl,rfl,lk,hcd⟩:=F.ex
 refine rG lk hcd S len fun A outer s H vs Q E hr hsp=>?_
 obtain ⟨t,h,q⟩:=hbody cdv A outer s H vs Q E hr hsp
 exact ⟨t,h.nox,q⟩
theorem Fun.binds {x qual:Str} {st:Stmt} {f:Addr} {fd:FuncData} {ps:List Str} (F:Fun K x qual st f fd)
  (h:∀ (kV doc pm:Value) (an:Option Addr) (cdv ct:Value) (us:List Value),us.length=ps.length->bindArgs (PySem.W.fnOf x qual (L6 st) (y9 st) (c6 st) .none kV doc pm an cdv ct) ⟨us,[]⟩=pure (ps.zip us)):Binds K fd ps []:=by
 obtain ⟨oc,od,kV,doc,pm,an,cdv,ct,osl,rfl,lk,hcd⟩:=F.ex
 exact .all (h kV doc pm an cdv ct)
theorem yS {x qual:Str} {st:Stmt} {f:Addr} {oc:Value} {od an:Option Addr} {osl:Array (Option Value)} {kV doc pm cdv ct:Value} (l:K.lookup f=some ⟨oc,od,.func (PySem.W.fnOf x qual (L6 st) (y9 st) (c6 st) .none kV doc pm an cdv ct),osl⟩)
  (c:PySem.W.codeIn K cdv qual=true) (k:PySem.W.keepIn K (.ref f)=true):Fun K x qual st f (PySem.W.fnOf x qual (L6 st) (y9 st) (c6 st) .none kV doc pm an cdv ct):=⟨⟨oc,od,kV,doc,pm,an,cdv,ct,osl,rfl,l,c⟩,k⟩
end
section
variable {X:Cx}
theorem pv (i:Nat) {x:Str} {pos:Pos} (hN:X.N[i]?=some x:=by rfl) (hv:Vis X.env.scope x:=by first | exact Or.inl rfl | exact Or.inr (Or.inl rfl) | exact Or.inr (Or.inr rfl)) (hd:(x == ("__debug__" : Str))=false:=by decide)
  (hcd:(x == ("__classdict__" : Str))=false:=by decide):PE X (.Name x pos) (O9 i):=P5 hN hv hd hcd
end
def Same (H H':Hp):Prop:=∀ b o,H b=some o->H' b=some o
theorem Same.refl (H:Hp):Same H H:=fun _ _ h=>h
theorem Same.trans {H H1 H2:Hp} (a:Same H H1) (b:Same H1 H2):Same H H2:=fun c o h=>b c o (a c o h)
theorem Same.free {H H':Hp} (e:Same H H') {l:Addr} (h:H' l=Option.none):H l=Option.none:=by
 cases q:H l with
 | none=>rfl
 | some o=>
  rw [e l o q] at h
  cases h
theorem Same.seq {K:Frag} {H H':Hp} {a:Addr} {xs:List V} (e:Same H H') (h:SqL K H a xs):SqL K H' a xs:=by
 rcases h with (h | ⟨o,h⟩) | h
 ·exact .inl (.inl (e _ _ h))
 ·exact .inl (.inr ⟨o,e _ _ h⟩)
 ·exact .inr h
end L2
namespace L2
open PySem PySem.Spec PyProof.Rows
def Dk (h h':Heap):Prop:=∀ b o,h.get? b=some o->∃ o',h'.get? b=some o'/\o'.cls=o.cls/\o'.dict=o.dict
structure KD {α:Type} (t:Sem α):Prop where
 out:∀ (M:Model) (Γ:PySem.Ctx) (P:α->Pos->Shared->Prop) (Ee:Value->Pos->Shared->Prop) (p:Pos) (s:Shared),
  Sem.wp M Γ t P Ee p s->Sem.wp M Γ t (fun a p' s'=>P a p' s'/\Dk s.heap s'.heap) Ee p s
def cut (h:Heap) (fs:List Addr):Heap:={ h with objs:=h.objs.mapIdx fun i o=>if i∈fs then { o with data:=.freed } else o }
section
variable {P:Program} {w:World} {K:Frag} {mg:Str->Option Value} {base:Heap} {N:List Str} {qual:Str} {scope:Scope} {f:Addr} {cd:Value} {A:Around} {outer:List Env} {s:Shared} {H:Hp} {E:XK}
 {pins:List (Addr×Obj)} {σ:St} {H':Hp} {s2:Shared} {a:Addr}
end
end L2
namespace L2
open PySem PySem.Spec PyProof.Rows
section
variable {prog:Program} {w:World} {A:Around} {E:Value->Shared->Prop} {s:Shared} {K:Frag} {x C:Addr} {ox:Obj} {od:Option Obj} {name:Str} {tk:Tok} {fill expr:Bool} {v:Value} {Q:Value->Shared->Prop}
end
end L2
namespace L2
open PySem PySem.Spec PyProof.Rows
section
variable {prog:Program} {w:World} {A:Around} {E:Value->Shared->Prop} {s:Shared} {K:Frag} {x C:Addr} {ox:Obj} {name:Str} {tk:Tok} {v:Value} {Q:Unit->Shared->Prop}
end
end L2
namespace L2
open PySem PySem.Spec PyProof.Rows
section
variable {prog:Program} {w:World} {A:Around} {s:Shared} {K:Frag} {C f:Addr} {R:Result->Shared->Prop} {nm q:Str} {N:Addr} {bs bm bmB:List Value} {hdct:Bool} {sn:List Str} {sub:List Value} {ab:Bool} {col:Option Bool} {dd:Option Addr} {k0 k1 k2 k3 k5:Option Value}
 {B Bn newId nid initId inN:String} {bmN:List Value} {rest:List Value}
end
end L2
namespace L2
open PySem PySem.Spec PyProof.Rows
section
variable {prog:Program} {w:World} {A:Around} {E:Value->Shared->Prop} {s:Shared} {K:Frag} {env:Env} {x:Expr} {pos:Pos} {Q:Flow->Shared->Prop}
end
end L2
namespace L2
open PySem PySem.Spec PyProof.Rows
section
variable {X:Cx} {pins:List (Addr×Obj)} {σ σ':St} {H:Hp} {s:Shared}
end
end L2
namespace L2
open PySem PySem.Spec PyProof.Rows
section
variable {X:Cx} {pins:List (Addr×Obj)} {σ:St} {H H':Hp} {s s1:Shared}
end
end L2
namespace L2
open PySem PySem.Spec PyProof.Rows
section
variable {X:Cx} {pins:List (Addr×Obj)} {σ:St} {H H':Hp} {s s1:Shared} {a:Addr} {B:Heap} {cls:Value} {od:Option Addr}
structure Here (X:Cx) (pins:List (Addr×Obj)) (σ:St) (H':Hp) (a:Addr) (B:Heap) (cls:Value) (od:Option Addr) (s:Shared):Prop where
 inv:Inv X pins σ H' s
 dict:∃ o,s.heap.get? a=some o/\o.dict=od
end
end L2
namespace L2
open PySem PySem.Spec PyProof.Rows
section
variable {X:Cx} {k:Nat} {f:Addr} {fd:FuncData} {ps:List Str} {sp:Sp} {fn cn n y:Str} {fp cp ap np hpos yp pos:Pos} {e:Expr} {es:List Expr} {t:TA} {C:Addr} {i jn:Nat} {b0:Stmt} {suite:List Stmt} {tb:TS}
def tCatch (X:Cx) (C:Addr) (jn:Nat) (tb:TS) (D:Ends) (σ:St):XK:=fun cls od H'=>∃ Dc,cls=.ref Dc/\PySem.W.exmOne X.K (.ref Dc) (.ref C)=some true /\
 ∀ (a:Addr) (o:Obj),H' a=none->o.cls=cls->o.dict=od->(∃ vs:Array Value,o.data=.fields vs) ->
  tb { nx:=fun σ' H'=>D.nx (σ'.set jn none) H',rt:=D.rt,bk:=fun σ' H'=>D.bk (σ'.set jn none) H',ct:=fun σ' H'=>D.ct (σ'.set jn none) H' } (σ.set jn (some (.ref a))) (upd H' a (.ext fun h=>h.get? a=some o))
end
end L2
namespace L2
open PySem PySem.Spec PyProof.Rows
section
variable {X:Cx} {pins:List (Addr×Obj)} {σ:St} {H:Hp} {s:Shared}
end
end L2
namespace L2
open PySem PySem.Spec PyProof.Rows
section
variable {X:Cx}
end
end L2
namespace L2
open PySem PySem.Spec PyProof.Rows
section
variable {X:Cx} {pins:List (Addr×Obj)} {σ:St} {H:Hp} {s:Shared}
end
end L2
namespace L2
open PySem PySem.Spec PyProof.Rows
section
variable {P:Program} {w:World} {K:Frag} {mg:Str->Option Value} {base:Heap} {N:List Str} {qual:Str} {scope:Scope} {f0:Addr} {cd:Value} {A:Around} {outer:List Env} {s0:Shared} {H0:Hp} {E:XK}
 {k:Nat} {C f:Addr} {fd:FuncData} {ps:List Str} {sp:Sp} {cn:Str} {np cp pos:Pos} {e:Expr} {es:List Expr} {t:TA}
end
end L2
namespace L2
open PySem PySem.Spec PyProof.Rows
section
variable {P:Program} {w:World} {K:Frag} {mg:Str->Option Value} {base:Heap} {k:Nat} {f:Addr} {fd:FuncData} {ps N:List Str} {sp:Sp} {CX:CXT}
end
end L2
namespace L2
open PySem PySem.Spec PyProof.Rows
section
variable {X:Cx} {o:Expr} {ta:TE} {name:Str} {pos:Pos}
end
end L2
namespace L2
open PySem PySem.Spec PyProof.Rows
section
variable {X:Cx} {pins:List (Addr×Obj)} {σ:St} {H:Hp} {s:Shared} {A:Around} {E:Value->Shared->Prop} {Q:Value->Shared->Prop} {c:Value} {b:Bool} {a C:Addr} {ox:Obj} {vs:Array Value}
end
end L2
namespace L2
open PySem PySem.Spec PyProof.Rows
section
variable {P:Program} {w:World} {K:Frag} {mg:Str->Option Value} {base:Heap} {N:List Str} {qual:Str} {scope:Scope} {f0:Addr} {cd:Value} {A:Around} {outer:List Env} {s0:Shared} {H0:Hp} {E:XK}
 {C:Addr} {cn:Str} {np cp pos:Pos} {e:Expr} {es:List Expr} {t:TA}
end
end L2
namespace L2
open PySem
structure Nx {α:Type} (t:Sem α):Prop where
 out:∀ (M:Model) (Γ:PySem.Ctx) (P:α->Pos->Shared->Prop) (Ee Ef:Value->Pos->Shared->Prop) (p:Pos) (s:Shared),Sem.wp M Γ t P Ee p s->Sem.wp M Γ t P Ef p s
structure Po {α:Type} (t:Sem α) (pre:Shared->Prop) (post:α->Shared->Prop):Prop where
 out:∀ (M:Model) (Γ:PySem.Ctx) (P:α->Pos->Shared->Prop) (Ee Ef:Value->Pos->Shared->Prop) (p:Pos) (s:Shared),
  pre s->Sem.wp M Γ t P Ee p s->Sem.wp M Γ t (fun a p' s'=>P a p' s'/\post a s') Ef p s
def rT (v:Value) (i:Nat) (x:Value) (h:Heap):Prop:=∃ (a:Addr) (o:Obj) (vs:Array Value),v=.ref a/\h.get? a=some o/\o.data=.fields vs/\vs[i]?=some x
def Marked (e:Value) (f:Addr) (h:Heap):Prop:=∃ t,rT e 1 t h/\rT t 3 (rawInt f) h/\t≠.none
structure Free {α:Type} (t:Sem α):Prop where
 out:∀ (M:Model) (Γ Γ':PySem.Ctx) (P P':α->Pos->Shared->Prop) (E E':Value->Pos->Shared->Prop) (p p':Pos) (s:Shared),(∀ a p p' s,P a p s->P' a p' s)->(∀ a p p' s,E a p s->E' a p' s)->Sem.wp M Γ t P E p s->Sem.wp M Γ' t P' E' p' s
end L2
namespace L2
open PySem PySem.Spec PyProof.Rows
section
variable {X:Cx} {k:Nat} {f:Addr} {fd:FuncData} {ps:List Str} {sp:Sp} {fn cn n y:Str} {fp cp ap np hpos yp pos:Pos} {e:Expr} {es:List Expr} {t:TA} {C:Addr} {i jn:Nat} {b0:Stmt} {suite:List Stmt} {tb:TS}
end
end L2
namespace L2
open PySem PySem.Spec PyProof.Rows
section
variable {X:Cx} {k:Nat} {C f:Addr} {fd:FuncData} {ps:List Str} {sp:Sp} {cn:Str} {np cp pos:Pos} {e:Expr} {es:List Expr} {t:TA}
end
end L2
namespace L2
open PySem PySem.Spec PyProof.Rows
section
variable {κ:Type} [DecidableEq κ]
def O7 (kvs:List (κ×V)) (k:κ):Option V:=(kvs.find? fun kv=>decide (kv.1=k)).map (·.2)
def putK (kvs:List (κ×V)) (k:κ) (v:V):List (κ×V):=
 if (kvs.any fun kv=>decide (kv.1=k))=true then kvs.map (fun kv=>if kv.1=k then (kv.1,v) else kv) else kvs ++ [(k,v)]
def dropK (kvs:List (κ×V)) (k:κ):List (κ×V):=kvs.filter fun kv=>decide (kv.1≠k)
theorem bc {p:κ×V} {r:List (κ×V)} {k:κ} (e:p.1=k):O7 (p::r) k=some p.2:=by simp [O7,List.find?_cons,e]
theorem bf {p:κ×V} {r:List (κ×V)} {k:κ} (e:¬ p.1=k):O7 (p::r) k=O7 r k:=by simp [O7,List.find?_cons,e]
theorem bg (k:κ):∀ kvs:List (κ×V),(kvs.any fun kv=>decide (kv.1=k))=(O7 kvs k).isSome
 | []=>rfl
 | p::r=>by
  rw [List.any_cons]
  by_cases e:p.1=k
  ·simp only [bc e,decide_eq_true e,Bool.true_or,Option.isSome_some]
  ·rw [bf e,decide_eq_false e,Bool.false_or]; exact bg k r
theorem aY (kvs:List (κ×V)) (k:κ) (v:V):(putK kvs k v).length<=kvs.length+1:=by
 unfold putK
 split
 ·rw [List.length_map]; omega
 ·rw [List.length_append,List.length_cons,List.length_nil]; omega
theorem RelO.isSome_eq {o:Option V} {u:Option Value} (r:RelO o u):o.isSome=u.isSome:=by
 cases o with
 | none=>cases u with
  | none=>rfl
  | some _=>exact (show False from r).elim
 | some _=>cases u with
  | none=>exact (show False from r).elim
  | some _=>rfl
theorem KV.val {kvs:List (κ×V)} {vs:List (κ×Value)} (r:KV kvs vs) (k:κ):RelO (O7 kvs k) (valueAt vs k):=by
 unfold KV at r
 induction r with
 | nil=>exact True.intro
 | @cons p q ps qs h t ih=>
  obtain ⟨h1,h2⟩:=h
  by_cases e:p.1=k
  ·have e':q.1=k:=h1.symm.trans e
   have b:valueAt (q::qs) k=some q.2:=by simp [valueAt,List.find?_cons,e']
   rw [bc e,b]; exact h2
  ·have e':¬ q.1=k:=fun z=>e (h1.trans z)
   have b:valueAt (q::qs) k=valueAt qs k:=by simp [valueAt,List.find?_cons,e']
   rw [bf e,b]; exact ih
theorem KV.any {kvs:List (κ×V)} {vs:List (κ×Value)} (r:KV kvs vs) (k:κ):(kvs.any fun kv=>decide (kv.1=k))=vs.any fun kv=>decide (kv.1=k):=by
 unfold KV at r
 induction r with
 | nil=>rfl
 | cons h t ih=>rw [List.any_cons,List.any_cons,ih,h.1]
theorem KV.repl {kvs:List (κ×V)} {vs:List (κ×Value)} (r:KV kvs vs) (k:κ) {y:V} {u:Value} (ry:RelV y u) :
  KV (kvs.map fun kv=>if kv.1=k then (kv.1,y) else kv) (vs.map fun kv=>if kv.1=k then (kv.1,u) else kv):=by
 unfold KV at r ⊢
 induction r with
 | nil=>exact .nil
 | @cons p q ps qs h t ih=>
  rw [List.map_cons,List.map_cons]
  refine .cons ?_ ih
  obtain ⟨h1,h2⟩:=h
  by_cases e:p.1=k
  ·rw [if_pos e,if_pos (h1.symm.trans e)]; exact ⟨h1,ry⟩
  ·rw [if_neg e,if_neg (fun z=>e (h1.trans z))]; exact ⟨h1,h2⟩
theorem KV.put {kvs:List (κ×V)} {vs:List (κ×Value)} (r:KV kvs vs) (k:κ) {y:V} {u:Value} (ry:RelV y u):KV (putK kvs k y) (stored vs k u):=by
 unfold putK stored
 rw [r.any k]
 by_cases e:(vs.any fun kv=>decide (kv.1=k))=true
 ·rw [if_pos e,if_pos e]; exact r.repl k ry
 ·rw [if_neg e,if_neg e]; exact Paired.snoc r ⟨rfl,ry⟩
theorem KV.length {kvs:List (κ×V)} {vs:List (κ×Value)} (r:KV kvs vs):kvs.length=vs.length:=Paired.length r
end
theorem jZ {P:Program} {w:World} {k:Key} {u:Value} (r:RelV (kV k) u):(t4 P w).is k u=true:=by
 cases k with
 | inl i=>obtain ⟨t,e⟩:=(show ∃ t,u=Value.int i t from r); subst e; exact ij P w i t
 | inr x=>obtain ⟨t,e⟩:=(show ∃ t,u=Value.str x t from r); subst e; exact ii P w x t
theorem eg {P:Program} {w:World}:∀ {ks:List Key} {us:List Value},Vals (ks.map kV) us->ItemsAre (t4 P w) ks us
 | [],_,r=>by rw [List.map_nil] at r; cases r; exact .nil
 | k::ks,_,r=>by
  rw [List.map_cons] at r
  cases r with
  | cons h t=>exact .cons (jZ h) (eg t)
abbrev KT (H:Hp):List (List Key×V)->List (List Key×Addr×Value)->Prop:=Paired fun p q=>p.1=q.1/\H q.2.1=some (.tup (p.1.map kV))/\RelV p.2 q.2.2
theorem KT.val {H:Hp} {kvs:List (List Key×V)} {xs:List (List Key×Addr×Value)} (r:KT H kvs xs) (k:List Key):RelO (O7 kvs k) ((atKey xs k).map (·.2)):=by
 induction r with
 | nil=>exact True.intro
 | @cons p q ps qs h t ih=>
  obtain ⟨h1,_,h2⟩:=h
  by_cases e:p.1=k
  ·have e':q.1=k:=h1.symm.trans e
   have b:atKey (q::qs) k=some q.2:=by simp [atKey,List.find?_cons,e']
   rw [bc e,b]; exact h2
  ·have e':¬ q.1=k:=fun z=>e (h1.trans z)
   have b:atKey (q::qs) k=atKey qs k:=by simp [atKey,List.find?_cons,e']
   rw [bf e,b]; exact ih
theorem KT.repl {H:Hp} {kvs:List (List Key×V)} {xs:List (List Key×Addr×Value)} (r:KT H kvs xs) (k:List Key) {y:V} {u:Value} (ry:RelV y u) :
  KT H (kvs.map fun kv=>if kv.1=k then (kv.1,y) else kv) (xs.map (putAt k u)):=by
 induction r with
 | nil=>exact .nil
 | @cons p q ps qs h t ih=>
  rw [List.map_cons,List.map_cons]
  refine .cons ?_ ih
  obtain ⟨h1,h2,h3⟩:=h
  unfold putAt
  by_cases e:p.1=k
  ·rw [if_pos e,if_pos (h1.symm.trans e)]; exact ⟨h1,h2,ry⟩
  ·rw [if_neg e,if_neg (fun z=>e (h1.trans z))]; exact ⟨h1,h2,h3⟩
theorem KT.put {H:Hp} {kvs:List (List Key×V)} {xs:List (List Key×Addr×Value)} (r:KT H kvs xs) (k:List Key) {b:Addr} {y:V} {u:Value} (hb:H b=some (.tup (k.map kV))) (ry:RelV y u) :
  KT H (putK kvs k y) (storedH xs k b u):=by
 have e:(kvs.any fun kv=>decide (kv.1=k))=(atKey xs k).isSome:=by
  rw [bg,(r.val k).isSome_eq,Option.isSome_map]
 unfold putK storedH
 rw [e]
 by_cases q:(atKey xs k).isSome=true
 ·rw [if_pos q,if_pos q]; exact r.repl k ry
 ·rw [if_neg q,if_neg q]; exact Paired.snoc r ⟨rfl,hb,ry⟩
theorem KT.keeps {H H':Hp} {kvs:List (List Key×V)} {xs:List (List Key×Addr×Value)} (r:KT H kvs xs) (ht:∀ b ys,H b=some (.tup ys)->H' b=some (.tup ys)):KT H' kvs xs:=
 Paired.mapP r fun _ _ z=>⟨z.1,ht _ _ z.2.1,z.2.2⟩
section
variable {P:Program} {w:World} {H:Hp} {h:Heap} {a:Addr}
theorem qY {u:HO} (ok:HOk P w H h) (e:Rd H a u):ObjOk P w H h a u:=e.ok ok
theorem rN {kvs:List (Key×V)} (ok:HOk P w H h) (e:Rd H a (.dK kvs)):kvs.length<=sizeLine/\(a == sysModules)=false/\∃ vs,KV kvs vs/\h.DictOf (t4 P w) a vs:=
 show ObjOk P w H h a (.dK kvs) from qY ok e
theorem Bk {kvs:List (Key×V)} (ok:HOk P w H h) (e:H a=some (.dK kvs)):kvs.length<=sizeLine/\(a == sysModules)=false/\∃ vs,KV kvs vs/\h.DictOf (t4 P w) a vs:=rN ok (.inl e)
theorem cD {ks:List Key} (ok:HOk P w H h) (e:H a=some (.tup (ks.map kV))):(tupleKind (t4 P w)).is h ks a:=by
 obtain ⟨_,its,r,o,h1,h2,n,h3⟩:=(show ObjOk P w H h a (.tup (ks.map kV)) from ok a _ e)
 exact ⟨o,its.toArray,n,h1,h2,h3,by simpa using eg r⟩
theorem rL {kvs:List (List Key×V)} (ok:HOk P w H h) (e:Rd H a (.dT kvs)):kvs.length<=sizeLine/\(a == sysModules)=false /\
  ∃ xs,KT H kvs xs/\h.DictOfH (tupleKind (t4 P w)) a xs:=by
 obtain ⟨z,y,xs,r,o,es,ep,h1,h2,h3,h4,h5⟩:=(show ObjOk P w H h a (.dT kvs) from qY ok e)
 refine ⟨z,y,xs,r,o,es,ep,h1,h2,h3,h4,fun x hx=>?_,h5⟩
 have all:∀ {l:List (List Key×V)} {m:List (List Key×Addr×Value)},KT H l m->∀ x∈m,(tupleKind (t4 P w)).is h x.1 x.2.1:=by
  intro l m q
  induction q with
  | nil=>intro x hx; exact nomatch hx
  | @cons p q ps qs hq t ih=>
   intro x hx
   rcases List.mem_cons.mp hx with e | hx
   ·subst e
    exact cD ok (by rw [<- hq.1]; exact hq.2.1)
   ·exact ih x hx
 exact all r x hx
theorem rM {kvs:List (List Key×V)} (ok:HOk P w H h) (e:H a=some (.dT kvs)):kvs.length<=sizeLine/\(a == sysModules)=false /\
  ∃ xs,KT H kvs xs/\h.DictOfH (tupleKind (t4 P w)) a xs:=rL ok (.inl e)
end
def DGet (H:Hp) (a:Addr) (y:V) (r:Option V):Prop:=
 (∃ kvs k,Rd H a (.dK kvs)/\y=kV k/\r=O7 kvs k)\/∃ kvs k b,Rd H a (.dT kvs)/\y=.ref b/\H b=some (.tup (k.map kV))/\r=O7 kvs k
def DPut (H:Hp) (a:Addr) (y v:V) (H':Hp):Prop:=
 (∃ kvs k,H a=some (.dK kvs)/\y=kV k/\kvs.length<sizeLine/\H'=upd H a (.dK (putK kvs k v))) \/
 ∃ kvs k b,H a=some (.dT kvs)/\y=.ref b/\H b=some (.tup (k.map kV))/\kvs.length<sizeLine/\H'=upd H a (.dT (putK kvs k v))
theorem DGet.t {H:Hp} {a b:Addr} {kvs:List (List Key×V)} {k:List Key} (e:H a=some (.dT kvs)) (eb:H b=some (.tup (k.map kV))):DGet H a (.ref b) (O7 kvs k):=.inr ⟨kvs,k,b,.inl e,rfl,eb,rfl⟩
theorem DPut.t {H:Hp} {a b:Addr} {kvs:List (List Key×V)} {k:List Key} {v:V} (e:H a=some (.dT kvs)) (eb:H b=some (.tup (k.map kV))) (hl:kvs.length<sizeLine) :
  DPut H a (.ref b) v (upd H a (.dT (putK kvs k v))):=.inr ⟨kvs,k,b,e,rfl,eb,hl,rfl⟩
section
variable {X:Cx} {pins:List (Addr×Obj)} {σ:St} {H:Hp} {s:Shared} {a:Addr} {y v:V} {u r:Value} {o:Option V} {A:Around} {E:Value->Shared->Prop}
theorem Inv.big (I:Inv X pins σ H s):sysModules<s.heap.objs.size:=by
 have h:mainGlobals<s.heap.objs.size:=(I.mod.glob.keeps I.bk).lt
 exact Nat.lt_trans (by decide) h
theorem d_in {Q:Value->Shared->Prop} (hu:A.units+1<cLine) (I:Inv X pins σ H s) (g:DGet H a y o) (ry:RelV y u) (h:∀ s',Inv X pins σ H s'->Q (.bool o.isSome) s') :
  wpAny (model X.prog X.w) A (compareOp .In u (.ref a)) Q E s:=by
 rcases g with ⟨kvs,k,e,ey,l⟩ | ⟨kvs,k,b,e,ey,eb,l⟩
 ·subst ey
  obtain ⟨z,hd,vs,rel,dd⟩:=rN I.hok e
  refine wpAny_in_of (jZ ry) hd dd.mapOf ?_
  rw [<- (rel.val k).isSome_eq,<- l]
  exact h _ (I.tok _)
 ·subst ey
  cases (show u=Value.ref b from ry)
  obtain ⟨z,hd,xs,rel,dd⟩:=rL I.hok e
  refine wpAny_in_heap (tupleKind_room_in1 hu) (cD I.hok eb) hd dd ?_
  have q:=(rel.val k).isSome_eq
  rw [Option.isSome_map] at q
  rw [<- q,<- l]
  exact h _ (I.tok _)
theorem dG {h':Heap} {t':Nat} {ob:HO} (I:Inv X pins σ H s) (mu:Mut (H a)) (hs:Heap.SameBut a s.heap h') (he:∃ q,h'.get? a=some q) (new:ObjOk X.prog X.w (upd H a ob) h' a ob) :
  Inv X pins σ (upd H a ob) { s with heap:=h',toks:=t' }:=
 I.write (x:=a) (e:=a) mu (.inl rfl) (fun b q hb z=>(hs.2 b hb).trans z) he new
theorem zy {P:Program} {w:World} {H':Hp} {h':Heap} {kvs:List (Key×V)} {vs:List (Key×Value)} (z:kvs.length<=sizeLine) (hd:(a == sysModules)=false) (rel:KV kvs vs) (dd:h'.DictOf (t4 P w) a vs) :
  ObjOk P w H' h' a (.dK kvs):=⟨z,hd,vs,rel,dd⟩
theorem nz {H':Hp} {Q:Unit->Shared->Prop} (hu:A.units+1<cLine) (I:Inv X pins σ H s) (g:DPut H a y v H') (ry:RelV y u) (rv:RelV v r) (h:∀ s',Inv X pins σ H' s'->Q () s') :
  wpAny (model X.prog X.w) A (setItem (.ref a) u r) Q E s:=by
 rcases g with ⟨kvs,k,e,ey,l,eH⟩ | ⟨kvs,k,b,e,ey,eb,l,eH⟩
 ·subst ey eH
  obtain ⟨z,hd,vs,rel,dd⟩:=Bk I.hok e
  have hz:vs.length<=sizeLine:=by rw [<- rel.length]; exact z
  have hl:(putK kvs k v).length<=sizeLine:=by have:=aY kvs k v; omega
  refine wpAny_setItem_pairs (hsz:=hz) (jZ ry) dd fun h' dd' hs=>h _ ?_
  have he:∃ q,h'.get? a=some q:=let ⟨q,_,_,hq,_⟩:=dd'; ⟨q,hq⟩
  exact dG I (by rw [e]; exact True.intro) hs he (zy hl hd (rel.put k rv) dd')
 ·subst ey eH
  cases (show u=Value.ref b from ry)
  obtain ⟨z,hd,xs,rel,dd⟩:=rM I.hok e
  have hz:xs.length<=sizeLine:=by rw [<- Paired.length rel]; exact z
  have hl:(putK kvs k v).length<=sizeLine:=by have:=aY kvs k v; omega
  refine wpAny_setItem_heap (hsz:=hz) (tupleKind_room_in1 hu) (cD I.hok eb) dd fun h' dd' hs=>h _ ?_
  obtain ⟨q,es,ep,hq,h2,h3,h4,_,h5⟩:=dd'
  refine dG I (by rw [e]; exact True.intro) hs ⟨q,hq⟩ ⟨hl,hd,_,(rel.put k eb rv).keeps fun c ys ec=>?_,q,es,ep,hq,h2,h3,h4,h5⟩
  rw [c7 (rA ec e (fun z=>nomatch z))]
  exact ec
end
section
variable {X:Cx} {pins:List (Addr×Obj)} {σ:St} {H:Hp} {s:Shared} {a:Addr} {kvs:List (Key×V)} {k:Key} {u:Value} {A:Around} {E:Value->Shared->Prop}
end
def vQ (ty td:TE):TE:=fun σ H Q=>ty σ H fun y H1=>td σ H1 fun x H2=>∃ a o,x=.ref a/\DGet H2 a y o/\Q (.bl o.isSome) H2
def qX (td ty tv:TE):TS:=fun D σ H=>tv σ H fun v H1=>td σ H1 fun x H2=>ty σ H2 fun y H3=>∃ a H4,x=.ref a/\DPut H3 a y v H4/\D.nx σ H4
section
variable {X:Cx} {o i e value:Expr} {pos pos' tpos:Pos} {td ty tv:TE}
theorem xB (hu:X.A.units+1<cLine) (hi:PE X i ty) (ho:PE X o td):PC X .In i o (vQ ty td):=by
 intro pins s σ H Q I h
 refine thn (hi pins s σ H _ I h) fun iv s1 ⟨y,H1,I1,ry,q1⟩=>thn (ho pins s1 σ H1 _ I1 q1) fun u s2 zz49=>?_
 obtain ⟨x,H2,I2,rx,a,ov,ex,g,q2⟩:=zz49
 subst ex
 obtain rfl:u=Value.ref a:=rx
 exact d_in hu I2 g ry fun s3 I3=>⟨.bl ov.isSome,H2,I3,rfl,q2⟩
theorem tD (hu:X.A.units+1<cLine) (ho:PE X o td) (hi:PE X i ty) (hv:PE X value tv) (hs:swapsWith value (some (.Subscript o i pos')) pos.line X.env=pure false) :
  PS X (.Assign [.Subscript o i pos'] value pos) (qX td ty tv):=by
 intro pins s σ H D I h
 refine wpAny_Assign_Subscript (thn (hv pins s σ H _ I h) fun r s1 ⟨v,H1,I1,rv,q1⟩=>thn (ho pins s1 σ H1 _ I1 q1) fun u s2 ⟨x,H2,I2,rx,q2⟩=>thn (hi pins s2 σ H2 _ I2 q2) fun iv s3 zz52=>?_) hs
 obtain ⟨y,H3,I3,ry,a,H4,ex,g,q3⟩:=zz52
 subst ex
 obtain rfl:u=Value.ref a:=rx
 exact nz hu I3 g ry rv fun s4 I4=>⟨σ,H4,I4,q3⟩
end
theorem qy {P:Program} {w:World} {H:Hp} (h:Heap) (hb:sysModules<h.objs.size):ObjOk P w H (h.push { cls:=.type "dict",data:=.dict #[] }) h.objs.size (.dT []):=
 ⟨Nat.zero_le _,beq_eq_false_iff_ne.mpr (Ne.symm (Nat.ne_of_lt hb)),[],.nil,_,#[],0,Heap.get?_push_size _ rfl,⟨rfl,rfl,rfl⟩,rfl,rfl,List.nodup_nil⟩
section
variable {X:Cx} {pos:Pos}
end
end L2
namespace L2
open PySem
structure Sub where
 t:Bool
 i:Addr
 l:Addr
def Sub.At (u:Sub) (h:Heap) (n:Nat):Prop:=if u.t=true then h.IsTupleIter u.i u.l n else h.IsListIter u.i u.l n
def Sub.Src (u:Sub) (h:Heap) (xs:Array Value):Prop:=if u.t=true then h.IsTuple u.l xs else h.IsList u.l xs
theorem Sub.At.obj {u:Sub} {h:Heap} {n:Nat} (x:u.At h n):∃ o,h.get? u.i=some o/\o.data=.fields #[.ref u.l,.int n 0]:=by
 unfold Sub.At at x
 split at x <;> (obtain ⟨o,e,_,d⟩:=x; exact ⟨o,e,d⟩)
theorem Sub.At.keep {u:Sub} {h h':Heap} {n:Nat} (x:u.At h n) (k:∀ o,h.get? u.i=some o->h'.get? u.i=some o):u.At h' n:=by
 unfold Sub.At at x ⊢
 split at x <;> (rename_i ht; obtain ⟨o,e,r⟩:=x; simp only [ht,if_true,if_false,Bool.false_eq_true]; exact ⟨o,k o e,r⟩)
theorem Sub.Src.keep {u:Sub} {h h':Heap} {xs:Array Value} (x:u.Src h xs) (k:∀ o,h.get? u.l=some o->h'.get? u.l=some o):u.Src h' xs:=by
 unfold Sub.Src at x ⊢
 split at x <;> (rename_i ht; obtain ⟨o,e,r⟩:=x; simp only [ht,if_true,if_false,Bool.false_eq_true]; exact ⟨o,k o e,r⟩)
section
variable {prog:Program} {w:World} {A:Around} {E:Value->Shared->Prop} {s:Shared}
theorem cw {it t:Addr} {i:Nat} {items:Array Value} {x:Value} {Q:Value->Shared->Prop} (hit:s.heap.IsTupleIter it t i) (ht:s.heap.IsTuple t items) (hx:items[i]?=some x)
  (hQ:∀ h',h'.IsTupleIter it t (i+1)->Heap.SameBut it s.heap h'->Q x { s with heap:=h' }):wpAny (model prog w) A (Builtin.SmallTypes.nextOf (.ref it)) Q E s:=by
 obtain ⟨o,ho,hc,hd⟩:=id hit; obtain ⟨ol,hol,_,nl,hdl⟩:=ht; unfold Builtin.SmallTypes.nextOf
 refine wpAny_bind (wpAny_callSpecial?_slot (name:=Str.ofString "__next__") hit.typeIs F.slot_tuple_iterator_next (wpAny_call_entry F.slot_tuple_iterator_next hit.typeIs F.entry_tuple_iterator_next ?_ (F.args_tuple_iterator_next_1 _)))
 show wpAny _ _ (field (.ref it) 0>>=_) _ _ s; refine wpAny_bind (wpAny_field ho hd (x:=.ref t) rfl ?_)
 show wpAny _ _ (if (Value.ref t == Value.none)=true then _ else _) _ _ s; rw [if_neg (show ¬ ((Value.ref t == Value.none)=true) from Bool.false_ne_true)]
 show wpAny _ _ (field (.ref it) 1>>=_) _ _ s; refine wpAny_bind (wpAny_field ho hd (x:=.int i 0) rfl ?_)
 show wpAny _ _ (seqItems? (.ref t)>>=_) _ _ s; refine wpAny_bind (wpAny_seqItems hol hdl ?_); simp only [Int.toNat_natCast,hx]
 refine wpAny_bind (wpAny_setField ho hd (by simp) (wpAny_pure ⟨x,rfl,wpAny_pure (hQ _ ?_ (Heap.SameBut.update ..))⟩)); exact ⟨_,Heap.get?_update_self _ ho (Obj.isFreed_of_fields (Obj.data_mapFields hd _)),(Obj.cls_mapFields ..).trans hc,by rw [Obj.data_mapFields hd]; simp [rawInt]⟩
theorem dj {it t:Addr} {i:Nat} {items:Array Value} {Q:Value->Shared->Prop} (hh:A.handled=none) (hit:s.heap.IsTupleIter it t i) (ht:s.heap.IsTuple t items) (hx:items[i]?=none)
  (hE:∀ h' e,Heap.ExtBut it s.heap h'->(∃ o,h'.get? e=some o/\o.cls=.type "StopIteration")->E (.ref e) { s with heap:=h' }):wpAny (model prog w) A (Builtin.SmallTypes.nextOf (.ref it)) Q E s:=by
 obtain ⟨o,ho,hc,hd⟩:=id hit; obtain ⟨ol,hol,_,nl,hdl⟩:=ht; unfold Builtin.SmallTypes.nextOf
 refine wpAny_bind (wpAny_callSpecial?_slot (name:=Str.ofString "__next__") hit.typeIs F.slot_tuple_iterator_next (wpAny_call_entry F.slot_tuple_iterator_next hit.typeIs F.entry_tuple_iterator_next ?_ (F.args_tuple_iterator_next_1 _)))
 show wpAny _ _ (field (.ref it) 0>>=_) _ _ s; refine wpAny_bind (wpAny_field ho hd (x:=.ref t) rfl ?_)
 show wpAny _ _ (if (Value.ref t == Value.none)=true then _ else _) _ _ s; rw [if_neg (show ¬ ((Value.ref t == Value.none)=true) from Bool.false_ne_true)]
 show wpAny _ _ (field (.ref it) 1>>=_) _ _ s; refine wpAny_bind (wpAny_field ho hd (x:=.int i 0) rfl ?_)
 show wpAny _ _ (seqItems? (.ref t)>>=_) _ _ s; refine wpAny_bind (wpAny_seqItems hol hdl ?_); simp only [Int.toNat_natCast,hx]
 refine wpAny_bind (wpAny_rule (wpAny_bind (wpAny_setField ho hd (by simp) ?_))); show wpAny _ _ (newExc (.type "StopIteration") []>>=_) _ _ _
 refine wpAny_bind ?_; simp only [newExc,newTuple]; refine wpAny_bind (wpAny_newObj_type ?_ (by size_fits))
 refine wpAny_bind (m:=firstArgMember _ _) (wpAny_of_eq (a:=Value.none) (by first | rfl | (simp only [firstArgMember]; rfl)) ?_); refine wpAny_newObj_type ?_ (by size_fits); simp only [raiseNew]
 refine wpAny_bind (wpAny_handled ?_); first | rw [show A.in1.handled=none from hh] | rw [hh]
 refine wpAny_bind (wpAny_pure (wpAny_throw ?_)); exact hE _ _ (((Heap.SameBut.update ..).extBut.push _).push _) ⟨_,Heap.get?_push_size _ rfl,rfl⟩
theorem Sub.item {u:Sub} {n:Nat} {xs:Array Value} {x:Value} {Q:Value->Shared->Prop} (ha:u.At s.heap n) (hs:u.Src s.heap xs) (hx:xs[n]?=some x)
  (hQ:∀ h',u.At h' (n+1)->Heap.SameBut u.i s.heap h'->Q x { s with heap:=h' }):wpAny (model prog w) A (Builtin.SmallTypes.nextOf (.ref u.i)) Q E s:=by
 unfold Sub.At at ha hQ; unfold Sub.Src at hs
 cases ht:u.t with
 | true=>simp only [ht,if_true] at ha hs hQ; exact cw ha hs hx hQ
 | false=>simp only [ht,if_false,Bool.false_eq_true] at ha hs hQ; exact wpAny_nextOf_list_item ha hs hx hQ
theorem Sub.ends {u:Sub} {n:Nat} {xs:Array Value} {Q:Value->Shared->Prop} (hh:A.handled=none) (ha:u.At s.heap n) (hs:u.Src s.heap xs) (hx:xs[n]?=none)
  (hE:∀ h' e,Heap.ExtBut u.i s.heap h'->(∃ o,h'.get? e=some o/\o.cls=.type "StopIteration")->E (.ref e) { s with heap:=h' }):wpAny (model prog w) A (Builtin.SmallTypes.nextOf (.ref u.i)) Q E s:=by
 unfold Sub.At at ha; unfold Sub.Src at hs
 cases ht:u.t with
 | true=>simp only [ht,if_true] at ha hs; exact dj hh ha hs hx hE
 | false=>simp only [ht,if_false,Bool.false_eq_true] at ha hs; exact wpAny_nextOf_list_end hh ha hs hx hE
abbrev A7 (h:Heap) (T:Addr) (arr:Array Value):Prop:=h.get? T=some { cls:=.type "tuple",data:=.seq arr }
def drawn (n:Nat):List (Sub×Array Value)->Nat->Array Value->Array Value
 | [],_,arr=>arr
 | u::r,c,arr=>drawn n r (c+1) (arr.setIfInBounds c (u.2.getD n .none))
def rV (prog:Program) (w:World) (A:Around) (z TO:Addr) (E:Value->Shared->Prop) (B:Value×Nat->Option Fin×Unit->Sem (ForInStep (Option Fin×Unit))):Prop:=
 ∀ (v:Value) (k:Nat) (s:Shared) (Q:ForInStep (Option Fin×Unit)->Shared->Prop),
  wpAny (model prog w) A (Builtin.SmallTypes.nextOf v) (fun x s1=>∃ arr,A7 s1.heap TO arr/\arr.size<=sizeLine/\∀ h',A7 h' TO (arr.setIfInBounds k x)->Heap.SameBut TO s1.heap h'->Q (.yield (none,())) { s1 with heap:=h' })
   (fun e s1=>wpAny (model prog w) A (setField (.ref z) 0 .none) (fun _ s2=>E e s2) E s1) s->wpAny (model prog w) A (B (v,k) (none,())) Q E s
structure Apart (z TO:Addr) (ss:List (Sub×Array Value)):Prop where
 zTO:z≠TO
 zi:∀ u∈ss,u.1.i≠z
 ti:∀ u∈ss,u.1.i≠TO
 nd:ss.Pairwise fun u v=>u.1.i≠v.1.i
 lz:∀ u∈ss,u.1.l≠z
 lt:∀ u∈ss,u.1.l≠TO
 li:∀ u∈ss,∀ v∈ss,u.1.l≠v.1.i
theorem Apart.tail {z TO:Addr} {u:Sub×Array Value} {ss:List (Sub×Array Value)} (D:Apart z TO (u::ss)):Apart z TO ss:=
 ⟨D.zTO,fun v hv=>D.zi v (List.mem_cons_of_mem _ hv),fun v hv=>D.ti v (List.mem_cons_of_mem _ hv),(List.pairwise_cons.mp D.nd).2,fun v hv=>D.lz v (List.mem_cons_of_mem _ hv),fun v hv=>D.lt v (List.mem_cons_of_mem _ hv),
  fun v hv x hx=>D.li v (List.mem_cons_of_mem _ hv) x (List.mem_cons_of_mem _ hx)⟩
theorem draws {z TI TO:Addr} {n:Nat} {B:Value×Nat->Option Fin×Unit->Sem (ForInStep (Option Fin×Unit))} (hB:rV prog w A z TO E B) :
  ∀ (ss:List (Sub×Array Value)) (c:Nat) (arr:Array Value) (s:Shared) (Q:Option Fin×Unit->Shared->Prop),Apart z TO ss->IsZip s.heap z TI TO .ellipsis->A7 s.heap TO arr->arr.size<=sizeLine ->
   (∀ u∈ss,u.1.At s.heap n/\u.1.Src s.heap u.2/\∃ x,u.2[n]?=some x) ->
   (∀ h',IsZip h' z TI TO .ellipsis->A7 h' TO (drawn n ss c arr)->(∀ u∈ss,u.1.At h' (n+1))->h'.objs.size=s.heap.objs.size ->
    (∀ b o,b≠TO->(∀ u∈ss,b≠u.1.i)->s.heap.get? b=some o->h'.get? b=some o)->Q (none,()) { s with heap:=h' }) ->
   wpAny (model prog w) A (forIn ((ss.map fun u=>Value.ref u.1.i).zipIdx c) (none,()) B) Q E s:=by
 intro ss
 induction ss with
 | nil=>
  intro c arr s Q D hz hT hl hu hQ
  simp only [List.map_nil,List.zipIdx_nil,List.forIn_nil]
  exact wpAny_pure (hQ s.heap hz hT (fun _ h=>absurd h List.not_mem_nil) rfl fun _ _ _ _ e=>e)
 | cons u r ih=>
  intro c arr s Q D hz hT hl hu hQ
  simp only [List.map_cons,List.zipIdx_cons,List.forIn_cons]
  obtain ⟨ha,hsrc,x,hx⟩:=hu u List.mem_cons_self
  refine wpAny_bind (hB _ _ _ _ (Sub.item ha hsrc hx fun h1 ha1 sb1=>⟨arr,sb1.extBut _ _ (D.ti u List.mem_cons_self).symm hT,hl,fun h2 hT2 sb2=>?_⟩))
  have uz:=D.zi u List.mem_cons_self
  have ut:=D.ti u List.mem_cons_self
  have kp:∀ b o,b≠TO->b≠u.1.i->s.heap.get? b=some o->h2.get? b=some o:=fun b o h1 h2 e=>sb2.extBut _ _ h1 (sb1.extBut _ _ h2 e)
  have hui:∀ v∈r,v.1.i≠u.1.i:=fun v hv=>((List.pairwise_cons.mp D.nd).1 v hv).symm
  refine ih (c+1) (arr.setIfInBounds c x) { s with heap:=h2 } Q D.tail (kp _ _ D.zTO uz.symm hz) hT2 (by simpa using hl) (fun v hv=>?_) fun h3 z3 T3 a3 s3 k3=>?_
  ·obtain ⟨a,b,y⟩:=hu v (List.mem_cons_of_mem _ hv)
   exact ⟨a.keep fun o e=>kp _ o (D.ti v (List.mem_cons_of_mem _ hv)) (hui v hv) e,b.keep fun o e=>kp _ o (D.lt v (List.mem_cons_of_mem _ hv)) (D.li v (List.mem_cons_of_mem _ hv) u List.mem_cons_self) e,y⟩
  ·refine hQ h3 z3 ?_ (fun v hv=>?_) (by rw [s3]; show h2.objs.size=_; rw [sb2.1,sb1.1]) fun b o h1 h2 e=>k3 b o h1 (fun v hv=>h2 v (List.mem_cons_of_mem _ hv)) (kp b o h1 (h2 u List.mem_cons_self) e)
   ·have e:u.2.getD n .none=x:=by simp [Array.getD_eq_getD_getElem?,hx]
    show A7 h3 TO (drawn n r (c+1) (arr.setIfInBounds c (u.2.getD n .none)))
    rw [e]; exact T3
   ·rcases List.mem_cons.mp hv with rfl | hv
    ·exact ha1.keep fun o e=>k3 _ o ut (fun v' hv'=>(hui v' hv').symm) (sb2.extBut _ _ ut e)
    ·exact a3 v hv
theorem nt {z TI TO:Addr} {n:Nat} {B:Value×Nat->Option Fin×Unit->Sem (ForInStep (Option Fin×Unit))} (hh:A.handled=none) (hB:rV prog w A z TO E B) :
  ∀ (ss:List (Sub×Array Value)) (c:Nat) (arr:Array Value) (s:Shared) (Q:Option Fin×Unit->Shared->Prop),Apart z TO ss->IsZip s.heap z TI TO .ellipsis->A7 s.heap TO arr->arr.size<=sizeLine ->
   (∀ u∈ss,u.1.At s.heap n/\u.1.Src s.heap u.2)->(∃ u∈ss,u.2[n]?=none) ->
   (∀ h' e,(∀ b o,b≠z->b≠TO->(∀ u∈ss,b≠u.1.i)->s.heap.get? b=some o->h'.get? b=some o)->(∃ o,h'.get? e=some o/\o.cls=.type "StopIteration")->E (.ref e) { s with heap:=h' }) ->
   wpAny (model prog w) A (forIn ((ss.map fun u=>Value.ref u.1.i).zipIdx c) (none,()) B) Q E s:=by
 intro ss
 induction ss with
 | nil=>
  intro c arr s Q D hz hT hl hu hx hQ
  obtain ⟨_,h,_⟩:=hx
  exact absurd h List.not_mem_nil
 | cons u r ih=>
  intro c arr s Q D hz hT hl hu hx hQ
  simp only [List.map_cons,List.zipIdx_cons,List.forIn_cons]
  obtain ⟨ha,hsrc⟩:=hu u List.mem_cons_self
  have uz:=D.zi u List.mem_cons_self
  have ut:=D.ti u List.mem_cons_self
  cases hu0:u.2[n]? with
  | none=>
   refine wpAny_bind (hB _ _ _ _ (Sub.ends hh ha hsrc hu0 fun h1 e eb he=>?_))
   obtain ⟨oe,hoe,hce⟩:=he
   have hz1:IsZip h1 z TI TO .ellipsis:=eb _ _ uz.symm hz
   have hez:e≠z:=fun x=>by subst x; rw [hz1] at hoe; cases hoe; simp at hce
   exact wpAny_setField_rec hz1 (by simp) fun h3 _ sb3=>hQ h3 e (fun b o b1 b2 b3 q=>sb3.extBut _ _ b1 (eb _ _ (b3 u List.mem_cons_self) q)) ⟨oe,sb3.extBut _ _ hez hoe,hce⟩
  | some x=>
   refine wpAny_bind (hB _ _ _ _ (Sub.item ha hsrc hu0 fun h1 ha1 sb1=>⟨arr,sb1.extBut _ _ ut.symm hT,hl,fun h2 hT2 sb2=>?_⟩))
   have kp:∀ b o,b≠TO->b≠u.1.i->s.heap.get? b=some o->h2.get? b=some o:=fun b o h1 h2 e=>sb2.extBut _ _ h1 (sb1.extBut _ _ h2 e)
   have hui:∀ v∈r,v.1.i≠u.1.i:=fun v hv=>((List.pairwise_cons.mp D.nd).1 v hv).symm
   refine ih (c+1) (arr.setIfInBounds c x) { s with heap:=h2 } Q D.tail (kp _ _ D.zTO uz.symm hz) hT2 (by simpa using hl) (fun v hv=>?_) ?_ fun h3 e k3 he=>?_
   ·obtain ⟨a,b⟩:=hu v (List.mem_cons_of_mem _ hv)
    exact ⟨a.keep fun o e=>kp _ o (D.ti v (List.mem_cons_of_mem _ hv)) (hui v hv) e,b.keep fun o e=>kp _ o (D.lt v (List.mem_cons_of_mem _ hv)) (D.li v (List.mem_cons_of_mem _ hv) u List.mem_cons_self) e⟩
   ·obtain ⟨v,hv,e⟩:=hx
    rcases List.mem_cons.mp hv with rfl | hv
    ·rw [hu0] at e; cases e
    ·exact ⟨v,hv,e⟩
   ·exact hQ h3 e (fun b o b1 b2 b3 q=>k3 b o b1 b2 (fun v hv=>b3 v (List.mem_cons_of_mem _ hv)) (kp b o b2 (b3 u List.mem_cons_self) q)) he
theorem kq (n:Nat):∀ (ss:List (Sub×Array Value)) (c:Nat) (arr:Array Value),(drawn n ss c arr).size=arr.size:=by
 intro ss
 induction ss with
 | nil=>intro c arr; rfl
 | cons u r ih=>intro c arr; unfold drawn; rw [ih]; simp
theorem nu (n:Nat):∀ (ss:List (Sub×Array Value)) (c:Nat) (arr:Array Value),c+ss.length=arr.size->(drawn n ss c arr).toList=arr.toList.take c++ss.map fun u=>u.2.getD n .none:=by
 intro ss
 induction ss with
 | nil=>
  intro c arr h
  unfold drawn
  simp at h; subst h
  rw [List.map_nil,List.append_nil]
  exact (List.take_of_length_le (by simp)).symm
 | cons u r ih=>
  intro c arr h
  unfold drawn
  have hc:c<arr.size:=by simp at h; omega
  rw [ih (c+1) _ (by simp at h ⊢; omega)]
  rw [List.map_cons,Array.toList_setIfInBounds]
  have:(arr.toList.set c (u.2.getD n Value.none)).take (c+1)=arr.toList.take c ++ [u.2.getD n Value.none]:=by
   rw [List.take_add_one,List.take_set,List.getElem?_set_self (by simpa using hc)]
   rw [List.set_eq_of_length_le (by simp; omega)]; rfl
  rw [this,List.append_assoc]; rfl
theorem nV {z TI TO:Addr} {n:Nat} {ss:List (Sub×Array Value)} {arr:Array Value} {Q:Option Value->Shared->Prop} (D:Apart z TO ss) (hne:ss ≠ []) (hsz:arr.size=ss.length) (hline:ss.length<=sizeLine)
  (hz:IsZip s.heap z TI TO .none) (hTI:A7 s.heap TI (ss.map fun u=>Value.ref u.1.i).toArray) (hTO:A7 s.heap TO arr) (hu:∀ u∈ss,u.1.At s.heap n/\u.1.Src s.heap u.2/\∃ x,u.2[n]?=some x)
  (hQ:∀ h',IsZip h' z TI TO (rawInt s.heap.objs.size)->(∃ arr',A7 h' TO arr'/\arr'.size=ss.length)->(∀ u∈ss,u.1.At h' (n+1))->A7 h' s.heap.objs.size (ss.map fun u=>u.2.getD n .none).toArray ->
   (∀ b o,b≠z->b≠TO->(∀ u∈ss,b≠u.1.i)->s.heap.get? b=some o->h'.get? b=some o)->Q (some (.ref s.heap.objs.size)) { s with heap:=h' }) :
  wpAny (model prog w) A (pyNext (.ref z)) Q E s:=by
 have hT:s.TypeIs (.ref z) "zip" := ⟨_,hz,rfl⟩
 unfold pyNext
 refine wpAny_bind (wpAny_attempt (wpAny_callSpecial?_slot (name:=Str.ofString "__next__") hT F.slot_zip_next (wpAny_call_entry F.slot_zip_next hT F.entry_zip_next ?_ (F.args_zip_next_1 _))))
 show wpAny _ _ (field (.ref z) 2>>=_) _ _ _; refine wpAny_bind (wpAny_field hz rfl (x:=.bool false) rfl ?_)
 show wpAny _ _ (field (.ref z) 3>>=_) _ _ _; refine wpAny_bind (wpAny_field hz rfl (x:=.ref TI) rfl ?_); refine wpAny_bind (wpAny_seqItems hTI rfl ?_)
 have e1:(ss.map fun u=>Value.ref u.1.i).toArray.isEmpty=false:=by cases ss <;> simp_all
 simp only [e1]
 refine wpAny_bind ?_; unfold Builtin.SmallTypes.ownedTupleIsFree; refine wpAny_bind (wpAny_field hz rfl (x:=.none) rfl (wpAny_pure ?_)); simp only [if_true]
 refine wpAny_bind (wpAny_rule ?_); refine wpAny_bind (wpAny_field hz rfl (x:=.ref TO) rfl ?_)
 refine wpAny_bind (wpAny_setField_rec hz (by simp) fun h1 z1 sb1=>?_); replace z1:IsZip h1 z TI TO .ellipsis:=z1
 refine wpAny_bind (draws (TI:=TI) (n:=n) (z:=z) (TO:=TO) ?_ ss 0 arr _ _ D z1 (sb1.extBut _ _ D.zTO.symm hTO) (by omega) (fun u hm=>?_) fun h2 z2 T2 a2 s2 k2=>?_)
 ·intro v k s Q h
  refine wpAny_bind (wpAny_onRaise ?_)
  show wpAny _ _ (Builtin.SmallTypes.nextOf v>>=_) _ _ _
  refine wpAny_bind (wpAny_mono h (fun x s1 ⟨arr,hT1,hl,hq⟩=>wpAny_pure ?_) fun e s1 he=>he)
  refine wpAny_bind (wpAny_seqItems hT1 rfl ?_)
  refine wpAny_bind (wpAny_updateSeq hT1 rfl ?_ hl (by rw [Array.size_setIfInBounds]; omega))
  refine wpAny_bind (wpAny_letGo (wpAny_pure (hq _ ?_ (Heap.SameBut.update ..))))
  show Heap.get? _ _=_
  rw [Heap.get?_update_self _ hT1 rfl]; simp [Obj.mapSeq]
 ·obtain ⟨a,b,x⟩:=hu u hm
  exact ⟨a.keep fun o e=>sb1.extBut _ _ (D.zi u hm) e,b.keep fun o e=>sb1.extBut _ _ (D.lz u hm) e,x⟩
 ·have ed:(drawn n ss 0 arr).toList=ss.map fun u=>u.2.getD n .none:=by rw [nu n ss 0 arr (by omega)]; simp
  refine wpAny_bind (wpAny_seqItems T2 rfl ?_)
  have hs2:h2.objs.size=s.heap.objs.size:=by rw [s2]; exact sb1.1
  have hlz:z<h2.objs.size:=Heap.lt_size z2
  refine wpAny_bind (wpAny_newTuple (wpAny_bind ?_) (by rw [ed,List.length_map]; exact hline))
  unfold Builtin.SmallTypes.ownedTupleHandOut
  have z3:IsZip (h2.push { cls:=.type "tuple",data:=.seq (drawn n ss 0 arr).toList.toArray }) z TI TO .ellipsis:=Heap.get?_push_of_some _ z2
  refine wpAny_bind (wpAny_setField_rec z3 (by simp) fun h4 z4 sb4=>?_); replace z4:IsZip h4 z TI TO (rawInt h2.objs.size):=z4
  refine wpAny_setField_rec z4 (by simp) fun h5 z5 sb5=>?_; replace z5:IsZip h5 z TI TO (rawInt h2.objs.size):=z5
  have up:∀ b o,b≠z->h2.get? b=some o->h5.get? b=some o:=fun b o hb e=>sb5.extBut _ _ hb (sb4.extBut _ _ hb (Heap.get?_push_of_some _ e))
  have T5:A7 h5 h2.objs.size (drawn n ss 0 arr).toList.toArray:=sb5.extBut _ _ (Nat.ne_of_gt hlz) (sb4.extBut _ _ (Nat.ne_of_gt hlz) (Heap.get?_push_size _ rfl))
  rw [ed] at T5
  rw [hs2] at z5 T5
  refine wpAny_pure ⟨_,rfl,wpAny_pure ?_⟩
  show Q (some (.ref h2.objs.size)) _
  rw [hs2]
  exact hQ h5 z5 ⟨_,up _ _ D.zTO.symm T2,by rw [kq,hsz]⟩ (fun u hm=>(a2 u hm).keep fun o e=>up _ o (D.zi u hm) e) T5 fun b o b1 b2 b3 e=>up b o b1 (k2 b o b2 b3 (sb1.extBut _ _ b1 e))
theorem nU {z TI TO:Addr} {n:Nat} {ss:List (Sub×Array Value)} {arr:Array Value} {Q:Option Value->Shared->Prop} (hh:A.handled=none) (D:Apart z TO ss) (hsz:arr.size=ss.length) (hline:ss.length<=sizeLine)
  (hz:IsZip s.heap z TI TO .none) (hTI:A7 s.heap TI (ss.map fun u=>Value.ref u.1.i).toArray) (hTO:A7 s.heap TO arr) (hu:∀ u∈ss,u.1.At s.heap n/\u.1.Src s.heap u.2) (hx:∃ u∈ss,u.2[n]?=none)
  (hQ:∀ h',(∀ b o,b≠z->b≠TO->(∀ u∈ss,b≠u.1.i)->s.heap.get? b=some o->h'.get? b=some o)->Q none { s with heap:=h' }) :
  wpAny (model prog w) A (pyNext (.ref z)) Q E s:=by
 have hT:s.TypeIs (.ref z) "zip" := ⟨_,hz,rfl⟩
 unfold pyNext
 refine wpAny_bind (wpAny_attempt (wpAny_callSpecial?_slot (name:=Str.ofString "__next__") hT F.slot_zip_next (wpAny_call_entry F.slot_zip_next hT F.entry_zip_next ?_ (F.args_zip_next_1 _))))
 show wpAny _ _ (field (.ref z) 2>>=_) _ _ _; refine wpAny_bind (wpAny_field hz rfl (x:=.bool false) rfl ?_)
 show wpAny _ _ (field (.ref z) 3>>=_) _ _ _; refine wpAny_bind (wpAny_field hz rfl (x:=.ref TI) rfl ?_); refine wpAny_bind (wpAny_seqItems hTI rfl ?_)
 have e1:(ss.map fun u=>Value.ref u.1.i).toArray.isEmpty=false:=by
  obtain ⟨u,hm,_⟩:=hx
  cases ss with
  | nil=>exact nomatch hm
  | cons a b=>simp
 simp only [e1]
 refine wpAny_bind ?_; unfold Builtin.SmallTypes.ownedTupleIsFree; refine wpAny_bind (wpAny_field hz rfl (x:=.none) rfl (wpAny_pure ?_)); simp only [if_true]
 refine wpAny_bind (wpAny_rule ?_); refine wpAny_bind (wpAny_field hz rfl (x:=.ref TO) rfl ?_)
 refine wpAny_bind (wpAny_setField_rec hz (by simp) fun h1 z1 sb1=>?_); replace z1:IsZip h1 z TI TO .ellipsis:=z1
 refine wpAny_bind (nt (A:=A.in1) (TI:=TI) (n:=n) (z:=z) (TO:=TO) (show A.in1.handled=none from hh) ?_ ss 0 arr _ _ D z1 (sb1.extBut _ _ D.zTO.symm hTO) (by omega) (fun u hm=>?_) hx fun h2 e k2 he=>?_)
 ·intro v k s Q h
  refine wpAny_bind (wpAny_onRaise ?_)
  show wpAny _ _ (Builtin.SmallTypes.nextOf v>>=_) _ _ _
  refine wpAny_bind (wpAny_mono h (fun x s1 ⟨arr,hT1,hl,hq⟩=>wpAny_pure ?_) fun e s1 he=>he)
  refine wpAny_bind (wpAny_seqItems hT1 rfl ?_)
  refine wpAny_bind (wpAny_updateSeq hT1 rfl ?_ hl (by rw [Array.size_setIfInBounds]; omega))
  refine wpAny_bind (wpAny_letGo (wpAny_pure (hq _ ?_ (Heap.SameBut.update ..))))
  show Heap.get? _ _=_
  rw [Heap.get?_update_self _ hT1 rfl]; simp [Obj.mapSeq]
 ·obtain ⟨a,b⟩:=hu u hm
  exact ⟨a.keep fun o e=>sb1.extBut _ _ (D.zi u hm) e,b.keep fun o e=>sb1.extBut _ _ (D.lz u hm) e⟩
 ·obtain ⟨o,ho,hc⟩:=he
  refine wpAny_bind (wpAny_isInstance (T := "StopIteration") (b:=true) ⟨o,ho,hc⟩ isSubtype_stop ?_)
  exact wpAny_pure (hQ _ fun b o b1 b2 b3 e=>k2 b o b1 b2 b3 (sb1.extBut _ _ b1 e))
def SrcAt (h:Heap) (u:Bool×Addr×Array Value):Prop:=if u.1=true then h.IsTuple u.2.1 u.2.2 else h.IsList u.2.1 u.2.2
def g9 (n:Nat):List (Bool×Addr×Array Value)->List (Sub×Array Value)
 | []=>[]
 | u::r=>(⟨u.1,n,u.2.1⟩,u.2.2)::g9 (n+1) r
theorem pR {u:Bool×Addr×Array Value} {Q:Value->Shared->Prop} (hs:SrcAt s.heap u)
  (hQ:∀ h',(Sub.mk u.1 s.heap.objs.size u.2.1).At h' 0->h'.objs.size=s.heap.objs.size+1->(∀ b o,s.heap.get? b=some o->h'.get? b=some o)->Q (.ref s.heap.objs.size) { s with heap:=h' }) :
  wpAny (model prog w) A (pyIter (.ref u.2.1)) Q E s:=by
 unfold SrcAt at hs
 cases ht:u.1 with
 | true=>
  simp only [ht,if_true] at hs
  refine wpAny_pyIter_tuple hs (hQ _ ?_ (Heap.size_push ..) fun b o e=>Heap.get?_push_of_some _ e)
  unfold Sub.At
  simp only [ht,if_true]
  exact ⟨_,Heap.get?_push_size _ rfl,rfl,rfl⟩
 | false=>
  simp only [ht,Bool.false_eq_true,if_false] at hs
  refine wpAny_pyIter_list hs (hQ _ ?_ (Heap.size_push ..) fun b o e=>Heap.get?_push_of_some _ e)
  unfold Sub.At
  simp only [ht,Bool.false_eq_true,if_false]
  exact ⟨_,Heap.get?_push_size _ rfl,rfl,rfl⟩
theorem SrcAt.keep {h h':Heap} {u:Bool×Addr×Array Value} (x:SrcAt h u) (k:∀ b o,h.get? b=some o->h'.get? b=some o):SrcAt h' u:=by
 unfold SrcAt at x ⊢
 split at x <;> (rename_i ht; obtain ⟨o,e,r⟩:=x; simp only [ht,if_true,if_false,Bool.false_eq_true]; exact ⟨o,k _ o e,r⟩)
theorem ip:∀ (us:List (Bool×Addr×Array Value)) (acc:Array Value) (s:Shared) (Q:Array Value->Shared->Prop),(∀ u∈us,SrcAt s.heap u) ->
  (∀ h',(∀ v∈g9 s.heap.objs.size us,v.1.At h' 0)->h'.objs.size=s.heap.objs.size+us.length->(∀ b o,s.heap.get? b=some o->h'.get? b=some o) ->
   Q (acc++((g9 s.heap.objs.size us).map fun v=>Value.ref v.1.i).toArray) { s with heap:=h' }) ->
  wpAny (model prog w) A (forIn (us.map fun u=>Value.ref u.2.1) acc fun x r=>do let y <- holding r.toList (pyIter x); pure (ForInStep.yield (r.push y))) Q E s:=by
 intro us
 induction us with
 | nil=>
  intro acc s Q _ hQ
  simp only [List.map_nil,List.forIn_nil]
  have:=hQ s.heap (fun _ h=>absurd h List.not_mem_nil) rfl fun _ _ e=>e
  exact wpAny_pure (by simpa [g9] using this)
 | cons u r ih=>
  intro acc s Q hs hQ
  simp only [List.map_cons,List.forIn_cons]
  refine wpAny_bind (wpAny_bind (wpAny_holding (pR (hs u List.mem_cons_self) fun h1 a1 s1 k1=>wpAny_pure ?_)))
  refine ih (acc.push (.ref s.heap.objs.size)) { s with heap:=h1 } Q (fun v hv=>(hs v (List.mem_cons_of_mem _ hv)).keep k1) fun h2 a2 s2 k2=>?_
  have e0:g9 h1.objs.size r=g9 (s.heap.objs.size+1) r:=by rw [s1]
  have q:=hQ h2 (fun v hv=>?_) (by rw [s2]; show h1.objs.size+_=_; rw [s1,List.length_cons]; omega) fun b o e=>k2 b o (k1 b o e)
  ·have e:acc.push (Value.ref s.heap.objs.size)++(List.map (fun v=>Value.ref v.1.i) (g9 h1.objs.size r)).toArray=acc++(List.map (fun v=>Value.ref v.1.i) (g9 s.heap.objs.size (u::r))).toArray:=by
    rw [e0]; simp [g9]
   show Q (acc.push (Value.ref s.heap.objs.size)++(List.map (fun v=>Value.ref v.1.i) (g9 h1.objs.size r)).toArray) _
   rw [e]; exact q
  ·rcases List.mem_cons.mp hv with rfl | hv
   ·exact a1.keep fun o e=>k2 _ o e
   ·exact a2 v (by show v∈g9 h1.objs.size r; rw [e0]; exact hv)
theorem pT {us:List (Bool×Addr×Array Value)} {Q:List Value->Shared->Prop} (hs:∀ u∈us,SrcAt s.heap u)
  (hQ:∀ h',(∀ v∈g9 s.heap.objs.size us,v.1.At h' 0)->h'.objs.size=s.heap.objs.size+us.length->(∀ b o,s.heap.get? b=some o->h'.get? b=some o) ->
   Q ((g9 s.heap.objs.size us).map fun v=>Value.ref v.1.i) { s with heap:=h' }):wpAny (model prog w) A (Builtin.SmallTypes.iterAll (us.map fun u=>Value.ref u.2.1)) Q E s:=by
 unfold Builtin.SmallTypes.iterAll
 refine wpAny_bind (ip us #[] s _ hs fun h' a1 s1 k1=>wpAny_pure ?_)
 have:=hQ h' a1 s1 k1
 simpa using this
theorem L8:∀ (us:List (Bool×Addr×Array Value)) (n:Nat),(g9 n us).length=us.length:=by
 intro us
 induction us with
 | nil=>intro n; rfl
 | cons u r ih=>intro n; unfold g9; rw [List.length_cons,ih,List.length_cons]
theorem dU (us:List (Bool×Addr×Array Value)) (hl:us.length<=sizeLine) :
  Meets (Builtin.«zip.__new__» ⟨.type "zip" :: us.map fun u=>Value.ref u.2.1,[]⟩) (fun _ R s=>(∀ u∈us,SrcAt s.heap u) /\
   ∀ h',(∀ v∈g9 s.heap.objs.size us,v.1.At h' 0)->A7 h' (s.heap.objs.size+us.length) ((g9 s.heap.objs.size us).map fun v=>Value.ref v.1.i).toArray ->
    (∃ arr,A7 h' (s.heap.objs.size+us.length+1) arr/\arr.size=us.length)->IsZip h' (s.heap.objs.size+us.length+2) (s.heap.objs.size+us.length) (s.heap.objs.size+us.length+1) .none ->
    (∀ b o,s.heap.get? b=some o->h'.get? b=some o)->R (.ok (.ret (.ref (s.heap.objs.size+us.length+2)))) { s with heap:=h' }):=
 .of_wp fun prog w A R s h=>by
  obtain ⟨hs,h⟩:=h
  show wpAny _ _ (Builtin.SmallTypes.newClass "zip" _>>=_) _ _ _
  refine wpAny_bind ?_
  unfold Builtin.SmallTypes.newClass
  refine wpAny_bind (wpAny_of_eq (a:=true) rfl ?_)
  simp only [Bool.not_true,Bool.false_eq_true,if_false]
  refine wpAny_bind (wpAny_of_eq (a:=true) sub_zip ?_)
  simp only [Bool.not_true,Bool.false_eq_true,if_false]
  refine wpAny_pure ?_
  simp only [List.length_nil,show ¬ (0>1) by decide,if_false]
  refine wpAny_bind (pT hs fun h1 a1 s1 k1=>?_)
  refine wpAny_bind (wpAny_newTuple ?_ (by simp [L8,hl]))
  refine wpAny_bind (wpAny_newTuple ?_ (by simp [L8,hl]))
  generalize hI:((g9 s.heap.objs.size us).map fun v=>Value.ref v.1.i)=I at h ⊢
  have hIl:I.length=us.length:=by rw [<- hI,List.length_map,L8]
  refine wpAny_bind ?_
  show wpAny _ _ (newObj (.type "zip") (.fields #[.none,.bool false,.bool false,.ref h1.objs.size,.ref (h1.push { cls:=.type "tuple",data:=.seq I.toArray }).objs.size]) none) _ _ _
  refine wpAny_newObj_type (wpAny_pure ?_) (by size_fits)
  have z0:h1.objs.size=s.heap.objs.size+us.length:=s1
  have z1:(h1.push { cls:=.type "tuple",data:=.seq I.toArray }).objs.size=s.heap.objs.size+us.length+1:=by rw [Heap.size_push,s1]
  have z2:((h1.push { cls:=.type "tuple",data:=.seq I.toArray }).push { cls:=.type "tuple",data:=.seq (I.map fun _=>Value.none).toArray }).objs.size=s.heap.objs.size+us.length+2:=by rw [Heap.size_push,z1]
  refine ⟨_,rfl,?_⟩
  have g:=h (((h1.push { cls:=.type "tuple",data:=.seq I.toArray }).push { cls:=.type "tuple",data:=.seq (I.map fun _=>Value.none).toArray }).push { cls:=.type "zip",data:=.fields #[.none,.bool false,.bool false,.ref h1.objs.size,.ref (h1.push { cls:=.type "tuple",data:=.seq I.toArray }).objs.size] })
   (fun v hv=>(a1 v hv).keep fun o e=>Heap.get?_push_of_some _ (Heap.get?_push_of_some _ (Heap.get?_push_of_some _ e))) ?_ ⟨(I.map fun _=>Value.none).toArray,?_,by simp [hIl]⟩ ?_ fun b o e=>Heap.get?_push_of_some _ (Heap.get?_push_of_some _ (Heap.get?_push_of_some _ (k1 b o e)))
  ·rw [<- z2] at g
   exact g
  ·rw [<- z0]; exact Heap.get?_push_of_some _ (Heap.get?_push_of_some _ (Heap.get?_push_size _ rfl))
  ·rw [<- z1]; exact Heap.get?_push_of_some _ (Heap.get?_push_size _ rfl)
  ·rw [<- z2,<- z1,<- z0]; exact Heap.get?_push_size _ rfl
theorem jy (a b c:Value):checkTypeCall "zip" ⟨[a,b,c],[]⟩=pure ():=by kernel_rfl
theorem jT (a b c:Value):checkBuiltinCall "zip.__new__" ⟨[.type "zip",a,b,c],[]⟩=pure ():=by kernel_rfl
theorem kE (a b c d:Value):argsOk "object.__init__" ⟨[a,b,c,d],[]⟩:=by
 unfold argsOk; rw [signature?_of (id := "object.__init__") (n:=['_','_','t','i','n','i','_','_']) (o:=['t','c','e','j','b','o']) (by kernel_rfl) F.owner_object]; kernel_rfl
theorem qF (us:List (Bool×Addr×Array Value)) (hl:us.length=2\/us.length=3) {Q:Value->Shared->Prop} (hs:∀ u∈us,SrcAt s.heap u)
  (h:∀ h',(∀ v∈g9 s.heap.objs.size us,v.1.At h' 0)->A7 h' (s.heap.objs.size+us.length) ((g9 s.heap.objs.size us).map fun v=>Value.ref v.1.i).toArray ->
    (∃ arr,A7 h' (s.heap.objs.size+us.length+1) arr/\arr.size=us.length)->IsZip h' (s.heap.objs.size+us.length+2) (s.heap.objs.size+us.length) (s.heap.objs.size+us.length+1) .none ->
    (∀ b o,s.heap.get? b=some o->h'.get? b=some o)->Q (.ref (s.heap.objs.size+us.length+2)) { s with heap:=h' }) :
  wpAny (model prog w) A (call (.type "zip") (us.map fun u=>Value.ref u.2.1)) Q E s:=by
 have hle:us.length<=sizeLine:=Nat.le_trans (show us.length<=3 by omega) (by decide)
 have k:∀ h',_->_->_->_->_->({ s with heap:=h' }:Shared).TypeIs (.ref (s.heap.objs.size+us.length+2)) "zip" /\ Q (.ref (s.heap.objs.size+us.length+2)) { s with heap:=h' }:=fun h' c1 c2 c3 c4 c5=>⟨⟨_,c4,rfl⟩,h h' c1 c2 c3 c4 c5⟩
 cases us with
 | nil=>rcases hl with hl | hl <;> cases hl
 | cons a us=>
  cases us with
  | nil=>rcases hl with hl | hl <;> cases hl
  | cons b us=>
   cases us with
   | nil=>exact callType_new F.called_zip (by decide) (F.typeCall_zip_2 _ _) (F.newCall_zip_2 _ _) (fun obj=>F.args_object_init_3 obj _ _) F.entry_zip_new (dU [a,b] hle) ⟨hs,k⟩
   | cons c us=>
    cases us with
    | nil=>exact callType_new F.called_zip (by decide) (jy _ _ _) (jT _ _ _) (fun obj=>kE obj _ _ _) F.entry_zip_new (dU [a,b,c] hle) ⟨hs,k⟩
    | cons d us=>rcases hl with hl | hl <;> (simp only [List.length_cons] at hl; omega)
end
end L2
namespace L2
open PySem PySem.Spec PyProof.Rows
theorem T7 {α β:Type} {R:α->β->Prop}:∀ {l:List α},(∀ a∈l,∃ b,R a b)->∃ l':List (α×β),l'.map (·.1)=l/\∀ p∈l',R p.1 p.2:=by
 intro l
 induction l with
 | nil=>exact fun _=>⟨[],rfl,fun _ h=>absurd h List.not_mem_nil⟩
 | cons a l ih=>
  intro h
  obtain ⟨b,hb⟩:=h a List.mem_cons_self
  obtain ⟨l',e,q⟩:=ih fun x hx=>h x (List.mem_cons_of_mem _ hx)
  refine ⟨(a,b)::l',by rw [List.map_cons,e],fun p hp=>?_⟩
  rcases List.mem_cons.mp hp with rfl | hp
  ·exact hb
  ·exact q p hp
def Sq (K:Frag) (H:Hp) (t:Bool) (a:Addr) (xs:List V):Prop:=if t=true then SqT K H a xs else SqL K H a xs
section
variable {X:Cx} {pins:List (Addr×Obj)} {σ:St} {H:Hp} {s:Shared}
theorem kne {b a:Addr} {o:Obj} (I:Inv X pins σ H s) (h:X.K.lookup a=some o) (f:v6 X pins H b):a≠b:=by
 intro e
 subst e
 have hb:X.base.get? a=some o:=I.mod.kin a o h
 obtain ⟨f0,f1,f2,f3,f4,f5⟩:=f
 rcases f3 with z | z
 ·exact I.ok.noex a o hb z
 ·exact absurd (Nat.lt_of_lt_of_le (Heap.lt_size (I.ok.bs a o hb).1) z) (Nat.lt_irrefl _)
theorem Sq.ne {t:Bool} {a b:Addr} {xs:List V} (I:Inv X pins σ H s) (h:Sq X.K H t a xs) (f:v6 X pins H b):a≠b:=by
 have tr:∀ {u:HO},Rd H a u->a≠b:=fun {u} r e=>by
  subst e
  have f0:=f.1
  rcases r with r | ⟨o,r⟩ <;> (rw [f0] at r; cases r)
 unfold Sq at h
 split at h
 ·rcases h with h | ⟨o,its,n,hk,_⟩
  ·exact tr h
  ·exact kne I hk f
 ·rcases h with h | ⟨o,its,n,hk,_⟩
  ·exact tr h
  ·exact kne I hk f
theorem Sq.src {t:Bool} {a:Addr} {xs:List V} (I:Inv X pins σ H s) (h:Sq X.K H t a xs):∃ its:List Value,Vals xs its/\(Sub.mk t 0 a).Src s.heap its.toArray:=by
 unfold Sq at h
 unfold Sub.Src
 split at h
 ·rename_i ht
  obtain ⟨its,r,p,_⟩:=I.tuple h
  exact ⟨its,r,by simp only [ht,if_true]; exact p⟩
 ·rename_i ht
  obtain ⟨its,r,p,_⟩:=I.list h
  exact ⟨its,r,by simp only [ht,if_false]; exact p.isList⟩
theorem Sq.inj {t:Bool} {a:Addr} {xs ys:List V} (I:Inv X pins σ H s) (h:Sq X.K H t a xs) (h':Sq X.K H t a ys):xs=ys:=by
 unfold Sq at h h'
 split at h
 ·rename_i ht; simp only [ht,if_true] at h'; exact I.tuple_inj h h'
 ·rename_i ht; simp only [ht,if_false] at h'; exact I.list_inj h h'
end
def ItZ (K:Frag) (us:List (Bool×Addr)):It:=
  ⟨fun i H=>∀ u∈us,∃ xs x,Sq K H u.1 u.2 xs/\xs[i]?=some x,
   fun i H x H'=>∃ p ys,x=.ref p/\H p=none/\H'=upd H p (.tup ys)/\Paired (fun (u:Bool×Addr) (y:V)=>∀ xs,Sq K H u.1 u.2 xs->xs[i]?=some y) us ys,
   fun i H=>(∀ u∈us,∃ xs,Sq K H u.1 u.2 xs)/\∃ u∈us,∃ xs,Sq K H u.1 u.2 xs/\xs.length<=i⟩
structure ZSt (z TI TO:Addr) (subs:List Sub):Prop where
 zTO:z≠TO
 TIz:TI≠z
 TITO:TI≠TO
 zi:∀ u∈subs,u.i≠z
 ti:∀ u∈subs,u.i≠TO
 Ii:∀ u∈subs,u.i≠TI
 nd:subs.Pairwise fun u v=>u.i≠v.i
abbrev zTn (z TI TO:Addr) (subs:List Sub) (i:Nat) (h:Heap):Prop:=
 IsZip h z TI TO .none/\A7 h TI (subs.map fun u=>Value.ref u.i).toArray/\(∃ arr,A7 h TO arr/\arr.size=subs.length)/\∀ u∈subs,u.At h i
theorem W4 {α β γ:Type} {F:α->γ->Prop} {f:β->α} {g:β->γ}:∀ {l:List β},(∀ b∈l,F (f b) (g b))->Paired F (l.map f) (l.map g)
 | [],_=>.nil
 | _::_,h=>.cons (h _ List.mem_cons_self) (W4 fun b hb=>h b (List.mem_cons_of_mem _ hb))
theorem og {P:Program} {w:World} {K:Frag} {elts:List Expr} {k:Nat} {tp:Pos} {z TI TO:Addr} {subs:List Sub} (D:ZSt z TI TO subs) (hne:subs ≠ []) (hln:subs.length<=sizeLine) :
  Turn P w K (.Tuple elts k tp) (ItZ K (subs.map fun u=>(u.t,u.l))) (z::TI::TO::subs.map (·.i)) z (zTn z TI TO subs) where
 mem:=by simp
 obj:=fun i h st b hb=>by
  obtain ⟨hz,hTI,⟨arr,hTO,_⟩,hs⟩:=st
  simp only [List.mem_cons,List.mem_map] at hb
  rcases hb with rfl | rfl | rfl | ⟨u,hu,rfl⟩
  ·exact ⟨_,hz,fun v q=>by cases q⟩
  ·exact ⟨_,hTI,fun v q=>by cases q⟩
  ·exact ⟨_,hTO,fun v q=>by cases q⟩
  ·obtain ⟨o,e,d⟩:=(hs u hu).obj
   exact ⟨o,e,fun v q=>by rw [d] at q; cases q⟩
 keep:=fun i h h' st kp=>by
  obtain ⟨hz,hTI,⟨arr,hTO,ha⟩,hs⟩:=st
  exact ⟨kp z (by simp) _ hz,kp TI (by simp) _ hTI,⟨arr,kp TO (by simp) _ hTO,ha⟩,fun u hu=>(hs u hu).keep fun o e=>kp u.i (by simp only [List.mem_cons,List.mem_map]; exact .inr (.inr (.inr ⟨u,hu,rfl⟩))) o e⟩
 item:=by
  intro X hP hw hK hc i pins s σ H E I hf st hg
  subst hP hw hK
  obtain ⟨hz,hTI,⟨arr,hTO,ha⟩,hs⟩:=st
  have fz:=hf z (by simp)
  have fT:=hf TO (by simp)
  have fi:∀ u∈subs,v6 X pins H u.i:=fun u hu=>hf u.i (by simp only [List.mem_cons,List.mem_map]; exact .inr (.inr (.inr ⟨u,hu,rfl⟩)))
  obtain ⟨ss,ess,hss⟩:=T7 (R:=fun (u:Sub) (q:List Value×List V×V)=>Sq X.K H u.t u.l q.2.1/\Vals q.2.1 q.1/\u.Src s.heap q.1.toArray/\q.2.1[i]?=some q.2.2) (l:=subs) (fun u hu=>by
   obtain ⟨xs,x,h1,h2⟩:=hg (u.t,u.l) (List.mem_map.mpr ⟨u,hu,rfl⟩)
   obtain ⟨its,r,hsrc⟩:=Sq.src I h1
   exact ⟨(its,xs,x),h1,r,hsrc,h2⟩)
  have mss:∀ v∈ss,v.1∈subs:=fun v hv=>by rw [<- ess]; exact List.mem_map.mpr ⟨v,hv,rfl⟩
  have nd2:ss.Pairwise fun u v=>u.1.i≠v.1.i:=by
   have:=D.nd
   rw [<- ess,List.pairwise_map] at this
   exact this
  have DA:Apart z TO (ss.map fun v=>(v.1,v.2.1.toArray)):=by
   refine ⟨D.zTO,?_,?_,?_,?_,?_,?_⟩
   ·rintro _ hu; obtain ⟨v,hv,rfl⟩:=List.mem_map.mp hu; exact D.zi _ (mss v hv)
   ·rintro _ hu; obtain ⟨v,hv,rfl⟩:=List.mem_map.mp hu; exact D.ti _ (mss v hv)
   ·rw [List.pairwise_map]; exact nd2
   ·rintro _ hu; obtain ⟨v,hv,rfl⟩:=List.mem_map.mp hu; exact Sq.ne I (hss v hv).1 fz
   ·rintro _ hu; obtain ⟨v,hv,rfl⟩:=List.mem_map.mp hu; exact Sq.ne I (hss v hv).1 fT
   ·rintro _ hu _ hu2; obtain ⟨v,hv,rfl⟩:=List.mem_map.mp hu; obtain ⟨v2,hv2,rfl⟩:=List.mem_map.mp hu2; exact Sq.ne I (hss v hv).1 (fi _ (mss v2 hv2))
  have el:(ss.map fun v=>(v.1,v.2.1.toArray)).length=subs.length:=by rw [List.length_map,<- ess,List.length_map]
  have eI:((ss.map fun v=>(v.1,v.2.1.toArray)).map fun u=>Value.ref u.1.i)=subs.map fun u=>Value.ref u.i:=by rw [<- ess,List.map_map,List.map_map]; rfl
  have ys:∀ v∈ss,∃ u,v.2.1.toArray[i]?=some u/\RelV v.2.2.2 u:=fun v hv=>by
   obtain ⟨u,e,r⟩:=(hss v hv).2.1.get (hss v hv).2.2.2
   exact ⟨u,by simpa using e,r⟩
  refine nV (n:=i) DA (by intro q; apply hne; have:=congrArg List.length q; rw [el] at this; exact List.length_eq_zero_iff.mp this) (by rw [ha,el]) (by rw [el]; exact hln) hz (by rw [eI]; exact hTI) hTO (fun u hu=>?_) fun h1 z1 T1 a1 p1 k1=>?_
  ·obtain ⟨v,hv,rfl⟩:=List.mem_map.mp hu
   obtain ⟨u,e,_⟩:=ys v hv
   exact ⟨hs _ (mss v hv),(hss v hv).2.2.1,u,e⟩
  refine ⟨_,rfl,wpAny_letOwnedTupleGo_zip z1 fun h2 z2 sb2=>?_⟩
  have hzl:z<s.heap.objs.size:=Heap.lt_size hz
  have kp:∀ b o,b≠z->b≠TO->(∀ u∈subs,b≠u.i)->s.heap.get? b=some o->h2.get? b=some o:=fun b o b1 b2 b3 e=>sb2.extBut _ _ b1 (k1 b o b1 b2 (fun u hu=>by obtain ⟨v,hv,rfl⟩:=List.mem_map.mp hu; exact b3 _ (mss v hv)) e)
  have hfr:H s.heap.objs.size=none:=I.hok.fresh (Nat.le_refl _)
  have trk:∀ b u,H b=some u->b≠z/\b≠TO/\∀ v∈subs,b≠v.i:=fun b u e=>⟨fun q=>(by subst q; rw [fz.1] at e; cases e),fun q=>(by subst q; rw [fT.1] at e; cases e),fun v hv q=>(by subst q; rw [(fi v hv).1] at e; cases e)⟩
  have hP2:A7 h2 s.heap.objs.size (ss.map fun v=>v.2.1.toArray.getD i .none).toArray:=by
   have:=sb2.extBut _ _ (Nat.ne_of_gt hzl) p1
   rw [List.map_map] at this
   exact this
  have rel:Vals (ss.map fun v=>v.2.2.2) (ss.map fun v=>v.2.1.toArray.getD i .none):=W4 fun v hv=>by
   obtain ⟨u,e,r⟩:=ys v hv
   rw [show v.2.1.toArray.getD i Value.none=u by simp only [Array.getD_eq_getD_getElem?,e,Option.getD_some]]
   exact r
  have len:(ss.map fun v=>v.2.2.2).length<=sizeLine:=by rw [List.length_map,show ss.length=subs.length by rw [<- ess,List.length_map]]; exact hln
  refine ⟨.ref s.heap.objs.size,upd H s.heap.objs.size (.tup (ss.map fun v=>v.2.2.2)),?_,rfl,⟨_,_,rfl,hfr,rfl,?_⟩,⟨z2,?_,?_,fun u hu=>?_⟩,fun b hb=>?_⟩
  ·show Inv X pins σ _ { s with heap:=h2 }
   refine I.step (g':=s.gens) (t':=s.toks) (d':=s.drawn) (ch:=z::TO::subs.map (·.i)) (fun b hb=>?_) (fun b o _ _ hc e _=>kp b o ?_ ?_ ?_ e) (fun b o _ _ hc e _=>⟨o.slots,kp b o ?_ ?_ ?_ e⟩) (fun b o hc e n=>?_) (fun b o hc e=>⟨o,kp b o ?_ ?_ ?_ e⟩) (fun b xs e=>?_) (fun b o u e=>?_) (fun b ps e=>?_) (fun m hm=>?_) ?_ I.bare
   ·simp only [List.mem_cons,List.mem_map] at hb
    rcases hb with rfl | rfl | ⟨u,hu,rfl⟩
    ·exact ⟨fz.2.2.2.1,fz.2.1,fz.2.2.2.2.1,fz.2.2.2.2.2⟩
    ·exact ⟨fT.2.2.2.1,fT.2.1,fT.2.2.2.2.1,fT.2.2.2.2.2⟩
    ·have f:=fi u hu; exact ⟨f.2.2.2.1,f.2.1,f.2.2.2.2.1,f.2.2.2.2.2⟩
   all_goals first
    | (intro q; exact hc (by simp [q]; done))
    | (intro u hu q; exact hc (by rw [q]; exact List.mem_cons_of_mem _ (List.mem_cons_of_mem _ (List.mem_map.mpr ⟨u,hu,rfl⟩))))
    | skip
   ·rw [c7 (Nat.ne_of_lt (Heap.lt_size e))]; exact n
   ·rw [c7 (d9 e hfr)]; exact e
   ·rw [c7 (d9 e hfr)]; exact e
   ·rw [c7 (d9 e hfr)]; exact e
   ·obtain ⟨o,es,ep,ho,r⟩:=hm
    exact ⟨o,es,ep,kp _ o (Ne.symm fz.2.1) (Ne.symm fT.2.1) (fun u hu=>Ne.symm (fi u hu).2.1) ho,r⟩
   ·intro b u e
    by_cases hb:b=s.heap.objs.size
    ·subst hb
     rw [g8] at e; cases e
     exact ⟨len,_,rel,⟨_,hP2,rfl,_,rfl⟩⟩
    ·rw [c7 hb] at e
     refine (I.hok b u e).stay (fun c v hcc q=>?_) (fun c q=>by rw [c7 (d9 q hfr)]; exact q) fun c xs q=>by rw [c7 (d9 q hfr)]; exact q
     rcases hcc with rfl | hcc
     ·exact kp _ v (trk _ _ e).1 (trk _ _ e).2.1 (trk _ _ e).2.2 q
     ·exact kp _ v (trk _ _ hcc).1 (trk _ _ hcc).2.1 (trk _ _ hcc).2.2 q
  ·rw [<- ess,List.map_map]
   exact W4 fun v hv xs hx=>by rw [Sq.inj I hx (hss v hv).1]; exact (hss v hv).2.2.2
  ·exact kp TI _ D.TIz D.TITO (fun u hu=>Ne.symm (D.Ii u hu)) hTI
  ·obtain ⟨arr',hT',ha'⟩:=T1
   exact ⟨arr',sb2.extBut _ _ D.zTO.symm hT',by rw [ha',el]⟩
  ·have hv:∃ v∈ss,v.1=u:=by rw [<- ess] at hu; exact List.mem_map.mp hu
   obtain ⟨v,hv,rfl⟩:=hv
   exact (a1 (v.1,v.2.1.toArray) (List.mem_map.mpr ⟨v,hv,rfl⟩)).keep fun o e=>sb2.extBut _ _ (D.zi _ (mss v hv)) e
  ·have:b≠s.heap.objs.size:=by
    simp only [List.mem_cons,List.mem_map] at hb
    rcases hb with rfl | rfl | rfl | ⟨u,hu,rfl⟩
    ·exact Nat.ne_of_lt hzl
    ·exact Nat.ne_of_lt (Heap.lt_size hTI)
    ·exact Nat.ne_of_lt (Heap.lt_size hTO)
    ·obtain ⟨o,e,_⟩:=(hs u hu).obj; exact Nat.ne_of_lt (Heap.lt_size e)
   rw [c7 this]
   exact (hf b hb).1
 done:=by
  intro X hP hw hK hc i pins s σ H E I hf st hg
  subst hP hw hK
  obtain ⟨hz,hTI,⟨arr,hTO,ha⟩,hs⟩:=st
  obtain ⟨hall,u0,hu0,xs0,hq0,hl0⟩:=hg
  have fz:=hf z (by simp)
  have fT:=hf TO (by simp)
  have fi:∀ u∈subs,v6 X pins H u.i:=fun u hu=>hf u.i (by simp only [List.mem_cons,List.mem_map]; exact .inr (.inr (.inr ⟨u,hu,rfl⟩)))
  obtain ⟨ss,ess,hss⟩:=T7 (R:=fun (u:Sub) (q:List Value×List V)=>Sq X.K H u.t u.l q.2/\Vals q.2 q.1/\u.Src s.heap q.1.toArray) (l:=subs) (fun u hu=>by
   obtain ⟨xs,h1⟩:=hall (u.t,u.l) (List.mem_map.mpr ⟨u,hu,rfl⟩)
   obtain ⟨its,r,hsrc⟩:=Sq.src I h1
   exact ⟨(its,xs),h1,r,hsrc⟩)
  have mss:∀ v∈ss,v.1∈subs:=fun v hv=>by rw [<- ess]; exact List.mem_map.mpr ⟨v,hv,rfl⟩
  have nd2:ss.Pairwise fun u v=>u.1.i≠v.1.i:=by
   have:=D.nd
   rw [<- ess,List.pairwise_map] at this
   exact this
  have DA:Apart z TO (ss.map fun v=>(v.1,v.2.1.toArray)):=by
   refine ⟨D.zTO,?_,?_,?_,?_,?_,?_⟩
   ·rintro _ hu; obtain ⟨v,hv,rfl⟩:=List.mem_map.mp hu; exact D.zi _ (mss v hv)
   ·rintro _ hu; obtain ⟨v,hv,rfl⟩:=List.mem_map.mp hu; exact D.ti _ (mss v hv)
   ·rw [List.pairwise_map]; exact nd2
   ·rintro _ hu; obtain ⟨v,hv,rfl⟩:=List.mem_map.mp hu; exact Sq.ne I (hss v hv).1 fz
   ·rintro _ hu; obtain ⟨v,hv,rfl⟩:=List.mem_map.mp hu; exact Sq.ne I (hss v hv).1 fT
   ·rintro _ hu _ hu2; obtain ⟨v,hv,rfl⟩:=List.mem_map.mp hu; obtain ⟨v2,hv2,rfl⟩:=List.mem_map.mp hu2; exact Sq.ne I (hss v hv).1 (fi _ (mss v2 hv2))
  have el:(ss.map fun v=>(v.1,v.2.1.toArray)).length=subs.length:=by rw [List.length_map,<- ess,List.length_map]
  have eI:((ss.map fun v=>(v.1,v.2.1.toArray)).map fun u=>Value.ref u.1.i)=subs.map fun u=>Value.ref u.i:=by rw [<- ess,List.map_map,List.map_map]; rfl
  refine nU (n:=i) (I.ok.hd hc) DA (by rw [ha,el]) (by rw [el]; exact hln) hz (by rw [eI]; exact hTI) hTO (fun u hu=>?_) ?_ fun h1 k1=>⟨rfl,?_⟩
  ·obtain ⟨v,hv,rfl⟩:=List.mem_map.mp hu
   exact ⟨hs _ (mss v hv),(hss v hv).2.2⟩
  ·obtain ⟨u,hu,e0⟩:=List.mem_map.mp hu0
   have hv:∃ v∈ss,v.1=u:=by rw [<- ess] at hu; exact List.mem_map.mp hu
   obtain ⟨v,hv,rfl⟩:=hv
   subst e0
   refine ⟨(v.1,v.2.1.toArray),List.mem_map.mpr ⟨v,hv,rfl⟩,?_⟩
   have e1:=Sq.inj I (hss v hv).1 hq0
   have e2:=(hss v hv).2.1.length
   rw [e1] at e2
   simp only [List.getElem?_toArray]
   exact List.getElem?_eq_none (by omega)
  ·have kp:∀ b o,b≠z->b≠TO->(∀ u∈subs,b≠u.i)->s.heap.get? b=some o->h1.get? b=some o:=fun b o b1 b2 b3 e=>k1 b o b1 b2 (fun u hu=>by obtain ⟨v,hv,rfl⟩:=List.mem_map.mp hu; exact b3 _ (mss v hv)) e
   have trk:∀ b u,H b=some u->b≠z/\b≠TO/\∀ v∈subs,b≠v.i:=fun b u e=>⟨fun q=>(by subst q; rw [fz.1] at e; cases e),fun q=>(by subst q; rw [fT.1] at e; cases e),fun v hv q=>(by subst q; rw [(fi v hv).1] at e; cases e)⟩
   refine I.step (g':=s.gens) (t':=s.toks) (d':=s.drawn) (ch:=z::TO::subs.map (·.i)) (fun b hb=>?_) (fun b o _ _ hc e _=>kp b o ?_ ?_ ?_ e) (fun b o _ _ hc e _=>⟨o.slots,kp b o ?_ ?_ ?_ e⟩) (fun b o hc e n=>n) (fun b o hc e=>⟨o,kp b o ?_ ?_ ?_ e⟩) (fun b xs e=>e) (fun b o u e=>e) (fun _ _ e=>e) (fun m hm=>?_) (fun b u e=>?_) I.bare
   ·simp only [List.mem_cons,List.mem_map] at hb
    rcases hb with rfl | rfl | ⟨u,hu,rfl⟩
    ·exact ⟨fz.2.2.2.1,fz.2.1,fz.2.2.2.2.1,fz.2.2.2.2.2⟩
    ·exact ⟨fT.2.2.2.1,fT.2.1,fT.2.2.2.2.1,fT.2.2.2.2.2⟩
    ·have f:=fi u hu; exact ⟨f.2.2.2.1,f.2.1,f.2.2.2.2.1,f.2.2.2.2.2⟩
   all_goals first
    | (intro q; exact hc (by simp [q]; done))
    | (intro u hu q; exact hc (by rw [q]; exact List.mem_cons_of_mem _ (List.mem_cons_of_mem _ (List.mem_map.mpr ⟨u,hu,rfl⟩))))
    | skip
   ·obtain ⟨o,es,ep,ho,r⟩:=hm
    exact ⟨o,es,ep,kp _ o (Ne.symm fz.2.1) (Ne.symm fT.2.1) (fun u hu=>Ne.symm (fi u hu).2.1) ho,r⟩
   ·refine (I.hok b u e).stay (fun c v hcc q=>?_) (fun c q=>q) fun c xs q=>q
    rcases hcc with rfl | hcc
    ·exact kp _ v (trk _ _ e).1 (trk _ _ e).2.1 (trk _ _ e).2.2 q
    ·exact kp _ v (trk _ _ hcc).1 (trk _ _ hcc).2.1 (trk _ _ hcc).2.2 q
 self:=fun _ _ _ _ _ st h=>wpAny_pyIter_zip st.1 h
def yJ (K:Frag) (ta:TA):TI:=fun σ H R=>ta σ H fun vs H1=>∃ us:List (Bool×Addr),vs=us.map (fun u=>V.ref u.2)/\(us.length=2\/us.length=3)/\(∀ u∈us,∃ xs,Sq K H1 u.1 u.2 xs)/\R (ItZ K us) H1
theorem neN {a b:Nat} (h:a≠b):(a:Addr)≠b:=h
theorem kP:∀ {us:List (Bool×Addr)} {vs:List Value},Vals (us.map fun u=>V.ref u.2) vs->vs=us.map fun u=>Value.ref u.2:=by
 intro us
 induction us with
 | nil=>intro vs h; cases h; rfl
 | cons u us ih=>
  intro vs h
  cases h with
  | cons r t=>
   have r':_=Value.ref _:=r
   rw [r',ih t]; rfl
theorem Y7:∀ (us:List (Bool×Addr×Array Value)) (n:Nat),∀ v∈g9 n us,n<=v.1.i/\n+us.length>v.1.i:=by
 intro us
 induction us with
 | nil=>exact fun _ _ h=>absurd h List.not_mem_nil
 | cons u r ih=>
  intro n v h
  rcases List.mem_cons.mp h with rfl | h
  ·exact ⟨Nat.le_refl _,by show n+(r.length+1)>n; omega⟩
  ·have:=ih (n+1) v h
   rw [List.length_cons]; omega
theorem iD:∀ (us:List (Bool×Addr×Array Value)) (n:Nat),(g9 n us).Pairwise fun u v=>u.1.i≠v.1.i
 | [],_=>.nil
 | u::r,n=>by
  refine List.pairwise_cons.mpr ⟨fun v hv=>?_,iD r (n+1)⟩
  have:=Y7 r (n+1) v hv
  show (n:Nat)≠v.1.i
  omega
theorem fc:∀ (us:List (Bool×Addr×Array Value)) (n:Nat),(g9 n us).map (fun u=>(u.1.t,u.1.l))=us.map fun u=>(u.1,u.2.1)
 | [],_=>rfl
 | u::r,n=>by unfold g9; rw [List.map_cons,fc r,List.map_cons]
section
variable {X:Cx}
theorem xv {a:Expr} {es elts:List Expr} {ta:TA} {p pos tp:Pos} {k:Nat} (hg:Gl X "zip") (hm:X.mg "zip" = none) (ha:PA X (a::es) ta) (hs:starEach (a::es) X.env=(false,eval a X.env)::starEach es X.env:=by rfl)
  (hpl:(backTo pos (starEach es X.env)).any (·.1)=false:=by rfl):PI X (.Tuple elts k tp) (.Call (.Name "zip" p) (a::es) [] pos) (yJ X.K ta):=by
 intro pins s σ H R I h
 refine Call_ (J5 I hg hm boot_zip (PyProof.Rows.callWith_type1 (thn (ha pos pins s σ H _ I h) fun vs s1 zz55=>?_) hs hpl))
 obtain ⟨xs,H1,I1,r1,us,e1,hl,hsq,q⟩:=zz55
 subst e1
 have e2:=kP r1
 subst e2
 obtain ⟨ws,ew,hws⟩:=T7 (R:=fun (u:Bool×Addr) (its:Array Value)=>SrcAt s1.heap (u.1,u.2,its)) (l:=us) (fun u hu=>by
  obtain ⟨ys,hy⟩:=hsq u hu
  obtain ⟨its,_,hsrc⟩:=Sq.src I1 hy
  exact ⟨its.toArray,by unfold SrcAt; unfold Sub.Src at hsrc; exact hsrc⟩)
 have ev:us.map (fun u=>Value.ref u.2)=(ws.map fun w=>(w.1.1,w.1.2,w.2)).map fun u=>Value.ref u.2.1:=by rw [<- ew,List.map_map,List.map_map]; rfl
 have el:(ws.map fun w=>(w.1.1,w.1.2,w.2)).length=us.length:=by rw [<- ew,List.length_map,List.length_map]
 rw [ev]
 generalize hW:(ws.map fun w=>(w.1.1,w.1.2,w.2))=W at el ev
 have hsw:∀ u∈W,SrcAt s1.heap u:=fun u hu=>by
  rw [<- hW] at hu
  obtain ⟨w,hw,rfl⟩:=List.mem_map.mp hu
  exact hws w hw
 refine qF W (by rw [el]; exact hl) hsw fun h' hA hTI hTO hz hk=>wpAny_pyIter_zip hz ?_
 have I2:Inv X pins σ H1 { s1 with heap:=h' }:=I1.kept (t':=s1.toks) hk
 have eS:((g9 s1.heap.objs.size W).map (·.1)).map (fun u=>(u.t,u.l))=us:=by
  rw [List.map_map]
  show (g9 s1.heap.objs.size W).map (fun u=>(u.1.t,u.1.l))=us
  rw [fc,<- hW,List.map_map,<- ew]
  rfl
 have D:ZSt (s1.heap.objs.size+W.length+2) (s1.heap.objs.size+W.length) (s1.heap.objs.size+W.length+1) ((g9 s1.heap.objs.size W).map (·.1)):=by
  refine ⟨neN (by omega),neN (by omega),neN (by omega),?_,?_,?_,?_⟩
  ·rintro _ hu; obtain ⟨v,hv,rfl⟩:=List.mem_map.mp hu; have:=Y7 W _ v hv; exact neN (by omega)
  ·rintro _ hu; obtain ⟨v,hv,rfl⟩:=List.mem_map.mp hu; have:=Y7 W _ v hv; exact neN (by omega)
  ·rintro _ hu; obtain ⟨v,hv,rfl⟩:=List.mem_map.mp hu; have:=Y7 W _ v hv; exact neN (by omega)
  ·rw [List.pairwise_map]; exact iD W _
 have ls:((g9 s1.heap.objs.size W).map (·.1)).length=W.length:=by rw [List.length_map,L8]
 have TZ:=og (P:=X.prog) (w:=X.w) (K:=X.K) (elts:=elts) (k:=k) (tp:=tp) D (by intro q; have:=congrArg List.length q; rw [ls,el] at this; have h0:us.length=0:=this; omega) (by rw [ls,el]; exact Nat.le_trans (show us.length<=3 by omega) (by decide))
 rw [eS] at TZ
 refine ⟨_,_,_,_,H1,rfl,I2,TZ,⟨hz,?_,?_,fun u hu=>?_⟩,fun b hb=>?_,q⟩
 ·rw [List.map_map]; exact hTI
 ·obtain ⟨arr,h1,h2⟩:=hTO
  exact ⟨arr,h1,by rw [ls]; exact h2⟩
 ·obtain ⟨v,hv,rfl⟩:=List.mem_map.mp hu
  exact hA v hv
 ·have hb':s1.heap.objs.size<=b:=by
   simp only [List.mem_cons,List.mem_map] at hb
   rcases hb with rfl | rfl | rfl | ⟨_,⟨v,hv,rfl⟩,rfl⟩
   ·omega
   ·omega
   ·omega
   ·exact (Y7 W _ v hv).1
  have f:=I1.fpOk (H':=H1) hb' (I1.hok.fresh hb')
  exact f
end
end L2
namespace L2
open PySem PySem.Spec PyProof.Rows
theorem o0 (cs:Scope) (env:Env) (x:Str):(relabel cs env).names.lookup x=(cs.names.lookup x).map fun k=>if (k == .free&&env.scope.kind == .function&&env.kindOf x == some .cell)=true then .cell else k:=by
 unfold relabel
 show List.lookup x (cs.names.map _)=_
 induction cs.names with
 | nil=>rfl
 | cons p r ih=>
  obtain ⟨n,k⟩:=p
  by_cases hx:x=n
  ·subst hx
   rw [List.map_cons]
   simp only [List.lookup_cons]
   split <;> simp_all
  ·have hb:(x == n)=false:=by simpa using hx
   have er:List.lookup x ((n,k)::r)=List.lookup x r:=by rw [List.lookup_cons,hb]
   rw [List.map_cons,er]
   refine Eq.trans ?_ ih
   dsimp only
   by_cases hc:(k == NameKind.free&&env.scope.kind == ScopeKind.function&&env.kindOf n == some NameKind.cell)=true
   ·rw [if_pos hc,List.lookup_cons,hb]
   ·rw [if_neg hc,List.lookup_cons,hb]
theorem O2 {env : Env} : ∀ (names : List (Str × NameKind)) (cs0 : List (Str × Addr)), (∀ x ∈ names, x.2 = .free -> ∃ c, env.cells.lookup x.1 = some c) -> (∀ x c, cs0.lookup x = some c -> env.cells.lookup x = some c) ->
    ∃ cl, (forIn (m := Sem) names cs0 fun x __s => if (x.snd == NameKind.free) = true then do
              let __do_lift <- cellOf env x.fst
              pure (ForInStep.yield ((x.fst, __do_lift) :: __s))
            else pure (ForInStep.yield __s)) = pure cl /\ (∀ x c, cl.lookup x = some c -> env.cells.lookup x = some c) /\ (∀ x, (x, NameKind.free) ∈ names -> ∃ c, cl.lookup x = some c) /\ ∀ x c, cs0.lookup x = some c -> ∃ c', cl.lookup x = some c' := by
  intro names
  induction names with
  | nil =>
    intro cs0 _ h0
    exact ⟨cs0, by simp only [List.forIn_nil], h0, fun _ h => absurd h List.not_mem_nil, fun _ c h => ⟨c, h⟩⟩
  | cons p r ih =>
    intro cs0 hf h0
    obtain ⟨n, k⟩ := p
    by_cases hk : k = .free
    · subst hk
      obtain ⟨c, hc⟩ := hf (n, .free) List.mem_cons_self rfl
      obtain ⟨cl, e, h1, h2, h3⟩ := ih ((n, c) :: cs0) (fun x hx => hf x (List.mem_cons_of_mem _ hx)) (fun x c' hx => by
        rw [List.lookup_cons] at hx
        split at hx
        · rename_i hb
          have hxn : x = n := by simpa using hb
          cases hx; rw [hxn]; exact hc
        · exact h0 x c' hx)
      have hn : ∃ c', cl.lookup n = some c' := h3 n c (by simp)
      refine ⟨cl, ?_, h1, fun x hx => ?_, fun x c' hx => ?_⟩
      · rw [List.forIn_cons]
        simp only [beq_self_eq_true, if_true, cellOf, hc]
        exact e
      · rcases List.mem_cons.mp hx with q | hx
        · cases q; exact hn
        · exact h2 x hx
      · by_cases hxn : x = n
        · subst hxn; exact hn
        · exact h3 x c' (by
            have hb : (x == n) = false := by simpa using hxn
            rw [List.lookup_cons, hb]; exact hx)
    · have hb : (k == NameKind.free) = false := by simpa using hk
      obtain ⟨cl, e, h1, h2, h3⟩ := ih cs0 (fun x hx => hf x (List.mem_cons_of_mem _ hx)) h0
      refine ⟨cl, ?_, h1, fun x hx => ?_, h3⟩
      · rw [List.forIn_cons]
        simp only [hb, Bool.false_eq_true, if_false]
        exact e
      · rcases List.mem_cons.mp hx with q | hx
        · cases q; exact absurd rfl hk
        · exact h2 x hx
structure g3 (sc cs:Scope) (N N':List Str):Prop where
 kind:cs.kind=.function
 ncell:∀ x∈cs.names,x.2≠.cell
 loc:∀ x∈cs.names,x.2=.local->cs.names.lookup x.1=some .local
 free:∀ x∈cs.names,x.2=.free->sc.names.lookup x.1=some .cell\/sc.names.lookup x.1=some .free
 nd:N'.Nodup
 len:N.length<=N'.length
 same:∀ i∈List.range N.length,N'[i]?=N[i]?\/∀ x∈N'[i]?,cs.names.lookup x=none
 out:∀ x∈N'.take N.length,cs.names.lookup x≠some .local
abbrev i5 (X:Cx) (cs:Scope) (cl:List (Str×Addr)) (N':List Str) (ex:List Addr) (s:Shared) (H:Hp):Cx:=
 { X with N:=N',s₀:=s,H₀:=H,env:=compEnvC cs cl s.heap.objs.size X.env,outer:=X.stack,stack:=X.stack,ex:=ex,fn:=fun _=>false,pn:=[],xe:=fun _ _=>False }
def inner (N':List Str) (σ:St):St:=σ++List.replicate (N'.length-σ.length) none
theorem S4 {N':List Str} {σ:St} {i:Nat} {v:V} (h:(inner N' σ)[i]?=some (some v)):σ[i]?=some (some v):=by
 unfold inner at h
 by_cases hi:i<σ.length
 ·rwa [List.getElem?_append_left hi] at h
 ·rw [List.getElem?_append_right (by omega),List.getElem?_replicate] at h
  split at h <;> cases h
theorem qE {X:Cx} {pins:List (Addr×Obj)} {σ:St} {H:Hp} {s3 s4:Shared} {cs:Scope} {cl:List (Str×Addr)} {N':List Str} {fp:List Addr} {m:Str->Option Value} (S:g3 X.env.scope cs X.N N') (I:Inv X pins σ H s3)
  (hcl1:∀ x c,cl.lookup x=some c->X.env.cells.lookup x=some c) (hcl2:∀ x,(x,NameKind.free)∈cs.names->∃ c,cl.lookup x=some c) (hf:∀ b∈fp,v6 X pins H b) (hlt:∀ b∈fp,b<s3.heap.objs.size)
  (kp:∀ b o,s3.heap.get? b=some o->s4.heap.get? b=some o) (hn:s4.heap.Ns s3.heap.objs.size m) (hos:s4.os=s3.os) (hg:s4.gens=s3.gens):Inv (i5 X cs cl N' fp s3 H) [] (inner N' σ) H s4:=by
 have kcell:∀ {c:Addr} {v:Option Value},s3.heap.IsCell c v->s4.heap.IsCell c v:=fun {c v} z=>by obtain ⟨o,e,d⟩:=z; exact ⟨o,kp c o e,d⟩
 refine ⟨⟨I.ok.mod,S.kind,I.ok.glob,I.ok.blt,Nat.le_refl _,fun x y c h1 h2=>I.ok.inj x y c (hcl1 x c h1) (hcl1 y c h2),fun x hx=>?_,fun x c h _=>absurd (show false=true from h) (by decide),I.ok.hd,I.ok.frames,.inl rfl,fun b hb=>⟨?_,fun x c e=>(hf b hb).2.2.2.2.1 x c (hcl1 x c e)⟩,I.bs,Nat.le_trans I.ok.bsz I.sz,fun b o e hb=>?_,fun b hb hfs=>?_,I.stack,I.stkFree,I.tab⟩,
  hos,by rw [hg]; exact I.bare,Un.kept kp,⟨m,hn,fun i x v e1 e2 e3=>?_⟩,fun x c e=>?_,I.hok.fresh (Nat.le_refl _),fun x c e=>I.freeC x c (hcl1 x c e),fun p hp=>absurd (show p∈([]:List (Addr×Obj)) from hp) (by simp),I.hok.kept kp,?_⟩
 ·have hx':(relabel cs X.env).names.lookup x=some .cell\/(relabel cs X.env).names.lookup x=some .free:=hx
  rw [o0] at hx'
  cases hl:cs.names.lookup x with
  | none=>rw [hl] at hx'; rcases hx' with h | h <;> cases h
  | some k=>
   have hm:=PySem.mem_of_lookup hl
   by_cases hk:k=.free
   ·subst hk; exact hcl2 x hm
   ·exfalso
    have hb:(k == NameKind.free)=false:=by simpa using hk
    rw [hl] at hx'
    simp only [Option.map_some,hb,Bool.false_and,Bool.false_eq_true,if_false] at hx'
    rcases hx' with h | h
    ·cases h; exact S.ncell _ hm rfl
    ·cases h; exact hk rfl
 ·intro q
  have hb':b=s3.heap.objs.size:=q
  exact absurd (hlt b hb) (by rw [hb']; exact Nat.lt_irrefl _)
 ·obtain ⟨f0,f1,f2,f3,f4,f5⟩:=hf b hb
  rcases f3 with z | z
  ·exact I.ok.noex b o e z
  ·exact absurd (Nat.lt_of_lt_of_le (Heap.lt_size (I.ok.bs b o e).1) z) (Nat.lt_irrefl _)
 ·have hfs':b∈frs X.stack:=hfs
  rcases List.mem_cons.mp (I.stkSub b hfs') with z | z
  ·exact (hf b hb).2.1 z
  ·exact (hf b hb).2.2.1 z
 ·have e2':=S4 e2
  have hi:i<X.N.length:=by rw [<- I.len]; exact (List.getElem?_eq_some_iff.mp e2').1
  have e1':N'[i]?=some x:=e1
  have e3':Vis (relabel cs X.env) x:=e3
  have hv:∃ k,cs.names.lookup x=some k:=by
   unfold Vis at e3'
   rw [o0] at e3'
   cases hl:cs.names.lookup x with
   | none=>rw [hl] at e3'; rcases e3' with h | h | h <;> cases h
   | some k=>exact ⟨k,rfl⟩
  obtain ⟨k,hk⟩:=hv
  have hN:X.N[i]?=some x:=by
   rcases S.same i (List.mem_range.mpr hi) with q | q
   ·rw [<- q]; exact e1'
   ·have:=q x (by rw [e1']; rfl)
    rw [hk] at this; cases this
  have hnl:k≠.local:=fun q=>by
   subst q
   exact S.out x (List.mem_of_getElem? (i:=i) (by rw [List.getElem?_take_of_lt hi]; exact e1')) hk
  have hm:=PySem.mem_of_lookup hk
  have hfree:k=.free:=by
   unfold Vis at e3'
   rw [o0,hk] at e3'
   by_cases hkf:k=.free
   ·exact hkf
   ·exfalso
    have hb:(k == NameKind.free)=false:=by simpa using hkf
    simp only [Option.map_some,hb,Bool.false_and,Bool.false_eq_true,if_false] at e3'
    rcases e3' with h | h | h
    ·exact hnl (Option.some.inj h)
    ·exact S.ncell _ hm (Option.some.inj h)
    ·exact hkf (Option.some.inj h)
  subst hfree
  obtain ⟨m0,hn0,hl0⟩:=I.loc
  have hvis:Vis X.env.scope x:=by
   rcases S.free _ hm rfl with h | h
   ·exact .inr (.inl h)
   ·exact .inr (.inr h)
  obtain ⟨u,r,l⟩:=hl0 i x v hN e2' hvis
  refine ⟨u,r,.inr ⟨?_,?_⟩⟩
  ·show (relabel cs X.env).names.lookup x=some .cell\/(relabel cs X.env).names.lookup x=some .free
   rw [o0,hk]
   show some (if _ then _ else _)=_\/some (if _ then _ else _)=_
   split
   ·exact .inl rfl
   ·exact .inr rfl
  ·obtain ⟨c,hc⟩:=hcl2 x hm
   have hc':=hcl1 x c hc
   rcases l with ⟨q,_⟩ | ⟨_,c',e,z⟩
   ·exfalso
    have q':X.env.scope.names.lookup x=some .local:=q
    rcases S.free _ hm rfl with h | h <;> (rw [q'] at h; cases h)
   ·rw [hc'] at e; cases e
    exact ⟨c,hc,kcell z⟩
 ·obtain ⟨v,z⟩:=I.cell x c (hcl1 x c e)
  exact ⟨v,kcell z⟩
 ·unfold inner
  rw [List.length_append,List.length_replicate,I.len]
  have:=S.len
  show _=N'.length
  omega
def B6 (n:Nat) (g:TG):Prop:=∀ (v:V) (σ:St) (H:Hp) (Q:St->Hp->Prop),g v σ H Q->g v σ H fun σ2 H2=>Q σ2 H2/\σ2.length=σ.length/\∀ j,j<n->σ2[j]?=σ[j]?
def cQ (n:Nat) (g:TGs):Prop:=∀ (vs:List V) (σ:St) (H:Hp) (Q:St->Hp->Prop),g vs σ H Q->g vs σ H fun σ2 H2=>Q σ2 H2/\σ2.length=σ.length/\∀ j,j<n->σ2[j]?=σ[j]?
theorem t6 {n i:Nat} (h:n<=i):B6 n (B4 i):=fun v σ H Q q=>⟨q,by simp,fun j hj=>List.getElem?_set_ne (by omega)⟩
theorem V0 {n:Nat}:cQ n gNil:=fun vs σ H Q zz56=>by obtain ⟨e,q⟩:=zz56; exact ⟨e,q,rfl,fun _ _=>rfl⟩
theorem y8 {n i:Nat} {u:TGs} (h:n<=i) (hu:cQ n u):cQ n (kh (B4 i) u):=fun vs σ H Q zz57=>by
 obtain ⟨v,r,e,q⟩:=zz57
 refine ⟨v,r,e,?_⟩
 have q':=hu r (σ.set i (some v)) H Q q
 show u r (σ.set i (some v)) H _
 have e1:∀ σ2:St,(σ2.length=(σ.set i (some v)).length/\∀ j,j<n->σ2[j]?=(σ.set i (some v))[j]?)=(σ2.length=σ.length/\∀ j,j<n->σ2[j]?=σ[j]?):=fun σ2=>by
  have:∀ j,j<n->(σ.set i (some v))[j]?=σ[j]?:=fun j hj=>List.getElem?_set_ne (by omega)
  rw [List.length_set]
  exact propext ⟨fun zz58=>by obtain ⟨a,b⟩:=zz58; exact ⟨a,fun j hj=>(b j hj).trans (this j hj)⟩,fun zz59=>by obtain ⟨a,b⟩:=zz59; exact ⟨a,fun j hj=>(b j hj).trans (this j hj).symm⟩⟩
 have e2:(fun (σ2:St) (H2:Hp)=>Q σ2 H2/\σ2.length=σ.length/\∀ j,j<n->σ2[j]?=σ[j]?)=fun σ2 H2=>Q σ2 H2/\σ2.length=(σ.set i (some v)).length/\∀ j,j<n->σ2[j]?=(σ.set i (some v))[j]?:=by
  funext σ2 H2; rw [e1]
 rw [e2]; exact q'
theorem U9 {K:Frag} {n k:Nat} {u:TGs} (hu:cQ n u):B6 n (ke K k u):=fun v σ H Q zz60=>by obtain ⟨a,xs,e,h1,h2,q⟩:=zz60; exact ⟨a,xs,e,h1,h2,hu xs σ H Q q⟩
def PIf (X:Cx) (ifs:List Expr) (t:TT):Prop:=
 ∀ (pins:List (Addr×Obj)) (s:Shared) (σ:St) (H:Hp) (Q:Bool->Hp->Prop),Inv X pins σ H s->t σ H Q ->
  wpAny (model X.prog X.w) X.A (forIn ifs true fun c r=>if r=true then do let ok <- isTrue c X.env (eval c X.env); pure (ForInStep.yield ok) else pure (ForInStep.yield r)) (TP X pins σ Q) X.xe s
def tYes:TT:=fun _ H Q=>Q true H
theorem tG {X:Cx}:PIf X [] tYes:=fun _ _ _ H _ I h=>wpAny_tests_nil ⟨H,I,h⟩
theorem tF {X:Cx} {c:Expr} {t:TT} (h:PT X c t):PIf X [c] t:=fun pins s σ H Q I q=>wpAny_tests_one (h pins s σ H Q I q)
def kM (J:It) (D:Addr) (g:TG) (tc:TT) (te:TE) (σ':St) (H1:Hp) (Q:Hp->Prop):Prop:=
 ∃ W:Nat->Nat->Hp->Prop,(∃ m,W 0 m (upd H1 D (.lst [])))/\∀ i m H2,W i m H2 ->
  (J.stop i H2/\Q H2)\/(J.go i H2/\∀ x H3,J.yld i H2 x H3->g x σ' H3 fun σ4 H4=>tc σ4 H4 fun b H5=>
   if b=true then te σ4 H5 fun y H6=>∃ ys,H6 D=some (.lst ys)/\ys.length<sizeLine/\∃ m',m'<m/\W (i+1) m' (upd H6 D (.lst (ys ++ [y])))
   else ∃ m',m'<m/\W (i+1) m' H5)
def eK (N':List Str) (wi:TI) (g:TG) (tc:TT) (te:TE):TE:=fun σ H Q=>wi σ H fun J H1=>∀ D,H1 D=none->kM J D g tc te (inner N' σ) H1 (Q (.ref D))
section
variable {X:Cx} {cs:Scope} {N':List Str} {tg iter elt:Expr} {ifs:List Expr} {wi:TI} {g:TG} {tc:TT} {te:TE} {pos:Pos}
theorem Bf {cl:List (Str×Addr)} {pins:List (Addr×Obj)} {fp:List Addr} {H3 H':Hp} {s3:Shared} (hcl1:∀ x c,cl.lookup x=some c->X.env.cells.lookup x=some c) (stk:∀ b∈frs X.stack,b∈X.env.locals::X.fs)
  (hf3:∀ b∈fp,v6 X pins H3 b) (hlt:∀ b∈fp,b<s3.heap.objs.size) (hn:∀ b∈fp,H' b=none):∀ b∈fp,v6 (i5 X cs cl N' fp s3 H3) [] H' b:=fun b hb=>by
 obtain ⟨f0,f1,f2,f3,f4,f5⟩:=hf3 b hb
 refine ⟨hn b hb,Nat.ne_of_lt (hlt b hb),fun hfs=>?_,.inl hb,fun x c e=>f4 x c (hcl1 x c e),fun p hp=>absurd (show p∈([]:List (Addr×Obj)) from hp) (by simp)⟩
 have hfs':b∈frs X.stack:=hfs
 rcases List.mem_cons.mp (stk b hfs') with z | z
 ·exact f1 z
 ·exact f2 z
theorem nA {cl:List (Str×Addr)} {pins:List (Addr×Obj)} {σ:St} {R:Result->Shared->Prop} {Q:Hp->Prop} {s3 s4:Shared} {H3:Hp} {it D:Addr} {fp:List Addr} {tn:Nat->Heap->Prop} {J:It} {W:Nat->Nat->Hp->Prop} {m0:Nat}
  (hc:X.calm=true) (hg:PG (i5 X cs cl N' fp s3 H3) tg g) (hk:B6 X.N.length g) (ht:PIf (i5 X cs cl N' fp s3 H3) ifs tc) (he:PE (i5 X cs cl N' fp s3 H3) elt te)
  (hcl1:∀ x c,cl.lookup x=some c->X.env.cells.lookup x=some c)
  (I3:Inv X pins σ H3 s3) (I4:Inv (i5 X cs cl N' fp s3 H3) [] (inner N' σ) H3 s4) (T:Turn X.prog X.w X.K tg J fp it tn) (st:tn 0 s4.heap) (hf3:∀ b∈fp,v6 X pins H3 b) (hlt:∀ b∈fp,b<s3.heap.objs.size)
  (w0:W 0 m0 H3)
  (turn:∀ i m H2,W i m H2->(J.stop i H2/\Q H2)\/(J.go i H2/\∀ x H3,J.yld i H2 x H3->g x (inner N' σ) H3 fun σ4 H4=>tc σ4 H4 fun b H5=>
   if b=true then te σ4 H5 fun y H6=>∃ ys,H6 D=some (.lst ys)/\ys.length<sizeLine/\∃ m',m'<m/\W (i+1) m' (upd H6 D (.lst (ys ++ [y])))
   else ∃ m',m'<m/\W (i+1) m' H5))
  (hR:∀ (H':Hp) (s':Shared),Inv X pins σ H' s'->Q H'->(∃ m,s'.heap.Ns s3.heap.objs.size m)->v6 X pins H' s3.heap.objs.size->R (.ok .next) s') :
  codeAny (model X.prog X.w) X.A (.compLoop (.ListComp elt [⟨tg,iter,ifs,0⟩] cs pos) 0 (.ref it) (.ref D) (i5 X cs cl N' fp s3 H3).env) R s4:=by
 have fpx:∀ {H':Hp},(∀ b∈fp,H' b=none)->∀ b∈fp,v6 (i5 X cs cl N' fp s3 H3) [] H' b:=fun hn=>Bf hcl1 I3.stkSub hf3 hlt hn
 have lσ:(inner N' σ).length=N'.length:=I4.len
 refine codeAny_loop rfl (fun n s'=>∃ i H',Inv (i5 X cs cl N' fp s3 H3) [] (inner N' σ) H' s'/\tn i s'.heap/\(∀ b∈fp,H' b=none)/\W i n H') (fun n s5 hI=>?_) m0 ⟨0,H3,I4,st,fun b hb=>(hf3 b hb).1,w0⟩
 obtain ⟨i,H5,I5,st5,fr5,w5⟩:=hI
 show wpAny _ _ ((compTurn (.ListComp elt [⟨tg,iter,ifs,0⟩] cs pos) 0 (.ref it) (.ref D) (i5 X cs cl N' fp s3 H3).env).onRaise _) _ _ s5
 refine wpAny_noted ?_
 rw [compTurn_list]
 refine wpAny_bind (wpAny_standAt (wpAny_bind ?_))
 have cvt:∀ {α:Type} {t:Sem α} {P:α->Shared->Prop} {E':Value->Shared->Prop} {s:Shared},wpAny (model X.prog X.w) X.A t P (fun _ _=>False) s->wpAny (model X.prog X.w) X.A t P E' s:=fun h=>wpAny_mono h (fun _ _ q=>q) fun _ _ q=>q.elim
 rcases turn i n H5 w5 with ⟨stop,q⟩ | ⟨go,step⟩
 ·refine thn (T.done (i5 X cs cl N' fp s3 H3) rfl rfl rfl hc i [] s5 _ H5 _ I5 (fpx fr5) st5 stop) fun r s6 ⟨hr,I6⟩=>?_
  subst hr
  refine wpAny_pure ?_
  have J6:Inv X pins σ H5 s6:=I3.call' (H':=H5) (ch:=fp) I6.os I6.base I6.hok I6.bare fun b hb=>by
   obtain ⟨f0,f1,f2,f3,f4,f5⟩:=hf3 b hb
   exact ⟨f3,f1,f4,f5⟩
  obtain ⟨m,hn,_⟩:=I6.loc
  exact hR H5 s6 J6 q ⟨m,hn⟩ (I3.fpOk (Nat.le_refl _) I6.free)
 ·refine thn (T.item (i5 X cs cl N' fp s3 H3) rfl rfl rfl hc i [] s5 _ H5 _ I5 (fpx fr5) st5 go) fun r s6 ⟨u,hr,h6⟩=>?_
  subst hr
  refine wpAny_bind (thn h6 fun _ s7 zz63=>?_)
  obtain ⟨x,H7,I7,r7,y7,st7,fr7⟩:=zz63
  have I7':=I7.pinned (fpx fr7) (T.obj _ _ st7)
  refine wpAny_bind (cvt (thn (hg _ s7 _ H7 x u _ I7' r7 (hk x _ H7 _ (step x H7 y7))) fun _ s8 zz64=>?_))
  obtain ⟨σ8,H8,I8,q8,l8,k8⟩:=zz64
  refine wpAny_bind (cvt (thn (ht _ s8 σ8 H8 _ I8 q8) fun b s9 zz65=>?_))
  obtain ⟨H9,I9,q9⟩:=zz65
  have again:∀ {s':Shared} {H':Hp},Inv (i5 X cs cl N' fp s3 H3) ([]++U2 fp s7.heap) σ8 H' s'->(∃ m',m'<n/\W (i+1) m' H') ->
    ∃ m',m'<n/\∃ i H',Inv (i5 X cs cl N' fp s3 H3) [] (inner N' σ) H' s'/\tn i s'.heap/\(∀ b∈fp,H' b=none)/\W i m' H':=fun {s' H'} I' zz66=>by
   obtain ⟨m',hm,w'⟩:=zz66
   refine ⟨m',hm,i+1,H',(I'.unpinned).weak (by rw [l8]) (fun j v e=>?_),T.keep _ _ _ st7 fun b hb o e=>(I'.pin (b,o) (List.mem_append_right _ (List.mem_append_right _ (D9 hb e)))).1,fun b hb=>?_,w'⟩
   ·have hj:j<X.N.length:=by rw [<- I3.len]; exact (List.getElem?_eq_some_iff.mp (S4 e)).1
    rw [k8 j hj]; exact e
   ·obtain ⟨o,e,d⟩:=T.obj _ _ st7 b hb
    exact (I'.pin (b,o) (List.mem_append_right _ (List.mem_append_right _ (D9 hb e)))).2.1
  cases b with
  | false=>
   have q9':∃ m',m'<n/\W (i+1) m' H9:=q9
   exact wpAny_pure ⟨rfl,again I9 q9'⟩
  | true=>
   have q9':te σ8 H9 _:=q9
   refine wpAny_bind (wpAny_bind (cvt (thn (he _ s9 σ8 H9 _ I9 q9') fun v s10 zz67=>?_)))
   obtain ⟨y,H10,I10,r10,ys,hD,hy,q10⟩:=zz67
   refine wpAny_bind (cvt (thn (ae _ s10 σ8 H10 (.ref D) [y] (.ref D) [v] (fun _ H'=>∃ m',m'<n/\W (i+1) m' H') I10 rfl (.cons r10 .nil) ⟨D,ys,y,rfl,rfl,hD,hy,q10⟩) fun _ s11 zz68=>?_))
   obtain ⟨_,H11,I11,_,q11⟩:=zz68
   exact wpAny_pure (wpAny_pure ⟨rfl,again I11 q11⟩)
theorem eA {cl:List (Str×Addr)} {pins:List (Addr×Obj)} {σ:St} {R:Value->Addr->Result->Shared->Prop} {Q:V->Hp->Prop} {s2:Shared} {itv:Value} (S:g3 X.env.scope cs X.N N') (hc:X.calm=true)
  (hg:∀ cl ex s H,PG (i5 X cs cl N' ex s H) tg g) (hk:B6 X.N.length g) (ht:∀ cl ex s H,PIf (i5 X cs cl N' ex s H) ifs tc) (he:∀ cl ex s H,PE (i5 X cs cl N' ex s H) elt te)
  (hcl1:∀ x c,cl.lookup x=some c->X.env.cells.lookup x=some c) (hcl2:∀ x,(x,NameKind.free)∈cs.names->∃ c,cl.lookup x=some c)
  (h:PIE X pins σ tg (fun J H1=>∀ D,H1 D=none->kM J D g tc te (inner N' σ) H1 (Q (.ref D))) itv s2)
  (hR:∀ (D C:Addr) (H':Hp) (s':Shared),Inv X pins σ H' s'->Q (.ref D) H'->(∃ m,s'.heap.Ns C m)->v6 X pins H' C->R (.ref D) C (.ok .next) s') :
  wpAny (model X.prog X.w) X.A (newList []) (fun acc s₃=>wpAny (model X.prog X.w) X.A (newFunctionEnv cs X.env.globals cl [] X.env.qual none .none (some X.env)) (fun cenv s₄=>
   codeAny (model X.prog X.w) X.A (.compStart (.ListComp elt [⟨tg,iter,ifs,0⟩] cs pos) 0 itv acc { cenv with scope:=relabel cs X.env }) (R acc cenv.locals) s₄) X.xe s₃) X.xe s2:=by
 obtain ⟨it,fp,tn,J,H2,e,I2,T,st2,f2,hw⟩:=h
 subst e
 refine wpAny_newObj_type (wpAny_newFunctionEnv S.ncell (by intro y hy; simp at hy) (fun h1 hns1 hsb1=>?_) S.kind)
 dsimp only at hns1 hsb1 ⊢
 have hD:=I2.hok.fresh (Nat.le_refl _)
 obtain ⟨W,⟨m0,w0⟩,turn⟩:=hw s2.heap.objs.size hD
 have I3:Inv X pins σ (upd H2 s2.heap.objs.size (.lst [])) { s2 with heap:=s2.heap.push { cls:=.type "list",dict:=none,data:=.seq ([]:List Value).toArray } }:=I2.lnew (t':=s2.toks) .nil (Nat.zero_le _)
 have hfp3:∀ b∈fp,b<s2.heap.objs.size:=fun b hb=>by
  obtain ⟨o,e,_⟩:=T.obj 0 _ st2 b hb
  exact Heap.lt_size e
 have hf3:∀ b∈fp,v6 X pins (upd H2 s2.heap.objs.size (.lst [])) b:=fun b hb=>by
  obtain ⟨f0,r⟩:=f2 b hb
  exact ⟨by rw [c7 (Nat.ne_of_lt (hfp3 b hb))]; exact f0,r⟩
 have hlt:∀ b∈fp,b<(s2.heap.push { cls:=.type "list",dict:=none,data:=.seq ([]:List Value).toArray }).objs.size:=fun b hb=>by rw [Heap.size_push]; exact Nat.lt_succ_of_lt (hfp3 b hb)
 have kp:∀ b o,(s2.heap.push { cls:=.type "list",dict:=none,data:=.seq ([]:List Value).toArray }).get? b=some o->h1.get? b=some o:=fun b o e=>hsb1.extBut b o (Nat.ne_of_lt (Heap.lt_size e)) (Heap.get?_push_of_some _ e)
 have I4:=qE (cs:=cs) (cl:=cl) (N':=N') (fp:=fp) (s4:={ s2 with heap:=h1,toks:=s2.toks+([]:List (Str×Value)).length }) S I3 hcl1 hcl2 hf3 hlt kp hns1 rfl rfl
 have st4:tn 0 h1:=T.keep 0 _ _ st2 fun b hb o e=>kp b o (Heap.get?_push_of_some _ e)
 have loop:=nA (R:=R (.ref s2.heap.objs.size) (s2.heap.push { cls:=.type "list",dict:=none,data:=.seq ([]:List Value).toArray }).objs.size) (D:=s2.heap.objs.size) (iter:=iter) (pos:=pos) (it:=it) (Q:=Q (.ref s2.heap.objs.size)) hc (hg cl fp _ _) hk (ht cl fp _ _) (he cl fp _ _) hcl1 I3 I4 T st4 hf3 hlt w0 turn fun H' s' I' q n f=>hR _ _ H' s' I' q n f
 exact codeAny_compStart_list loop (T.self _ 0 _ _ _ st4 loop)
theorem tK (S:g3 X.env.scope cs X.N N') (hc:X.calm=true) (hi:PI X tg iter wi)
  (hg:∀ cl ex s H,PG (i5 X cs cl N' ex s H) tg g) (hk:B6 X.N.length g) (ht:∀ cl ex s H,PIf (i5 X cs cl N' ex s H) ifs tc) (he:∀ cl ex s H,PE (i5 X cs cl N' ex s H) elt te)
  (hs:∀ x,foldedSetIterable iter X.env x=pure x:=by intro _; rfl):PE X (.ListComp elt [⟨tg,iter,ifs,0⟩] cs pos) (eK N' wi g tc te):=by
 intro pins s σ H Q I h
 obtain ⟨cl,e,h1,h2,_⟩:=O2 (env:=X.env) cs.names [] (fun x hx hk=>I.ok.has x.1 (S.free x hx hk)) (fun _ _ z=>nomatch z)
 have hclos:closureFor cs X.env=pure cl:=by
  simp only [closureFor]
  rw [e]; rfl
 rw [eval_ListComp]
 refine wpAny_comprehension_free (use:=none) rfl hs hclos S.kind S.loc (thn (hi pins s σ H _ I h) fun v s1 q1=>thn q1 fun itv s2 q2=>?_)
 refine eA (R:=fun acc C=>compPost (model X.prog X.w) X.A X.xe none (EP X pins σ Q) acc C) (Q:=Q) S hc hg hk ht he h1 h2 q2 fun D C H' s' I' q n f=>?_
 obtain ⟨m,hn⟩:=n
 obtain ⟨f0,f1,f2,f3,f4,f5⟩:=f
 exact ⟨m,hn,fun h' sb=>⟨.ref D,H',I'.turned (t':=s'.toks) (fun b o hb e=>sb.extBut b o hb e) f0 f1 f3 f4 f5,rfl,q⟩⟩
theorem tz {i:Nat} {y:Str} {py spos:Pos} (S:g3 X.env.scope cs X.N N') (hc:X.calm=true) (hi:PI X tg iter wi)
  (hg:∀ cl ex s H,PG (i5 X cs cl N' ex s H) tg g) (hk:B6 X.N.length g) (ht:∀ cl ex s H,PIf (i5 X cs cl N' ex s H) ifs tc) (he:∀ cl ex s H,PE (i5 X cs cl N' ex s H) elt te)
  (hN:X.N.Nodup) (hy:X.N[i]?=some y) (hl:Loc X.env.scope y)
  (hsw:swapsWith (.ListComp elt [⟨tg,iter,ifs,0⟩] cs pos) (some (.Name y py)) spos.line X.env=pure true:=by rfl) (hf:X.fn y=true\/X.env.scope.names.lookup y=some .local:=by first | exact .inl rfl | exact .inr rfl | assumption)
  (hs:∀ x,foldedSetIterable iter X.env x=pure x:=by intro _; rfl):PS X (.Assign [.Name y py] (.ListComp elt [⟨tg,iter,ifs,0⟩] cs pos) spos) (P0 (eK N' wi g tc te) (B4 i)):=by
 intro pins s σ H Q I h
 obtain ⟨cl,e,h1,h2,_⟩:=O2 (env:=X.env) cs.names [] (fun x hx hk=>I.ok.has x.1 (S.free x hx hk)) (fun _ _ z=>nomatch z)
 have hclos:closureFor cs X.env=pure cl:=by
  simp only [closureFor]
  rw [e]; rfl
 rw [exec_Assign_Name_used _ _ _ _ hsw]
 refine wpAny_bind (wpAny_standAt (wpAny_bind ?_))
 show wpAny _ _ (comprehension (.ListComp elt [⟨tg,iter,ifs,0⟩] cs pos) cs X.env _ (newList []) false (eval iter X.env) (some (assign (.Name y py) X.env))>>=_) _ _ s
 refine wpAny_bind (thn (wpAny_comprehension_free (use:=some (assign (.Name y py) X.env)) (Q:=fun _ s'=>SP X pins Q .next s') rfl hs hclos S.kind S.loc (thn (hi pins s σ H _ I h) fun v s1 q1=>thn q1 fun itv s2 q2=>?_)) fun _ s' q=>wpAny_pure (wpAny_pure q))
 refine eA (R:=fun acc C=>compPost (model X.prog X.w) X.A X.xe (some (assign (.Name y py) X.env)) (fun _ s'=>SP X pins Q .next s') acc C) (Q:=fun x H1=>B4 i x σ H1 Q.nx) S hc hg hk ht he h1 h2 q2 fun D C H' s' I' q n f=>?_
 obtain ⟨m,hn⟩:=n
 obtain ⟨f0,f1,f2,f3,f4,f5⟩:=f
 show wpAny _ _ (assign (.Name y py) X.env (.ref D)) _ _ _
 refine wpAny_assign_Name (Y8 (v:=.ref D) (u:=.ref D) I' hN hy hl rfl (fun s'' I'' zz69=>?_) hf)
 obtain ⟨a,sb,ha⟩:=zz69
 have hCa:C≠a:=by
  rcases ha with rfl | ha
  ·exact f1
  ·exact fun q=>f4 _ _ ha q.symm
 refine ⟨m,hn.sameBut sb hCa,fun h' sb'=>?_⟩
 exact ⟨_,H',I''.turned (t':=s''.toks) (fun b o hb e=>sb'.extBut b o hb e) f0 f1 f3 f4 f5,q⟩
end
end L2
namespace L2
open PySem PySem.Spec PyProof.Rows
theorem Sq.same {K:Frag} {H H':Hp} {t:Bool} {a:Addr} {xs:List V} (e:Same H H') (h:Sq K H t a xs):Sq K H' t a xs:=by
 unfold Sq at h ⊢
 split
 ·rename_i ht; rw [if_pos ht] at h
  rcases h with (h | ⟨o,h⟩) | h
  ·exact .inl (.inl (e _ _ h))
  ·exact .inl (.inr ⟨o,e _ _ h⟩)
  ·exact .inr h
 ·rename_i ht; rw [if_neg ht] at h
  exact e.seq h
def seqAt (K:Frag) (H:Hp) (p:Addr) (R:List V->Prop):Prop:=match H p with
 | some (.tup xs)=>R xs
 | some (.lst xs)=>R xs
 | _=>∃ t xs,Sq K H t p xs/\R xs
section
variable {X:Cx}
def ItQ (K:Frag) (t:Bool) (a:Addr):It:=if t=true then Itt K a else Itl K a
def iSq (K:Frag) (tl:TE):TI:=fun σ H R=>tl σ H fun x H1=>∃ a,x=.ref a/\∃ t xs,Sq K H1 t a xs/\R (ItQ K t a) H1
theorem AO {tg l:Expr} {tl:TE} (hl:PE X l tl):PI X tg l (iSq X.K tl):=by
 intro pins s σ H R I h
 refine thn (hl pins s σ H _ I h) fun v s1 zz70=>?_
 obtain ⟨x,H1,I1,r1,q1⟩:=zz70
 obtain ⟨a,e,t,xs,hq,q⟩:=q1
 subst e
 cases r1
 cases t with
 | true=>
  have hq':SqT X.K H1 a xs:=by unfold Sq at hq; rw [if_pos rfl] at hq; exact hq
  obtain ⟨its,rv,p,hz⟩:=I1.tuple hq'
  refine wpAny_pyIter_tuple (show s1.heap.IsTuple a its.toArray from p) ?_
  refine ⟨s1.heap.objs.size,[s1.heap.objs.size],_,Itt X.K a,H1,rfl,I1.kept (t':=s1.toks) fun b o e=>Heap.get?_push_of_some _ e,jw a _,⟨_,Heap.get?_push_size _ rfl,rfl,rfl⟩,fun b hb=>?_,q⟩
  have e:b=s1.heap.objs.size:=by simpa using hb
  subst e
  exact I1.fpOk (Nat.le_refl _) (I1.hok.fresh (Nat.le_refl _))
 | false=>
  have hq':SqL X.K H1 a xs:=by unfold Sq at hq; rw [if_neg Bool.false_ne_true] at hq; exact hq
  obtain ⟨its,rv,p,hz⟩:=I1.list hq'
  refine wpAny_pyIter_list p.isList ?_
  refine ⟨s1.heap.objs.size,[s1.heap.objs.size],_,Itl X.K a,H1,rfl,I1.kept (t':=s1.toks) fun b o e=>Heap.get?_push_of_some _ e,kT a _,⟨_,Heap.get?_push_size _ rfl,rfl,rfl⟩,fun b hb=>?_,q⟩
  have e:b=s1.heap.objs.size:=by simpa using hb
  subst e
  exact I1.fpOk (Nat.le_refl _) (I1.hok.fresh (Nat.le_refl _))
theorem vh:bootBuiltins "bool" = some (.type "bool"):=by decide +kernel
theorem Aj:bootBuiltins "int" = some (.type "int"):=by decide +kernel
theorem jo:bootBuiltins "list" = some (.type "list"):=by decide +kernel
theorem t0:bootBuiltins "tuple" = some (.type "tuple"):=by decide +kernel
theorem Ai:bootBuiltins "str" = some (.type "str"):=by decide +kernel
def tyO:Option HO->Option String
 | some (.lst _)=>some "list"
 | some (.tup _)=>some "tuple"
 | some (.dK _)=>some "dict"
 | _=>none
def tyB (H:Hp):V->Option String
 | .non=>some "NoneType"
 | .bl _=>some "bool"
 | .int _=>some "int"
 | .str _=>some "str"
 | .ref a=>tyO (H a)
 | _=>none
def t5 (A T:String):Option Bool:=
 if A=T then some true else if A = "bool" /\ T = "int" then some true
 else if (A = "NoneType" \/ A = "bool" \/ A = "int" \/ A = "str" \/ A = "list" \/ A = "tuple" \/ A = "dict")/\(T = "bool" \/ T = "int" \/ T = "list" \/ T = "tuple") then some false else none
theorem vI {K:Frag} {H:Hp} {x:V} {A:String} (h:tyB H x=some A):L7 K H x (.type A):=by
 cases x with
 | non=>cases h; exact .non
 | bl _=>cases h; exact .bl _
 | int _=>cases h; exact .int _
 | str _=>cases h; exact .str _
 | ref a=>
  have h:tyO (H a)=some A:=h
  cases e:H a with
  | none=>rw [e] at h; cases h
  | some o=>
   rw [e] at h
   cases o <;> first | (cases h; exact .lst e) | (cases h; exact .tup e) | (cases h; exact .dK e) | cases h
 | _=>cases h
theorem uw {K:Frag} {A T:String} {b:Bool} (h:t5 A T=some b):PySem.W.kitOne K (.type A) (.type T)=some b:=by
 unfold t5 at h
 split at h
 ·rename_i e; subst e; cases h
  unfold PySem.W.kitOne
  rw [if_pos (by simp)]
 ·split at h
  ·rename_i e; obtain ⟨rfl,rfl⟩:=e; cases h; with_unfolding_all rfl
  ·split at h
   ·rename_i h1 h2 e
    obtain ⟨e1,e2⟩:=e
    cases h
    rcases e1 with rfl | rfl | rfl | rfl | rfl | rfl | rfl <;> rcases e2 with rfl | rfl | rfl | rfl <;>
     first | exact absurd rfl h1 | exact absurd ⟨rfl,rfl⟩ h2 | with_unfolding_all rfl
   ·cases h
def rIsi:List V->Hp->VK->Prop:=fun xs H Q=>∃ x T,xs = [x,.ty T]/\∃ A,tyB H x=some A/\∃ b,t5 A T=some b/\Q (.bl b) H
theorem F6:K6 X (.builtin "isinstance") rIsi:=by
 intro pins s σ H xs us Q I r h
 obtain ⟨x,T,rfl,A,ty,b,e,q⟩:=h
 obtain ⟨u,w',rfl,r1,r2⟩:=vals2 r
 have e2:w'=Value.type T:=r2
 subst e2
 exact mV I r1 (vI ty) (uw e) fun tk=>⟨.bl b,H,I.tok tk,rfl,q⟩
end
theorem yu:t5 "bool" "bool" = some true:=by decide
theorem yt:t5 "bool" "int" = some true:=by decide
theorem yr:t5 "int" "bool" = some false:=by decide
theorem yq:t5 "int" "int" = some true:=by decide
theorem ya:t5 "tuple" "tuple" = some true:=by decide
theorem ym:t5 "list" "list" = some true:=by decide
theorem yj:t5 "NoneType" "int" = some false:=by decide
theorem yk:t5 "NoneType" "bool" = some false:=by decide
theorem yf:t5 "str" "int" = some false:=by decide
theorem yg:t5 "str" "bool" = some false:=by decide
theorem yn:t5 "list" "int" = some false:=by decide
theorem yo:t5 "list" "bool" = some false:=by decide
theorem yd:t5 "tuple" "int" = some false:=by decide
theorem ye:t5 "tuple" "bool" = some false:=by decide
theorem aP {n:Nat} {i:Int} (h0:0<=i) (h1:i<n):ixN n i=some i.toNat:=by unfold ixN; rw [if_pos h0,if_pos h1]
theorem mem_getD {ms:List Int} {P:Int->Prop} (h:∀ x∈ms,P x) {i:Nat} (hi:i<ms.length):P (ms.getD i 0):=by
 have:ms.getD i 0=ms[i]:=by simp [hi]
 rw [this]; exact h _ (List.getElem_mem hi)
structure Runs (J:It) (n:Nat) (H1:Hp) (Y:Nat->V->Hp->Hp->Prop):Prop where
 go:∀ i H,i<n->Same H1 H->J.go i H
 stop:∀ H,Same H1 H->J.stop n H
 yld:∀ i H x H',i<n->Same H1 H->J.yld i H x H'->Y i x H H'
theorem lE {K:Frag} {t u:Bool} {a b:Addr} {xs ys:List V} {H1:Hp} (h:Sq K H1 t a xs) (h':Sq K H1 u b ys) :
  Runs (ItZ K [(t,a),(u,b)]) (min xs.length ys.length) H1 fun i x H H'=>∃ p y z,x=.ref p/\H p=none/\H'=upd H p (.tup [y,z])/\xs[i]?=some y/\ys[i]?=some z:=by
 refine ⟨fun i H hi s v hv=>?_,fun H s=>⟨fun v hv=>?_,?_⟩,fun i H x H' hi s hy=>?_⟩
 ·simp only [List.mem_cons,List.not_mem_nil,or_false] at hv
  rcases hv with rfl | rfl
  ·exact ⟨xs,xs[i]'(Nat.lt_of_lt_of_le hi (Nat.min_le_left _ _)),Sq.same s h,by simp⟩
  ·exact ⟨ys,ys[i]'(Nat.lt_of_lt_of_le hi (Nat.min_le_right _ _)),Sq.same s h',by simp⟩
 ·simp only [List.mem_cons,List.not_mem_nil,or_false] at hv
  rcases hv with rfl | rfl
  ·exact ⟨xs,Sq.same s h⟩
  ·exact ⟨ys,Sq.same s h'⟩
 ·rcases Nat.le_total xs.length ys.length with q | q
  ·exact ⟨(t,a),by simp,xs,Sq.same s h,by omega⟩
  ·exact ⟨(u,b),by simp,ys,Sq.same s h',by omega⟩
 ·obtain ⟨p,zs,e1,e2,e3,pr⟩:=hy
  cases pr with
  | cons r1 pr=>
   cases pr with
   | cons r2 pr=>
    cases pr
    exact ⟨p,_,_,e1,e2,e3,r1 xs (Sq.same s h),r2 ys (Sq.same s h')⟩
theorem lD {K:Frag} {t u w:Bool} {a b c:Addr} {xs ys zs:List V} {H1:Hp} (h:Sq K H1 t a xs) (h':Sq K H1 u b ys) (h'':Sq K H1 w c zs) :
  Runs (ItZ K [(t,a),(u,b),(w,c)]) (min xs.length (min ys.length zs.length)) H1 fun i x H H'=>∃ p y z v,x=.ref p/\H p=none/\H'=upd H p (.tup [y,z,v])/\xs[i]?=some y/\ys[i]?=some z/\zs[i]?=some v:=by
 refine ⟨fun i H hi s v hv=>?_,fun H s=>⟨fun v hv=>?_,?_⟩,fun i H x H' hi s hy=>?_⟩
 ·simp only [List.mem_cons,List.not_mem_nil,or_false] at hv
  rcases hv with rfl | rfl | rfl
  ·exact ⟨xs,xs[i]'(Nat.lt_of_lt_of_le hi (Nat.min_le_left _ _)),Sq.same s h,by simp⟩
  ·exact ⟨ys,ys[i]'(Nat.lt_of_lt_of_le hi (Nat.le_trans (Nat.min_le_right _ _) (Nat.min_le_left _ _))),Sq.same s h',by simp⟩
  ·exact ⟨zs,zs[i]'(Nat.lt_of_lt_of_le hi (Nat.le_trans (Nat.min_le_right _ _) (Nat.min_le_right _ _))),Sq.same s h'',by simp⟩
 ·simp only [List.mem_cons,List.not_mem_nil,or_false] at hv
  rcases hv with rfl | rfl | rfl
  ·exact ⟨xs,Sq.same s h⟩
  ·exact ⟨ys,Sq.same s h'⟩
  ·exact ⟨zs,Sq.same s h''⟩
 ·have:min xs.length (min ys.length zs.length)=xs.length\/min xs.length (min ys.length zs.length)=ys.length\/min xs.length (min ys.length zs.length)=zs.length:=by omega
  rcases this with q | q | q
  ·exact ⟨(t,a),by simp,xs,Sq.same s h,by omega⟩
  ·exact ⟨(u,b),by simp,ys,Sq.same s h',by omega⟩
  ·exact ⟨(w,c),by simp,zs,Sq.same s h'',by omega⟩
 ·obtain ⟨p,vs,e1,e2,e3,pr⟩:=hy
  cases pr with
  | cons r1 pr=>
   cases pr with
   | cons r2 pr=>
    cases pr with
    | cons r3 pr=>
     cases pr
     exact ⟨p,_,_,_,e1,e2,e3,r1 xs (Sq.same s h),r2 ys (Sq.same s h'),r3 zs (Sq.same s h'')⟩
structure Def (K:Frag) (mg:Str->Option Value) (x:Str) (st:Stmt) (ps:List Str) (f:Addr) (fd:FuncData):Prop where
 F:Fun K x x st f fd
 m:mg x=some (.ref f)
 b:Binds K fd ps []
section
variable {X:Cx}
theorem v8 (K:Frag) {es:List Expr} {pos:Pos} {k:Nat} {t:TGs} (n:Nat) (hc:X.calm=true) (h:PGs X es t) (hK:X.K=K:=by rfl)
  (hn:(assignEach es X.env).length=n:=by rfl) (hst:(assignEach es X.env).findIdx? (·.1)=none:=by rfl):PG X (.Tuple es k pos) (ke K n t):=by subst hK; exact xw hc h hn hst
def ou (to:TE) (te:TE):TE:=fun σ H Q=>to σ H fun x H1=>∃ p,x=.ref p/\(∃ xs,H1 p=some (.lst xs))/\te σ H1 fun y H2=>match H2 p with
 | some (.lst xs)=>xs.length<sizeLine/\Q .non (upd H2 p (.lst (xs ++ [y])))
 | _=>False
theorem dR {o e:Expr} {to te:TE} {apos cpos:Pos} (ho:PE X o to) (ha:PE X e te)
  (hbase:attributeBase o "append" X.env (eval o X.env)=eval o X.env:=by rfl)
  (hfew:((backTo cpos (starEach [e] X.env)).all (fun x=>!x.1)&&(backToKw cpos (keywordEach [] X.env)).all (fun x=>x.1.isSome)
   && decide (([e]:List Expr).length+([]:List Keyword).length+(if ([]:List Keyword).isEmpty then 0 else 1)<30))=true:=by rfl)
  (hline:(apos.endLine == cpos.line)=true:=by rfl) (hs:starEach [e] X.env=(false,eval e X.env)::starEach [] X.env:=by rfl):PE X (.Call (.Attribute o "append" apos) [e] [] cpos) (ou to te):=by
 intro pins s σ H Q I h
 refine wpAny_Call_method_late hbase hfew hline rfl (thn (ho pins s σ H _ I h) fun v s1 zz71=>?_)
 obtain ⟨x,H1,I1,r1,p,ex,⟨xs,e1⟩,q1⟩:=zz71
 subst ex
 obtain ⟨h1,h2⟩:=kS (T := "list") I1 r1 (.inl ⟨rfl,xs,SqL.of e1⟩)
 refine ⟨"list", "list.append",PySem.F.plainAttrs_list,PySem.F.slot_list_append,PySem.F.type_list_append,h1,h2,?_⟩
 have hA:=iN ha pa_nil hs cpos pins s1 σ H1 (fun vs H2=>∃ y,vs = [y]/\match H2 p with
  | some (.lst xs)=>xs.length<sizeLine/\Q .non (upd H2 p (.lst (xs ++ [y])))
  | _=>False) I1 (by
   have e:(fun (y:V) (H2:Hp)=>match H2 p with
     | some (.lst xs)=>xs.length<sizeLine/\Q .non (upd H2 p (.lst (xs ++ [y])))
     | _=>False)=fun (y:V) (H2:Hp)=>∃ y',[y] = [y']/\match H2 p with
     | some (.lst xs)=>xs.length<sizeLine/\Q .non (upd H2 p (.lst (xs ++ [y'])))
     | _=>False:=by
    funext y H2
    exact propext ⟨fun q=>⟨y,rfl,q⟩,fun zz72=>by obtain ⟨y',e,q⟩:=zz72; cases e; exact q⟩
   rw [e] at q1
   exact q1)
 rw [hs] at hA ⊢
 refine Calls.callWith_builtin rfl (Calls.evalArgs_plain ?_)
 refine thn hA fun us s2 zz73=>?_
 obtain ⟨vs,H2,I2,r2,y,ev,q2⟩:=zz73
 subst ev
 refine ae pins s2 σ H2 (.ref p) [y] v us Q I2 r1 r2 ?_
 split at q2
 ·rename_i ys e2; exact ⟨p,ys,y,rfl,rfl,e2,q2.1,q2.2⟩
 ·exact q2.elim
end
def oT (K:Frag):V->Option Int->Option Int->Hp->VK->Prop:=fun x lo hi H Q=>∃ p,x=.ref p/\∃ xs,SqL K H p xs/\∀ l,H l=none->Q (.ref l) (upd H l (.lst (X4 xs lo hi)))
section
variable {X:Cx}
end
def rW (i j:Int):Prop:=0<=j/\(Builtin.Int.intBits i:Int)*j<=2^27
theorem Y9 {ns:List Int} {i:Nat} (h:i<ns.length):ns[i]?=some (ns.getD i 0):=by rw [List.getD_eq_getElem?_getD]; simp [h]
end L2
namespace TP
open PySem L2
inductive W where
 | non | bl (b:Bool) | int (i:Int) | str (x:Str) | ty (n:String) | tup (ws:List W) | lst (ws:List W) | scr (ws:List W)
 | exc (c:Str) (i:Option Int) | cls (c:Str)
def XD (F:Hp) (od:Option Addr):Option Int->Prop
 | none=>od=none
 | some i=>∃ d,od=some d/\F d=some (.xd [("at",.int i)])
mutual
inductive Rep (K:Frag) (F:Hp):V->W->Prop where
 | non:Rep K F .non .non
 | bl {b:Bool}:Rep K F (.bl b) (.bl b)
 | int {i:Int}:Rep K F (.int i) (.int i)
 | str {x:Str}:Rep K F (.str x) (.str x)
 | ty {n:String}:Rep K F (.ty n) (.ty n)
 | tup {a:Addr} {vs:List V} {ws:List W}:F a=some (.tup vs)->Reps K F vs ws->Rep K F (.ref a) (.tup ws)
 | lst {a:Addr} {vs:List V} {ws:List W}:F a=some (.lst vs)->Reps K F vs ws->Rep K F (.ref a) (.lst ws)
 | scr {a:Addr} {vs:List V} {ws:List W}:SqL K F a vs->Reps K F vs ws->Rep K F (.ref a) (.scr ws)
 | exc {a C:Addr} {o:Obj} {vs:Array Value} {c:Str} {i:Option Int}:F a=some (.ext fun h=>h.get? a=some o)->o.cls=.ref C->o.data=.fields vs->PySem.W.nsIn K mainGlobals c=some (some (.ref C))->XD F o.dict i->Rep K F (.ref a) (.exc c i)
 | cls {C:Addr} {c:Str}:PySem.W.nsIn K mainGlobals c=some (some (.ref C))->Rep K F (.ref C) (.cls c)
inductive Reps (K:Frag) (F:Hp):List V->List W->Prop where
 | nil:Reps K F [] []
 | cons {v:V} {w:W} {vs:List V} {ws:List W}:Rep K F v w->Reps K F vs ws->Reps K F (v::vs) (w::ws)
end
section
variable {K:Frag} {F F':Hp}
theorem oz {a:Addr} {xs:List V} (e:Same F F') (h:SqT K F a xs):SqT K F' a xs:=by
 rcases h with (h | ⟨o,h⟩) | h
 ·exact .inl (.inl (e _ _ h))
 ·exact .inl (.inr ⟨o,e _ _ h⟩)
 ·exact .inr h
theorem XD.same (e:Same F F') {od:Option Addr}:∀ {i:Option Int},XD F od i->XD F' od i:=by
 intro i h
 cases i with
 | none=>exact h
 | some _=>obtain ⟨d,h1,h2⟩:=h; exact ⟨d,h1,e _ _ h2⟩
theorem Rep.same (e:Same F F') {v:V} {w:W} (r:Rep K F v w):Rep K F' v w:=
 @Rep.rec K F (fun v w _=>Rep K F' v w) (fun vs ws _=>Reps K F' vs ws) .non .bl .int .str .ty (fun h _ r=>.tup (e _ _ h) r) (fun h _ r=>.lst (e _ _ h) r) (fun h _ r=>.scr (Same.seq e h) r) (fun h1 h2 h3 h4 h5=>.exc (e _ _ h1) h2 h3 h4 (XD.same e h5)) (fun h=>.cls h) .nil (fun _ _ a b=>.cons a b) v w r
theorem Reps.same (e:Same F F') {vs:List V} {ws:List W} (r:Reps K F vs ws):Reps K F' vs ws:=
 @Reps.rec K F (fun _ _ _=>True) (fun vs ws _=>Reps K F' vs ws) trivial trivial trivial trivial trivial (fun _ _ _=>trivial) (fun _ _ _=>trivial) (fun _ _ _=>trivial) (fun _ _ _ _ _=>trivial) (fun _=>trivial) .nil (fun h _ _ b=>.cons (Rep.same e h) b) vs ws r
theorem Reps.ind {P:List V->List W->Prop} (h0:P [] []) (h1:∀ {v:V} {w:W} {vs:List V} {ws:List W},Rep K F v w->Reps K F vs ws->P vs ws->P (v::vs) (w::ws)) {vs:List V} {ws:List W} (r:Reps K F vs ws):P vs ws:=
 @Reps.rec K F (fun _ _ _=>True) (fun vs ws _=>P vs ws) trivial trivial trivial trivial trivial (fun _ _ _=>trivial) (fun _ _ _=>trivial) (fun _ _ _=>trivial) (fun _ _ _ _ _=>trivial) (fun _=>trivial) h0 (fun h r _ b=>h1 h r b) vs ws r
def Au (K:Frag) (F:Hp) (v:V):W->Prop
 | .non=>v=.non
 | .bl b=>v=.bl b
 | .int i=>v=.int i
 | .str x=>v=.str x
 | .ty n=>v=.ty n
 | .tup ws=>∃ a vs,v=.ref a/\F a=some (.tup vs)/\Reps K F vs ws
 | .lst ws=>∃ a vs,v=.ref a/\F a=some (.lst vs)/\Reps K F vs ws
 | .scr ws=>∃ a vs,v=.ref a/\SqL K F a vs/\Reps K F vs ws
 | .exc _ _=>True
 | .cls _=>True
theorem Rep.inv {v:V} {w:W} (r:Rep K F v w):Au K F v w:=
 @Rep.rec K F (fun v w _=>Au K F v w) (fun _ _ _=>True) rfl rfl rfl rfl rfl (fun h r _=>⟨_,_,rfl,h,r⟩) (fun h r _=>⟨_,_,rfl,h,r⟩) (fun h r _=>⟨_,_,rfl,h,r⟩) (fun _ _ _ _ _=>trivial) (fun _=>trivial) trivial (fun _ _ _ _=>trivial) v w r
def RepsI (K:Frag) (F:Hp) (vs:List V):List W->Prop
 | []=>vs = []
 | w::ws=>∃ v us,vs=v::us/\Rep K F v w/\Reps K F us ws
theorem Reps.length {vs:List V} {ws:List W} (r:Reps K F vs ws):vs.length=ws.length:=
 Reps.ind (P:=fun vs ws=>vs.length=ws.length) rfl (fun _ _ h=>congrArg (·+1) h) r
theorem Reps.get {vs:List V} {ws:List W} {i:Nat} {w:W} (r:Reps K F vs ws):ws[i]?=some w->∃ v,vs[i]?=some v/\Rep K F v w:=
 Reps.ind (P:=fun vs ws=>∀ (i:Nat) (w:W),ws[i]?=some w->∃ v,vs[i]?=some v/\Rep K F v w) (fun i w e=>by cases e) (fun h _ b i w e=>by
  cases i with
  | zero=>cases e; exact ⟨_,rfl,h⟩
  | succ i=>exact b i w e) r i w
theorem Reps.get' {vs:List V} {ws:List W} {i:Nat} {v:V} (r:Reps K F vs ws):vs[i]?=some v->∃ w,ws[i]?=some w/\Rep K F v w:=
 Reps.ind (P:=fun vs ws=>∀ (i:Nat) (v:V),vs[i]?=some v->∃ w,ws[i]?=some w/\Rep K F v w) (fun i w e=>by cases e) (fun h _ b i w e=>by
  cases i with
  | zero=>cases e; exact ⟨_,rfl,h⟩
  | succ i=>exact b i w e) r i v
theorem Reps.append {vs us:List V} {ws xs:List W} (r:Reps K F vs ws) (s:Reps K F us xs):Reps K F (vs++us) (ws++xs):=
 Reps.ind (P:=fun vs ws=>Reps K F (vs++us) (ws++xs)) s (fun h _ b=>.cons h b) r
theorem Reps.take {vs:List V} {ws:List W} (n:Nat) (r:Reps K F vs ws):Reps K F (vs.take n) (ws.take n):=
 Reps.ind (P:=fun vs ws=>∀ n,Reps K F (vs.take n) (ws.take n)) (fun n=>by simpa using .nil) (fun h _ b n=>by
  cases n with
  | zero=>exact .nil
  | succ n=>exact .cons h (b n)) r n
theorem Reps.drop {vs:List V} {ws:List W} (n:Nat) (r:Reps K F vs ws):Reps K F (vs.drop n) (ws.drop n):=
 Reps.ind (P:=fun vs ws=>∀ n,Reps K F (vs.drop n) (ws.drop n)) (fun n=>by simpa using .nil) (fun h r b n=>by
  cases n with
  | zero=>exact .cons h r
  | succ n=>exact b n) r n
theorem Reps.reverse {vs:List V} {ws:List W} (r:Reps K F vs ws):Reps K F vs.reverse ws.reverse:=by
 induction r using Reps.rec (motive_1:=fun _ _ _=>True) with
 | nil=>exact .nil
 | cons h _ _ ih=>rw [List.reverse_cons,List.reverse_cons]; exact Reps.append ih (.cons h .nil)
 | _=>trivial
theorem Reps.set {v:V} {w:W} (h:Rep K F v w) {vs:List V} {ws:List W} (i:Nat) (r:Reps K F vs ws):Reps K F (vs.set i v) (ws.set i w):=
 Reps.ind (P:=fun vs ws=>∀ i,Reps K F (vs.set i v) (ws.set i w)) (fun _=>.nil) (fun q t b i=>by
  cases i with
  | zero=>exact .cons h t
  | succ i=>exact .cons q (b i)) r i
theorem Reps.snoc {vs:List V} {ws:List W} {v:V} {w:W} (r:Reps K F vs ws) (h:Rep K F v w):Reps K F (vs ++ [v]) (ws ++ [w]):=r.append (.cons h .nil)
end
mutual
def noL:W->Bool
 | .lst _=>false
 | .scr _=>false
 | .tup ws=>g4 ws
 | _=>true
def g4:List W->Bool
 | []=>true
 | w::ws=>noL w&&g4 ws
end
def isL:HO->Bool
 | .lst _=>true
 | .dT _=>true
 | .dK _=>true
 | .frz _ (.lst _)=>true
 | _=>false
def join (H0 G:Hp):Hp:=fun a=>match H0 a with
 | some o=>if isL o then some o else G a
 | none=>G a
inductive Sl where
 | un | val (w:W) | par (w:W) | own (ws:List W) | dic (ks:List (List Int)) | dik (ks:List Int) | iop (p:Addr) (ws:List W) | hz (w:W)
abbrev Rho:=List Sl
def noLG (G:Hp):Hp:=fun a=>match G a with
 | some o=>if isL o then none else some o
 | none=>none
theorem M6 {G G':Hp} (h:Same G G'):Same (noLG G) (noLG G'):=fun a o e=>by
 unfold noLG at e ⊢
 cases q:G a with
 | none=>rw [q] at e; cases e
 | some u=>rw [q] at e; rw [h a u q]; exact e
theorem P6 {G:Hp}:Same (noLG G) G:=fun a o e=>by
 unfold noLG at e
 cases q:G a with
 | none=>rw [q] at e; cases e
 | some u=>
  rw [q] at e
  dsimp only at e
  cases hl:isL u
  ·rw [hl] at e; exact e
  ·rw [hl] at e; cases e
def SlR (K:Frag) (H0 G H:Hp):Sl->Option V->Prop
 | .un,_=>True
 | .val w,o=>∃ v,o=some v/\Rep K G v w
 | .par w,o=>∃ v,o=some v/\Rep K (join H0 G) v w
 | .own ws,o=>∃ a vs,o=some (.ref a)/\H a=some (.lst vs)/\G a=none/\H0 a=none/\Reps K G vs ws
 | .dic ks,o=>∃ (a:Addr) (kvs:List (List Key×V)),o=some (.ref a)/\H a=some (.dT kvs)/\G a=none/\H0 a=none/\kvs.map (·.1)=ks.map fun k=>k.map Sum.inl
 | .dik ks,o=>∃ (a:Addr) (kvs:List (Key×V)),o=some (.ref a)/\H a=some (.dK kvs)/\G a=none/\H0 a=none/\kvs.map (·.1)=ks.map Sum.inl
 | .iop p ws,o=>o=some (.ref p)/\∃ vs,H0 p=some (.lst vs)/\Reps K G vs ws
 | .hz w,o=>∃ v,o=some v/\Rep K (join H0 (noLG G)) v w
structure PIv (K:Frag) (H0 G:Hp) (ρ:Rho) (σ:St) (H:Hp):Prop where
 g0:∀ a o,H0 a=some o->isL o=false->G a=some o
 gl:∀ a o,H0 a=some o->isL o=true->G a=none
 gh:Same G H
 hh:Same H0 H
 len:ρ.length=σ.length
 sl:∀ (i:Nat) (x:Sl) (o:Option V),ρ[i]?=some x->σ[i]?=some o->SlR K H0 G H x o
 ne:∀ (i j:Nat) (ws us:List W) (a:Addr),i≠j->ρ[i]?=some (.own ws)->ρ[j]?=some (.own us)->σ[i]?=some (some (.ref a))->σ[j]?≠some (some (.ref a))
structure Ext (G H G' H':Hp):Prop where
 gg:Same G G'
 hh:Same H H'
 gh:Same G' H'
 keep:∀ a o,H a=some o->isL o=true->G a=none->G' a=none
theorem Ext.refl {G H:Hp} (h:Same G H):Ext G H G H:=⟨Same.refl G,Same.refl H,h,fun _ _ _ _ e=>e⟩
theorem Ext.trans {G H G1 H1 G2 H2:Hp} (a:Ext G H G1 H1) (b:Ext G1 H1 G2 H2):Ext G H G2 H2:=
 ⟨a.gg.trans b.gg,a.hh.trans b.hh,b.gh,fun x o h l e=>b.keep x o (a.hh x o h) l (a.keep x o h l e)⟩
section
variable {K:Frag} {H0 G H G' H':Hp} {ρ:Rho} {σ:St}
theorem o6 (h:Same G G'):Same (join H0 G) (join H0 G'):=fun a o e=>by
 unfold join at e ⊢
 cases q:H0 a with
 | none=>rw [q] at e; exact h a o e
 | some u=>
  rw [q] at e
  dsimp only at e ⊢
  by_cases hl:isL u=true
  ·rw [if_pos hl] at e ⊢; exact e
  ·rw [if_neg hl] at e ⊢; exact h a o e
theorem PIv.G_join (I:PIv K H0 G ρ σ H):Same G (join H0 G):=fun a o e=>by
 unfold join
 cases q:H0 a with
 | none=>exact e
 | some u=>
  dsimp only
  by_cases hl:isL u=true
  ·rw [I.gl a u q hl] at e; cases e
  ·rw [if_neg hl]; exact e
theorem PIv.join_H (I:PIv K H0 G ρ σ H):Same (join H0 G) H:=fun a o e=>by
 unfold join at e
 cases q:H0 a with
 | none=>rw [q] at e; exact I.gh a o e
 | some u=>
  rw [q] at e
  dsimp only at e
  by_cases hl:isL u=true
  ·rw [if_pos hl] at e; cases e; exact I.hh a _ q
  ·rw [if_neg hl] at e; exact I.gh a o e
theorem PIv.ext (I:PIv K H0 G ρ σ H) (x:Ext G H G' H'):PIv K H0 G' ρ σ H' where
 g0 a o e l:=x.gg a o (I.g0 a o e l)
 gl a o e l:=x.keep a o (I.hh a o e) l (I.gl a o e l)
 gh:=x.gh
 hh:=I.hh.trans x.hh
 len:=I.len
 sl i s o h1 h2:=by
  have:=I.sl i s o h1 h2
  cases s with
  | un=>trivial
  | val w=>obtain ⟨v,e,r⟩:=this; exact ⟨v,e,r.same x.gg⟩
  | par w=>obtain ⟨v,e,r⟩:=this; exact ⟨v,e,r.same (o6 x.gg)⟩
  | own ws=>
   obtain ⟨a,vs,e,h,g,h0,r⟩:=this
   exact ⟨a,vs,e,x.hh a _ h,x.keep a _ h rfl g,h0,r.same x.gg⟩
  | dic ks=>
   obtain ⟨a,kvs,e,h,g,h0,r⟩:=this
   exact ⟨a,kvs,e,x.hh a _ h,x.keep a _ h rfl g,h0,r⟩
  | dik ks=>
   obtain ⟨a,kvs,e,h,g,h0,r⟩:=this
   exact ⟨a,kvs,e,x.hh a _ h,x.keep a _ h rfl g,h0,r⟩
  | iop p ws=>
   obtain ⟨e,vs,h,r⟩:=this
   exact ⟨e,vs,h,r.same x.gg⟩
  | hz w=>obtain ⟨v,e,r⟩:=this; exact ⟨v,e,r.same (o6 (M6 x.gg))⟩
 ne:=I.ne
theorem bE {a:Addr} {o:HO} (h:join H0 G a=some o) (l:isL o=false):G a=some o:=by
 unfold join at h
 cases q:H0 a with
 | none=>rw [q] at h; exact h
 | some u=>
  rw [q] at h
  dsimp only at h
  by_cases hl:isL u=true
  ·rw [if_pos hl] at h; cases h; rw [hl] at l; cases l
  ·rw [if_neg hl] at h; exact h
theorem XD.clean {od:Option Addr}:∀ {i:Option Int},XD (join H0 G) od i->XD G od i
 | none,h=>h
 | some _,⟨d,h1,h2⟩=>⟨d,h1,bE h2 rfl⟩
theorem Rep.clean (I:PIv K H0 G ρ σ H) {v:V} {w:W} (r:Rep K (join H0 G) v w):noL w=true->Rep K G v w:=
 @Rep.rec K (join H0 G) (fun v w _=>noL w=true->Rep K G v w) (fun vs ws _=>g4 ws=true->Reps K G vs ws) (fun _=>.non) (fun _=>.bl) (fun _=>.int) (fun _=>.str) (fun _=>.ty)
  (fun h _ r n=>.tup (bE h rfl) (r n)) (fun _ _ _ n=>by cases n) (fun _ _ _ n=>by cases n) (fun h1 h2 h3 h4 h5 _=>.exc (bE h1 rfl) h2 h3 h4 (XD.clean h5)) (fun h _=>.cls h) (fun _=>.nil)
  (fun _ _ a b n=>by rw [g4,Bool.and_eq_true] at n; exact .cons (a n.1) (b n.2)) v w r
theorem Reps.clean (I:PIv K H0 G ρ σ H) {vs:List V} {ws:List W} (r:Reps K (join H0 G) vs ws):g4 ws=true->Reps K G vs ws:=
 @Reps.rec K (join H0 G) (fun _ _ _=>True) (fun vs ws _=>g4 ws=true->Reps K G vs ws) trivial trivial trivial trivial trivial (fun _ _ _=>trivial) (fun _ _ _=>trivial) (fun _ _ _=>trivial) (fun _ _ _ _ _=>trivial) (fun _=>trivial) (fun _=>.nil)
  (fun h _ _ b n=>by rw [g4,Bool.and_eq_true] at n; exact .cons (Rep.clean I h n.1) (b n.2)) vs ws r
end
structure XW where
 cls:Str
 at_:Option Int
inductive R (α:Type) where
 | ok (a:α) | ex (e:XW) | stuck
def R.bind {α β:Type} (x:R α) (f:α->R β):R β:=match x with
 | .ok a=>f a
 | .ex e=>.ex e
 | .stuck=>.stuck
instance:Monad R where
 pure:=R.ok
 bind:=R.bind
@[simp] theorem R.ok_bind {α β:Type} (a:α) (f:α->R β):((R.ok a:R α)>>=f)=f a:=rfl
@[simp] theorem R.stuck_bind {α β:Type} (f:α->R β):((R.stuck:R α)>>=f)=.stuck:=rfl
@[simp] theorem R.ex_bind {α β:Type} (e:XW) (f:α->R β):((R.ex e:R α)>>=f)=.ex e:=rfl
@[simp] theorem R.pure_eq {α:Type} (a:α):(pure a:R α)=.ok a:=rfl
inductive Mode where
 | F | V | U | C | B
def Md (K:Frag) (H0 H G' H':Hp) (v:V) (w:W):Mode->Prop
 | .V=>Rep K G' v w
 | .U=>Rep K (join H0 G') v w
 | .F=>match w with
  | .lst ws=>∃ a vs,v=.ref a/\H' a=some (.lst vs)/\G' a=none/\H a=none/\Reps K G' vs ws
  | w=>Rep K G' v w
 | .C=>Rep K G' v w\/∃ a vs ws,v=.ref a/\w=.lst ws/\H' a=some (.lst vs)/\Reps K G' vs ws
 | .B=>Rep K (join H0 G') v w\/∃ a vs ws,v=.ref a/\w=.lst ws/\H' a=some (.lst vs)/\Reps K G' vs ws
abbrev EXT:=XW->Hp->Prop
def Out {α β:Type} (EX:EXT) (G H:Hp) (md:α->β->Hp->Hp->Prop) (r:R α) (Q:β->Hp->Prop):Prop:=match r with
 | .ok w=>∀ v G' H',Ext G H G' H'->md w v G' H'->Q v H'
 | .ex e=>∀ H',Same H H'->EX e H'
 | .stuck=>False
abbrev mdW (K:Frag) (d:Mode) (H0 H:Hp):W->V->Hp->Hp->Prop:=fun w v G' H'=>Md K H0 H G' H' v w d
abbrev mdB:Bool->Bool->Hp->Hp->Prop:=fun b c _ _=>c=b
inductive MdA (K:Frag) (d:Mode) (H0 H G' H':Hp):List W->List V->Prop where
 | nil:MdA K d H0 H G' H' [] []
 | cons {w:W} {v:V} {ws:List W} {vs:List V}:Md K H0 H G' H' v w d->MdA K d H0 H G' H' ws vs->MdA K d H0 H G' H' (w::ws) (v::vs)
def MdAI (K:Frag) (d:Mode) (H0 H G' H':Hp) (vs:List V):List W->Prop
 | []=>vs = []
 | w::ws=>∃ v us,vs=v::us/\Md K H0 H G' H' v w d/\MdA K d H0 H G' H' ws us
abbrev mdA (K:Frag) (d:Mode) (H0 H:Hp):List W->List V->Hp->Hp->Prop:=fun ws vs G' H'=>MdA K d H0 H G' H' ws vs
def tM (K:Frag) (EX:EXT) (d:Mode) (m:Rho->R W):TE:=fun σ H Q=>∃ H0 G ρ,PIv K H0 G ρ σ H/\Out EX G H (mdW K d H0 H) (m ρ) Q
def tT (K:Frag) (EX:EXT) (m:Rho->R Bool):TT:=fun σ H Q=>∃ H0 G ρ,PIv K H0 G ρ σ H/\Out EX G H mdB (m ρ) Q
def tA (K:Frag) (EX:EXT) (d:Mode) (m:Rho->R (List W)):TA:=fun σ H Q=>∃ H0 G ρ,PIv K H0 G ρ σ H/\Out EX G H (mdA K d H0 H) (m ρ) Q
section
variable {K:Frag} {EX:EXT} {H0 G H G1 H1 G2 H2:Hp} {ρ:Rho} {σ:St}
theorem Out.bind {α β γ δ:Type} {md:α->β->Hp->Hp->Prop} {md':γ->δ->Hp->Hp->Prop} {m:R α} {k:α->R γ} {Q:δ->Hp->Prop} {Q1:β->Hp->Prop} (o:Out EX G H md' (m>>=k) Q)
  (h:∀ x G1 H1 w,Ext G H G1 H1->md w x G1 H1->Out EX G1 H1 md' (k w) Q->Q1 x H1):Out EX G H md m Q1:=by
 cases m with
 | ok w=>
  intro v G' H' e d
  refine h v G' H' w e d ?_
  rw [R.ok_bind] at o
  revert o
  cases k w with
  | ok u=>exact fun o v2 G2 H2 e2 d2=>o v2 G2 H2 (e.trans e2) d2
  | ex x=>exact fun o H2 s2=>o H2 (e.hh.trans s2)
  | stuck=>exact fun o=>o
 | ex x=>exact o
 | stuck=>exact o
theorem Md.start {v:V} {w:W} {d:Mode} (s:Same H H1) (h:Md K H0 H1 G2 H2 v w d):Md K H0 H G2 H2 v w d:=by
 cases d with
 | F=>
  cases w with
  | lst ws=>obtain ⟨a,vs,e,h1,h2,h3,r⟩:=h; exact ⟨a,vs,e,h1,h2,s.free h3,r⟩
  | _=>exact h
 | _=>exact h
theorem Md.move {v:V} {w:W} {d:Mode} (x:Ext G1 H1 G2 H2) (h:Md K H0 H G1 H1 v w d):Md K H0 H G2 H2 v w d:=by
 cases d with
 | V=>exact Rep.same x.gg h
 | U=>exact Rep.same (o6 x.gg) h
 | F=>
  cases w with
  | lst ws=>obtain ⟨a,vs,e,h1,h2,h3,r⟩:=h; exact ⟨a,vs,e,x.hh _ _ h1,x.keep _ _ h1 rfl h2,h3,r.same x.gg⟩
  | non=>exact Rep.same x.gg h
  | bl _=>exact Rep.same x.gg h
  | int _=>exact Rep.same x.gg h
  | str _=>exact Rep.same x.gg h
  | ty _=>exact Rep.same x.gg h
  | tup _=>exact Rep.same x.gg h
  | scr _=>exact Rep.same x.gg h
  | exc _ _=>exact Rep.same x.gg h
  | cls _=>exact Rep.same x.gg h
 | C=>
  rcases h with h | ⟨a,vs,ws,e,e2,h1,r⟩
  ·exact .inl (h.same x.gg)
  ·exact .inr ⟨a,vs,ws,e,e2,x.hh _ _ h1,r.same x.gg⟩
 | B=>
  rcases h with h | ⟨a,vs,ws,e,e2,h1,r⟩
  ·exact .inl (h.same (o6 x.gg))
  ·exact .inr ⟨a,vs,ws,e,e2,x.hh _ _ h1,r.same x.gg⟩
theorem Md.CB {v:V} {w:W} (I:PIv K H0 G1 ρ σ H1) (h:Md K H0 H G1 H1 v w .C):Md K H0 H G1 H1 v w .B:=by
 rcases h with h | h
 ·exact .inl (h.same I.G_join)
 ·exact .inr h
def sca:W->Bool
 | .tup _=>false
 | .scr _=>false
 | .lst _=>false
 | _=>true
theorem Md.sca {v:V} {w:W} (hs:sca w=true) (r:∀ F,Rep K F v w) (d:Mode):Md K H0 H G1 H1 v w d:=by
 cases d with
 | V=>exact r _
 | U=>exact r _
 | C=>exact .inl (r _)
 | B=>exact .inl (r _)
 | F=>cases w <;> first | exact r _ | cases hs
theorem Md.repB {v:V} {w:W} (h:Md K H0 H G1 H1 v w .B) (n:∀ us,w≠.lst us):Rep K (join H0 G1) v w:=Or.elim h id fun zz74=>by obtain ⟨_,_,us,_,e,_⟩:=zz74; exact absurd e (n us)
theorem Md.repC {v:V} {w:W} (h:Md K H0 H G1 H1 v w .C) (n:∀ us,w≠.lst us):Rep K G1 v w:=Or.elim h id fun zz75=>by obtain ⟨_,_,us,_,e,_⟩:=zz75; exact absurd e (n us)
theorem Md.lstB {v:V} {ws:List W} (I:PIv K H0 G1 ρ σ H1) (h:Md K H0 H G1 H1 v (.lst ws) .B):∃ a vs,v=.ref a/\H1 a=some (.lst vs)/\Reps K (join H0 G1) vs ws:=by
 rcases h with h | ⟨a,vs,us,e,e2,h1,r⟩
 ·obtain ⟨a,vs,e,s,r⟩:=h.inv; exact ⟨a,vs,e,I.join_H _ _ s,r⟩
 ·rw [W.lst.inj e2]; exact ⟨a,vs,e,h1,r.same I.G_join⟩
theorem Md.scrB {v:V} {ws:List W} (I:PIv K H0 G1 ρ σ H1) (h:Md K H0 H G1 H1 v (.scr ws) .B):∃ a vs,v=.ref a/\SqL K H1 a vs/\Reps K (join H0 G1) vs ws:=by
 obtain ⟨a,vs,e,s,r⟩:=(h.repB fun _=>W.noConfusion).inv; exact ⟨a,vs,e,Same.seq I.join_H s,r⟩
theorem Md.lstC {v:V} {ws:List W} (I:PIv K H0 G1 ρ σ H1) (h:Md K H0 H G1 H1 v (.lst ws) .C):∃ a vs,v=.ref a/\H1 a=some (.lst vs)/\Reps K G1 vs ws:=by
 rcases h with h | ⟨a,vs,us,e,e2,h1,r⟩
 ·obtain ⟨a,vs,e,s,r⟩:=h.inv; exact ⟨a,vs,e,I.gh _ _ s,r⟩
 ·rw [W.lst.inj e2]; exact ⟨a,vs,e,h1,r⟩
theorem Md.tupB {v:V} {ws:List W} (I:PIv K H0 G1 ρ σ H1) (h:Md K H0 H G1 H1 v (.tup ws) .B):∃ a vs,v=.ref a/\H1 a=some (.tup vs)/\Reps K (join H0 G1) vs ws:=by
 obtain ⟨a,vs,e,s,r⟩:=(h.repB fun _=>W.noConfusion).inv; exact ⟨a,vs,e,I.join_H _ _ s,r⟩
theorem Md.tupC {v:V} {ws:List W} (I:PIv K H0 G1 ρ σ H1) (h:Md K H0 H G1 H1 v (.tup ws) .C):∃ a vs,v=.ref a/\H1 a=some (.tup vs)/\Reps K G1 vs ws:=by
 obtain ⟨a,vs,e,s,r⟩:=(h.repC fun _=>W.noConfusion).inv; exact ⟨a,vs,e,I.gh _ _ s,r⟩
theorem Md.intB {v:V} {i:Int} (h:Md K H0 H G1 H1 v (.int i) .B):v=.int i:=(h.repB fun _=>W.noConfusion).inv
theorem Md.blB {v:V} {i:Bool} (h:Md K H0 H G1 H1 v (.bl i) .B):v=.bl i:=(h.repB fun _=>W.noConfusion).inv
theorem Md.strB {v:V} {i:Str} (h:Md K H0 H G1 H1 v (.str i) .B):v=.str i:=(h.repB fun _=>W.noConfusion).inv
theorem Md.nonB {v:V} (h:Md K H0 H G1 H1 v .non .B):v=.non:=(h.repB fun _=>W.noConfusion).inv
theorem Md.tyB {v:V} {n:String} (h:Md K H0 H G1 H1 v (.ty n) .B):v=.ty n:=(h.repB fun _=>W.noConfusion).inv
theorem ua {m:Rho->R W} {Q:VK} (h:tM K EX .V m σ H Q):tM K EX .F m σ H Q:=by
 obtain ⟨H0,G,ρ,I,o⟩:=h
 refine ⟨H0,G,ρ,I,?_⟩
 revert o
 cases m ρ with
 | ex e=>exact id
 | stuck=>exact id
 | ok w=>
  intro o v G' H' e d
  cases w with
  | lst ws=>
   obtain ⟨a,vs,rfl,h1,h2,h3,r⟩:=d
   have s1:Same G' (upd G' a (.lst vs)):=fun b o q=>by rw [c7 (d9 q h2)]; exact q
   refine o _ (upd G' a (.lst vs)) H' ⟨e.gg.trans s1,e.hh,fun b o q=>?_,fun b o q l g=>?_⟩ (.lst g8 (r.same s1))
   ·by_cases hb:b=a
    ·subst hb; rw [g8] at q; cases q; exact h1
    ·rw [c7 hb] at q; exact e.gh b o q
   ·rw [c7 (d9 q h3)]; exact e.keep b o q l g
  | _=>exact o v G' H' e d
theorem tX {m:Rho->R W} {Q:VK} (h:tM K EX .U m σ H Q):tM K EX .V m σ H Q:=by
 obtain ⟨H0,G,ρ,I,o⟩:=h
 refine ⟨H0,G,ρ,I,?_⟩
 revert o
 cases m ρ with
 | ex e=>exact id
 | stuck=>exact id
 | ok w=>exact fun o v G' H' e d=>o v G' H' e (Rep.same (I.ext e).G_join d)
theorem tY {m:Rho->R W} {Q:VK} (h:tM K EX .C m σ H Q):tM K EX .V m σ H Q:=by
 obtain ⟨H0,G,ρ,I,o⟩:=h
 refine ⟨H0,G,ρ,I,?_⟩
 revert o
 cases m ρ with
 | ex e=>exact id
 | stuck=>exact id
 | ok w=>exact fun o v G' H' e d=>o v G' H' e (.inl d)
theorem tZ {m:Rho->R W} {Q:VK} (h:tM K EX .B m σ H Q):tM K EX .U m σ H Q:=by
 obtain ⟨H0,G,ρ,I,o⟩:=h
 refine ⟨H0,G,ρ,I,?_⟩
 revert o
 cases m ρ with
 | ex e=>exact id
 | stuck=>exact id
 | ok w=>exact fun o v G' H' e d=>o v G' H' e (.inl d)
theorem uc {m:Rho->R W} {Q:VK} (h:tM K EX .B m σ H Q):tM K EX .C m σ H Q:=by
 obtain ⟨H0,G,ρ,I,o⟩:=h
 refine ⟨H0,G,ρ,I,?_⟩
 revert o
 cases m ρ with
 | ex e=>exact id
 | stuck=>exact id
 | ok w=>exact fun o v G' H' e d=>o v G' H' e (Md.CB (H:=H) (I.ext e) d)
theorem ub {m:Rho->R W} {Q:VK} (h:tM K EX .C m σ H Q):tM K EX .F m σ H Q:=by
 obtain ⟨H0,G,ρ,I,o⟩:=h
 refine ⟨H0,G,ρ,I,?_⟩
 revert o
 cases m ρ with
 | ex e=>exact id
 | stuck=>exact id
 | ok w=>
  intro o v G' H' e d
  cases w with
  | lst ws=>obtain ⟨a,vs,rfl,h1,h2,h3,r⟩:=d; exact o _ G' H' e (.inr ⟨a,vs,ws,rfl,rfl,h1,r⟩)
  | _=>exact o v G' H' e (.inl d)
def chk (w:W):R W:=if noL w then .ok w else .stuck
theorem jS {v:V} {w:W} (n:noL w=true) (r:Rep K G1 v w):Md K H0 H G1 H1 v w .F:=by
 cases w with
 | lst ws=>cases n
 | _=>exact r
theorem gd {m:Rho->R W} {Q:VK} {d:Mode} (hd:d=.F\/d=.V) (h:tM K EX d (fun ρ=>m ρ>>=chk) σ H Q):tM K EX .U m σ H Q:=by
 obtain ⟨H0,G,ρ,I,o⟩:=h
 refine ⟨H0,G,ρ,I,Out.bind o fun x G1 H1 w e m1 o1=>?_⟩
 unfold chk at o1
 by_cases n:noL w=true
 ·rw [if_pos n] at o1
  have r:=Rep.clean (I.ext e) m1 n
  refine o1 x G1 H1 (Ext.refl e.gh) ?_
  rcases hd with rfl | rfl
  ·exact jS n r
  ·exact r
 ·rw [if_neg n] at o1; exact o1.elim
end
end TP
namespace TP
open PySem L2
section
variable {K:Frag} {EX:EXT} {H0 G H G1 H1 G2 H2:Hp} {ρ:Rho} {σ:St} {d:Mode} {Q:VK}
theorem V5 {v:V} {w:W} (hs:sca w=true) (r:∀ F,Rep K F v w) (h:tM K EX d (fun _=>.ok w) σ H Q):tC v σ H Q:=by
 obtain ⟨H0,G,ρ,I,o⟩:=h
 exact o v G H (Ext.refl I.gh) (Md.sca hs r d)
def b8 (d:Mode) (i:Nat):Rho->R W:=fun ρ=>match ρ[i]? with
 | some (.val w)=>(match d with | .F=>chk w | _=>.ok w)
 | some (.par w)=>(match d with | .F=>chk w | .V=>chk w | .C=>chk w | _=>.ok w)
 | some (.own ws)=>(match d with | .C=>.ok (.lst ws) | .B=>.ok (.lst ws) | _=>.stuck)
 | some (.iop _ ws)=>(match d with | .B=>.ok (.lst ws) | .U=>.ok (.lst ws) | _=>.stuck)
 | some (.hz w)=>(match d with | .B=>.ok w | .U=>.ok w | _=>.stuck)
 | _=>.stuck
theorem Out.chk {α:Type} {v:V} {w:W} {md:W->α->Hp->Hp->Prop} {Q:α->Hp->Prop} (o:Out EX G H md (chk w) Q):noL w=true/\Out EX G H md (.ok w) Q:=by
 unfold TP.chk at o
 by_cases n:noL w=true
 ·rw [if_pos n] at o; exact ⟨n,o⟩
 ·rw [if_neg n] at o; exact o.elim
theorem eU {i:Nat} (h:tM K EX d (b8 d i) σ H Q):O9 i σ H Q:=by
 obtain ⟨H0,G,ρ,I,o⟩:=h
 unfold b8 at o
 cases e:ρ[i]? with
 | none=>rw [e] at o; exact o.elim
 | some s=>
  rw [e] at o
  have hi:i<σ.length:=by rw [<- I.len]; exact (List.getElem?_eq_some_iff.mp e).1
  have es:σ[i]?=some σ[i]:=by simp
  have r:=I.sl i s _ e es
  cases s with
  | un=>exact o.elim
  | val w=>
   obtain ⟨v,ev,r⟩:=r
   refine ⟨v,by rw [es,ev],?_⟩
   cases d with
   | F=>obtain ⟨n,o⟩:=Out.chk (v:=v) o; exact o v G H (Ext.refl I.gh) (jS n r)
   | V=>exact o v G H (Ext.refl I.gh) r
   | U=>exact o v G H (Ext.refl I.gh) (r.same I.G_join)
   | C=>exact o v G H (Ext.refl I.gh) (.inl r)
   | B=>exact o v G H (Ext.refl I.gh) (.inl (r.same I.G_join))
  | par w=>
   obtain ⟨v,ev,r⟩:=r
   refine ⟨v,by rw [es,ev],?_⟩
   cases d with
   | F=>obtain ⟨n,o⟩:=Out.chk (v:=v) o; exact o v G H (Ext.refl I.gh) (jS n (Rep.clean I r n))
   | V=>obtain ⟨n,o⟩:=Out.chk (v:=v) o; exact o v G H (Ext.refl I.gh) (Rep.clean I r n)
   | U=>exact o v G H (Ext.refl I.gh) r
   | C=>obtain ⟨n,o⟩:=Out.chk (v:=v) o; exact o v G H (Ext.refl I.gh) (.inl (Rep.clean I r n))
   | B=>exact o v G H (Ext.refl I.gh) (.inl r)
  | own ws=>
   obtain ⟨a,vs,ev,ha,hg,h0,r⟩:=r
   refine ⟨.ref a,by rw [es,ev],?_⟩
   cases d with
   | F=>exact o.elim
   | V=>exact o.elim
   | U=>exact o.elim
   | C=>exact o _ G H (Ext.refl I.gh) (.inr ⟨a,vs,ws,rfl,rfl,ha,r⟩)
   | B=>exact o _ G H (Ext.refl I.gh) (.inr ⟨a,vs,ws,rfl,rfl,ha,r⟩)
  | dic ks=>exact o.elim
  | dik ks=>exact o.elim
  | hz w=>
   obtain ⟨v,ev,r⟩:=r
   refine ⟨v,by rw [es,ev],?_⟩
   have rj:=r.same (o6 (H0:=H0) (P6 (G:=G)))
   cases d with
   | F=>exact o.elim
   | V=>exact o.elim
   | C=>exact o.elim
   | U=>exact o v G H (Ext.refl I.gh) rj
   | B=>exact o v G H (Ext.refl I.gh) (.inl rj)
  | iop p ws=>
   obtain ⟨ev,vs,h0,r⟩:=r
   refine ⟨.ref p,by rw [es,ev],?_⟩
   have rj:Rep K (join H0 G) (.ref p) (.lst ws):=by
    refine .lst (vs:=vs) ?_ (r.same I.G_join)
    unfold join
    rw [h0]; rfl
   cases d with
   | F=>exact o.elim
   | V=>exact o.elim
   | U=>exact o _ G H (Ext.refl I.gh) rj
   | C=>exact o.elim
   | B=>exact o _ G H (Ext.refl I.gh) (.inl rj)
def Op2 (K:Frag) (b d:Mode) (r:R2) (f:W->W->R W):Prop:=∀ (EX:EXT) (H0 Hs G H:Hp) (ρ:Rho) (σ:St) (Ha Hb:Hp) (x y:V) (u v:W) (Q:VK),PIv K H0 G ρ σ H->Same Hs H->Md K H0 Ha G H x u b->Md K H0 Hb G H y v b ->
 Out EX G H (mdW K d H0 Hs) (f u v) Q->r x y H Q
theorem gR {b:Mode} {r:R2} {f:W->W->R W} {ma mb:Rho->R W} (hr:Op2 K b d r f) (h:tM K EX d (fun ρ=>ma ρ>>=fun x=>mb ρ>>=fun y=>f x y) σ H Q):tOp r (tM K EX b ma) (tM K EX b mb) σ H Q:=by
 obtain ⟨H0,G,ρ,I,o⟩:=h
 refine ⟨H0,G,ρ,I,Out.bind o fun x G1 H1 u e1 m1 o1=>⟨H0,G1,ρ,I.ext e1,Out.bind o1 fun y G2 H2 v e2 m2 o2=>?_⟩⟩
 exact hr EX H0 H G2 H2 ρ σ H H1 x y u v Q ((I.ext e1).ext e2) (e1.hh.trans e2.hh) (m1.move e2) m2 o2
def Op1 (K:Frag) (b d:Mode) (r:V->Hp->VK->Prop) (f:W->R W):Prop:=∀ (EX:EXT) (H0 Hs G H:Hp) (ρ:Rho) (σ:St) (Ha:Hp) (x:V) (u:W) (Q:VK),PIv K H0 G ρ σ H->Same Hs H->Md K H0 Ha G H x u b ->
 Out EX G H (mdW K d H0 Hs) (f u) Q->r x H Q
theorem c_un {b:Mode} {r:V->Hp->VK->Prop} {f:W->R W} {ma:Rho->R W} (hr:Op1 K b d r f) (h:tM K EX d (fun ρ=>ma ρ>>=fun x=>f x) σ H Q):tUn r (tM K EX b ma) σ H Q:=by
 obtain ⟨H0,G,ρ,I,o⟩:=h
 exact ⟨H0,G,ρ,I,Out.bind o fun x G1 H1 u e1 m1 o1=>hr EX H0 H G1 H1 ρ σ H x u Q (I.ext e1) e1.hh m1 o1⟩
def fI (C:Int->Int->Prop) [∀ i j,Decidable (C i j)] (g:Int->Int->W):W->W->R W
 | .int i,.int j=>if C i j then .ok (g i j) else .stuck
 | _,_=>.stuck
def fI0 (g:Int->Int->W):W->W->R W
 | .int i,.int j=>.ok (g i j)
 | _,_=>.stuck
theorem w8 {C:Int->Int->Prop} [∀ i j,Decidable (C i j)] {g:Int->Int->W} {gv:Int->Int->V} (hs:∀ i j,sca (g i j)=true) (hg:∀ i j F,Rep K F (gv i j) (g i j)):Op2 K .B d (rI C gv) (fI C g):=by
 intro EX H0 Hs G H ρ σ Ha Hb x y u v Q I s mx my o
 cases u <;> first | exact o.elim | skip
 all_goals (cases v <;> first | exact o.elim | skip)
 rename_i i j
 have o':Out EX G H (mdW K d H0 Hs) (if C i j then R.ok (g i j) else .stuck) Q:=o
 by_cases c:C i j
 ·rw [if_pos c] at o'
  exact ⟨i,j,mx.intB,my.intB,c,o' _ G H (Ext.refl I.gh) (Md.sca (hs i j) (hg i j) d)⟩
 ·rw [if_neg c] at o'; exact o'.elim
theorem eN {g:Int->Int->W} {gv:Int->Int->V} (hs:∀ i j,sca (g i j)=true) (hg:∀ i j F,Rep K F (gv i j) (g i j)):Op2 K .B d (rI0 gv) (fI0 g):=by
 intro EX H0 Hs G H ρ σ Ha Hb x y u v Q I s mx my o
 cases u <;> first | exact o.elim | skip
 all_goals (cases v <;> first | exact o.elim | skip)
 rename_i i j
 exact ⟨i,j,mx.intB,my.intB,o _ G H (Ext.refl I.gh) (Md.sca (hs i j) (hg i j) d)⟩
def fU (g:Int->W):W->R W
 | .int i=>.ok (g i)
 | _=>.stuck
theorem fX {g:Int->W} {gv:Int->V} (hs:∀ i,sca (g i)=true) (hg:∀ i F,Rep K F (gv i) (g i)):Op1 K .B d (rU gv) (fU g):=by
 intro EX H0 Hs G H ρ σ Ha x u Q I s mx o
 cases u <;> first | exact o.elim | skip
 rename_i i
 exact ⟨i,mx.intB,o _ G H (Ext.refl I.gh) (Md.sca (hs i) (hg i) d)⟩
def isN:W->Bool
 | .non=>true
 | _=>false
def bJ (neg:Bool):W->W->R W
 | u,.non=>.ok (.bl (if neg then !isN u else isN u))
 | _,_=>.stuck
theorem mX {b:Mode} (hb:b=.B\/b=.U\/b=.V\/b=.C) {v:V} {w:W} {Hs:Hp} (h:Md K H0 Hs G1 H1 v w b):decide (v=.non)=isN w:=by
 have key:∀ F,Rep K F v w->decide (v=.non)=isN w:=fun F r=>by
  cases r <;> first | rfl | (apply decide_eq_false; intro z; cases z)
 rcases hb with rfl | rfl | rfl | rfl
 ·rcases h with h | ⟨a,vs,ws,rfl,rfl,_⟩
  ·exact key _ h
  ·apply decide_eq_false; intro z; cases z
 ·exact key _ h
 ·exact key _ h
 ·rcases h with h | ⟨a,vs,ws,rfl,rfl,_⟩
  ·exact key _ h
  ·apply decide_eq_false; intro z; cases z
theorem xK:Op2 K .B d (fun x y H Q=>y=.non/\Q (.bl (decide (x=.non))) H) (bJ false):=by
 intro EX H0 Hs G H ρ σ Ha Hb x y u v Q I s mx my o
 cases v <;> first | exact o.elim | skip
 refine ⟨my.nonB,?_⟩
 rw [mX (.inl rfl) mx]
 exact o _ G H (Ext.refl I.gh) (Md.sca rfl (fun _=>.bl) d)
theorem dg:Op2 K .B d (fun x y H Q=>y=.non/\Q (.bl (!decide (x=.non))) H) (bJ true):=by
 intro EX H0 Hs G H ρ σ Ha Hb x y u v Q I s mx my o
 cases v <;> first | exact o.elim | skip
 refine ⟨my.nonB,?_⟩
 rw [mX (.inl rfl) mx]
 exact o _ G H (Ext.refl I.gh) (Md.sca rfl (fun _=>.bl) d)
def toB:W->R Bool
 | .bl b=>.ok b
 | _=>.stuck
theorem nG {ma:Rho->R W} {Q:Bool->Hp->Prop} (h:tT K EX (fun ρ=>ma ρ>>=toB) σ H Q):qR (tM K EX .B ma) σ H Q:=by
 obtain ⟨H0,G,ρ,I,o⟩:=h
 refine ⟨H0,G,ρ,I,Out.bind o fun x G1 H1 u e1 m1 o1=>?_⟩
 cases u <;> first | exact o1.elim | skip
 rename_i b
 exact ⟨b,m1.blB,o1 b G1 H1 (Ext.refl e1.gh) rfl⟩
theorem c_tB {ma:Rho->R W} {Q:Bool->Hp->Prop} (h:tT K EX (fun ρ=>ma ρ>>=toB) σ H Q):tB (tM K EX .B ma) σ H Q:=nG h
def cY (a b:R Bool):R Bool:=a>>=fun c=>if c then b else .ok false
def rOr (a b:R Bool):R Bool:=a>>=fun c=>if c then .ok true else b
def jG (a:R Bool):R Bool:=a>>=fun c=>.ok (!c)
theorem BG {ma mb:Rho->R Bool} {Q:Bool->Hp->Prop} (h:tT K EX (fun ρ=>cY (ma ρ) (mb ρ)) σ H Q):vS (tT K EX ma) (tT K EX mb) σ H Q:=by
 obtain ⟨H0,G,ρ,I,o⟩:=h
 refine ⟨H0,G,ρ,I,Out.bind o fun x G1 H1 u e1 m1 o1=>?_⟩
 cases m1
 cases x with
 | true=>exact ⟨H0,G1,ρ,I.ext e1,o1⟩
 | false=>exact o1 false G1 H1 (Ext.refl e1.gh) rfl
theorem c_or {ma mb:Rho->R Bool} {Q:Bool->Hp->Prop} (h:tT K EX (fun ρ=>rOr (ma ρ) (mb ρ)) σ H Q):tOr (tT K EX ma) (tT K EX mb) σ H Q:=by
 obtain ⟨H0,G,ρ,I,o⟩:=h
 refine ⟨H0,G,ρ,I,Out.bind o fun x G1 H1 u e1 m1 o1=>?_⟩
 cases m1
 cases x with
 | true=>exact o1 true G1 H1 (Ext.refl e1.gh) rfl
 | false=>exact ⟨H0,G1,ρ,I.ext e1,o1⟩
theorem Bu {ma:Rho->R Bool} {Q:Bool->Hp->Prop} (h:tT K EX (fun ρ=>jG (ma ρ)) σ H Q):vM (tT K EX ma) σ H Q:=by
 obtain ⟨H0,G,ρ,I,o⟩:=h
 refine ⟨H0,G,ρ,I,Out.bind o fun x G1 H1 u e1 m1 o1=>?_⟩
 cases m1
 exact o1 _ G1 H1 (Ext.refl e1.gh) rfl
def aI (a b:R W):R W:=a>>=fun x=>toB x>>=fun c=>if c then b else .ok (.bl false)
def fx (a b:R W):R W:=a>>=fun x=>toB x>>=fun c=>if c then .ok (.bl true) else b
def eL (a:R W):R W:=a>>=fun x=>toB x>>=fun c=>.ok (.bl (!c))
theorem Ag {ma mb:Rho->R W} (h:tM K EX d (fun ρ=>aI (ma ρ) (mb ρ)) σ H Q):qW (tM K EX .B ma) (tM K EX d mb) σ H Q:=by
 obtain ⟨H0,G,ρ,I,o⟩:=h
 refine ⟨H0,G,ρ,I,Out.bind o fun x G1 H1 u e1 m1 o1=>?_⟩
 cases u <;> first | exact o1.elim | skip
 rename_i b
 refine ⟨b,m1.blB,?_⟩
 cases b with
 | true=>
  rw [if_pos rfl]
  refine ⟨H0,G1,ρ,I.ext e1,?_⟩
  have o2:Out EX G1 H1 (mdW K d H0 H) (mb ρ) Q:=o1
  revert o2
  cases mb ρ with
  | ok w=>exact fun o2 v G2 H2 e2 m2=>o2 v G2 H2 e2 (m2.start e1.hh)
  | ex _=>exact id
  | stuck=>exact id
 | false=>
  rw [if_neg Bool.false_ne_true]
  exact o1 _ G1 H1 (Ext.refl e1.gh) (Md.sca rfl (fun _=>.bl) d)
theorem zW {ma:Rho->R W} (h:tM K EX d (fun ρ=>eL (ma ρ)) σ H Q):qT (tM K EX .B ma) σ H Q:=by
 obtain ⟨H0,G,ρ,I,o⟩:=h
 refine ⟨H0,G,ρ,I,Out.bind o fun x G1 H1 u e1 m1 o1=>?_⟩
 cases u <;> first | exact o1.elim | skip
 rename_i b
 exact ⟨b,m1.blB,o1 _ G1 H1 (Ext.refl e1.gh) (Md.sca rfl (fun _=>.bl) d)⟩
theorem Out.restart {r:R W} (s:Same H H1) (o:Out EX G1 H1 (mdW K d H0 H) r Q):Out EX G1 H1 (mdW K d H0 H1) r Q:=by
 revert o
 cases r with
 | ok w=>exact fun o v G2 H2 e2 m2=>o v G2 H2 e2 (m2.start s)
 | ex _=>exact id
 | stuck=>exact id
theorem c_if {mc:Rho->R Bool} {ma mb:Rho->R W} (h:tM K EX d (fun ρ=>mc ρ>>=fun c=>if c then ma ρ else mb ρ) σ H Q):tIf (tT K EX mc) (tM K EX d ma) (tM K EX d mb) σ H Q:=by
 obtain ⟨H0,G,ρ,I,o⟩:=h
 refine ⟨H0,G,ρ,I,Out.bind o fun x G1 H1 u e1 m1 o1=>?_⟩
 cases m1
 cases x with
 | true=>exact ⟨H0,G1,ρ,I.ext e1,Out.restart e1.hh o1⟩
 | false=>exact ⟨H0,G1,ρ,I.ext e1,Out.restart e1.hh o1⟩
theorem Bv {QA:List V->Hp->Prop} (h:tA K EX d (fun _=>.ok []) σ H QA):tNil σ H QA:=by
 obtain ⟨H0,G,ρ,I,o⟩:=h
 exact o [] G H (Ext.refl I.gh) .nil
theorem Ad {ma:Rho->R W} {mr:Rho->R (List W)} {QA:List V->Hp->Prop} (h:tA K EX d (fun ρ=>ma ρ>>=fun x=>mr ρ>>=fun xs=>.ok (x::xs)) σ H QA):qV (tM K EX d ma) (tA K EX d mr) σ H QA:=by
 obtain ⟨H0,G,ρ,I,o⟩:=h
 refine ⟨H0,G,ρ,I,Out.bind o fun x G1 H1 u e1 m1 o1=>⟨H0,G1,ρ,I.ext e1,Out.bind o1 fun xs G2 H2 us e2 m2 o2=>?_⟩⟩
 refine o2 (x::xs) G2 H2 (Ext.refl e2.gh) (.cons (m1.move e2) ?_)
 have go:∀ {ws:List W} {vs:List V},MdA K d H0 H1 G2 H2 ws vs->MdA K d H0 H G2 H2 ws vs:=fun {ws vs} q=>by
  induction q with
  | nil=>exact .nil
  | cons a _ ih=>exact .cons (a.start e1.hh) ih
 exact go m2
theorem MdA.reps {ws:List W} {vs:List V} (h:MdA K .V H0 H G1 H1 ws vs):Reps K G1 vs ws:=
 @MdA.rec K .V H0 H G1 H1 (fun ws vs _=>Reps K G1 vs ws) .nil (fun h _ b=>.cons h b) ws vs h
theorem MdA.repsU {ws:List W} {vs:List V} (h:MdA K .U H0 H G1 H1 ws vs):Reps K (join H0 G1) vs ws:=
 @MdA.rec K .U H0 H G1 H1 (fun ws vs _=>Reps K (join H0 G1) vs ws) .nil (fun h _ b=>.cons h b) ws vs h
theorem tW {p:Addr} {o:HO} (hG:Same G H) (hp:H p=none):Ext G H G (upd H p o):=
 ⟨Same.refl G,fun b u q=>by rw [c7 (d9 q hp)]; exact q,fun b u q=>by rw [c7 (d9 (hG b u q) hp)]; exact hG b u q,fun _ _ _ _ e=>e⟩
theorem bw {p:Addr} {o:HO} (hG:Same G H) (hp:H p=none):Ext G H (upd G p o) (upd H p o):=by
 have gp:G p=none:=hG.free hp
 refine ⟨fun b u q=>by rw [c7 (d9 q gp)]; exact q,fun b u q=>by rw [c7 (d9 q hp)]; exact q,fun b u q=>?_,fun b u q l g=>?_⟩
 ·by_cases hb:b=p
  ·subst hb; rw [g8] at q ⊢; exact q
  ·rw [c7 hb] at q ⊢; exact hG b u q
 ·rw [c7 (d9 q hp)]; exact g
theorem Out.newL {p:Addr} {vs:List V} {ws:List W} {Hs:Hp} (I:PIv K H0 G ρ σ H) (s:Same Hs H) (r:Reps K G vs ws) (hp:H p=none) (o:Out EX G H (mdW K .F H0 Hs) (.ok (.lst ws)) Q):Q (.ref p) (upd H p (.lst vs)):=
 o _ G _ (tW I.gh hp) ⟨p,vs,rfl,g8,I.gh.free hp,s.free hp,r⟩
theorem Out.newTF {p:Addr} {vs:List V} {ws:List W} {Hs:Hp} (I:PIv K H0 G ρ σ H) (r:Reps K G vs ws) (hp:H p=none) (o:Out EX G H (mdW K .F H0 Hs) (.ok (.tup ws)) Q):Q (.ref p) (upd H p (.tup vs)):=
 o _ (upd G p (.tup vs)) _ (bw I.gh hp) (.tup g8 (r.same fun b u q=>by rw [c7 (d9 q (I.gh.free hp))]; exact q))
def lim (n:Nat) (w:W):R W:=if n<=1000 then .ok w else .stuck
theorem Out.lim {α:Type} {n:Nat} {w:W} {md:W->α->Hp->Hp->Prop} {Q:α->Hp->Prop} (o:Out EX G H md (lim n w) Q):n<=1000/\Out EX G H md (.ok w) Q:=by
 unfold TP.lim at o
 by_cases n:n<=1000
 ·rw [if_pos n] at o; exact ⟨n,o⟩
 ·rw [if_neg n] at o; exact o.elim
theorem O5 {n:Nat} (h:n<=1000):n<=sizeLine:=Nat.le_trans h (by decide)
theorem Bp {ma:Rho->R (List W)} (h:tM K EX .F (fun ρ=>ma ρ>>=fun ws=>lim ws.length (.tup ws)) σ H Q):on (tA K EX .V ma) σ H Q:=by
 obtain ⟨H0,G,ρ,I,o⟩:=h
 refine ⟨H0,G,ρ,I,Out.bind o fun xs G1 H1 ws e1 m1 o1=>?_⟩
 obtain ⟨hl,o2⟩:=Out.lim o1
 have r:=MdA.reps m1
 exact ⟨by rw [r.length]; exact O5 hl,fun p hp=>Out.newTF (I.ext e1) r hp o2⟩
theorem Bw {ma:Rho->R (List W)} (h:tM K EX .F (fun ρ=>ma ρ>>=fun ws=>lim ws.length (.lst ws)) σ H Q):vN (tA K EX .V ma) σ H Q:=by
 obtain ⟨H0,G,ρ,I,o⟩:=h
 refine ⟨H0,G,ρ,I,Out.bind o fun xs G1 H1 ws e1 m1 o1=>?_⟩
 obtain ⟨hl,o2⟩:=Out.lim o1
 have r:=MdA.reps m1
 exact ⟨by rw [r.length]; exact O5 hl,fun p hp=>Out.newL (I.ext e1) e1.hh r hp o2⟩
theorem gu {p:Addr} {o:HO} (h:H0 p=none):join H0 (upd G p o)=upd (join H0 G) p o:=by
 funext b
 by_cases hb:b=p
 ·subst hb; unfold join; rw [h]; dsimp only; rw [g8,g8]
 ·rw [c7 hb]; unfold join; cases H0 b with
  | none=>dsimp only; rw [c7 hb]
  | some u=>dsimp only; rw [c7 hb]
theorem zQ {ma:Rho->R (List W)} (h:tM K EX .U (fun ρ=>ma ρ>>=fun ws=>lim ws.length (.tup ws)) σ H Q):on (tA K EX .U ma) σ H Q:=by
 obtain ⟨H0,G,ρ,I,o⟩:=h
 refine ⟨H0,G,ρ,I,Out.bind o fun xs G1 H1 ws e1 m1 o1=>?_⟩
 obtain ⟨hl,o2⟩:=Out.lim o1
 have r:=MdA.repsU m1
 have I1:=I.ext e1
 refine ⟨by rw [r.length]; exact O5 hl,fun p hp=>o2 _ (upd G1 p (.tup xs)) _ (bw I1.gh hp) ?_⟩
 show Rep K (join H0 (upd G1 p (.tup xs))) _ _
 rw [gu (I1.hh.free hp)]
 exact .tup g8 (r.same fun b u q=>by rw [c7 (d9 (I1.join_H b u q) hp)]; exact q)
end
end TP
namespace TP
open PySem L2
inductive Fl where
 | nx (ρ:Rho) | rt (w:W) | bk (ρ:Rho) | ct (ρ:Rho)
def OutS (K:Frag) (EX:EXT) (d:Mode) (H0 G:Hp) (r:R Fl) (D:Ends):Prop:=match r with
 | .ok (.nx ρ)=>∀ G' σ' H',Same G G'->PIv K H0 G' ρ σ' H'->D.nx σ' H'
 | .ok (.bk ρ)=>∀ G' σ' H',Same G G'->PIv K H0 G' ρ σ' H'->D.bk σ' H'
 | .ok (.ct ρ)=>∀ G' σ' H',Same G G'->PIv K H0 G' ρ σ' H'->D.ct σ' H'
 | .ok (.rt w)=>∀ v G' H',Same G G'->Same G' H'->Same H0 H'->(∀ a o,H0 a=some o->isL o=true->G' a=none)->Md K H0 H0 G' H' v w d->D.rt v H'
 | .ex e=>∀ H',Same H0 H'->EX e H'
 | .stuck=>False
def tSt (K:Frag) (EX:EXT) (d:Mode) (m:Rho->R Fl):TS:=fun D σ H=>∃ H0 G ρ,PIv K H0 G ρ σ H/\OutS K EX d H0 G (m ρ) D
section
variable {K:Frag} {EX:EXT} {H0 G H G1 H1 G2 H2:Hp} {ρ:Rho} {σ:St} {d:Mode} {D:Ends}
theorem OutS.move {r:R Fl} (s:Same G G1) (o:OutS K EX d H0 G r D):OutS K EX d H0 G1 r D:=by
 cases r with
 | stuck=>exact o
 | ex e=>exact o
 | ok f=>
  cases f with
  | nx ρ'=>exact fun G' σ' H' s' I'=>o G' σ' H' (s.trans s') I'
  | bk ρ'=>exact fun G' σ' H' s' I'=>o G' σ' H' (s.trans s') I'
  | ct ρ'=>exact fun G' σ' H' s' I'=>o G' σ' H' (s.trans s') I'
  | rt w=>exact fun v G' H' s0 s1 s2 c md=>o v G' H' (s.trans s0) s1 s2 c md
theorem OutS.bind {α β:Type} {md:α->β->Hp->Hp->Prop} {m:R α} {k:α->R Fl} {Q1:β->Hp->Prop} (I:PIv K H0 G ρ σ H) (o:OutS K EX d H0 G (m>>=k) D)
  (h:∀ x G1 H1 w,Ext G H G1 H1->md w x G1 H1->OutS K EX d H0 G1 (k w) D->Q1 x H1):Out EX G H md m Q1:=by
 cases m with
 | ok w=>exact fun v G' H' e q=>h v G' H' w e q (OutS.move e.gg o)
 | ex e=>exact fun H' s=>o H' (I.hh.trans s)
 | stuck=>exact o
def e8 (m n:Rho->R Fl):Rho->R Fl:=fun ρ=>m ρ>>=fun f=>match f with
 | .nx ρ'=>n ρ'
 | .rt w=>.ok (.rt w)
 | .bk ρ'=>.ok (.bk ρ')
 | .ct ρ'=>.ok (.ct ρ')
theorem zX (h:tSt K EX d (fun ρ=>.ok (.nx ρ)) D σ H):tNext D σ H:=by
 obtain ⟨H0,G,ρ,I,o⟩:=h
 exact o G σ H (Same.refl G) I
theorem Bs {m n:Rho->R Fl} (h:tSt K EX d (e8 m n) D σ H):oq (tSt K EX d m) (tSt K EX d n) D σ H:=by
 obtain ⟨H0,G,ρ,I,o⟩:=h
 refine ⟨H0,G,ρ,I,?_⟩
 unfold e8 at o
 revert o
 cases m ρ with
 | stuck=>exact id
 | ex e=>exact id
 | ok f=>
  cases f with
  | nx ρ'=>exact fun o G' σ' H' s' I'=>⟨H0,G',ρ',I',OutS.move s' o⟩
  | _=>exact id
theorem Ac (h:tSt K EX d (fun ρ=>.ok (.ct ρ)) D σ H):tCont D σ H:=by
 obtain ⟨H0,G,ρ,I,o⟩:=h
 exact o G σ H (Same.refl G) I
theorem vd (h:tSt K EX d (fun _=>.stuck) D σ H):tNever D σ H:=by
 obtain ⟨H0,G,ρ,I,o⟩:=h
 exact o
theorem rO {m:Rho->R W} (h:tSt K EX d (fun ρ=>m ρ>>=fun w=>.ok (.rt w)) D σ H):jz (tM K EX d m) D σ H:=by
 obtain ⟨H0,G,ρ,I,o⟩:=h
 refine ⟨H0,G,ρ,I,OutS.bind I o fun x G1 H1 w e1 m1 o1=>?_⟩
 have I1:=I.ext e1
 exact o1 x G1 H1 (Same.refl _) e1.gh I1.hh I1.gl (m1.start I.hh)
def E1 (d:Mode) (i:Nat):Rho->R Fl:=fun ρ=>match ρ[i]? with
 | some (.own ws)=>.ok (.rt (.lst ws))
 | _=>b8 d i ρ>>=fun w=>.ok (.rt w)
theorem qH {i:Nat} (hd:d=.F\/d=.V) (h:tSt K EX d (E1 d i) D σ H):jz (O9 i) D σ H:=by
 obtain ⟨H0,G,ρ,I,o⟩:=h
 unfold E1 at o
 by_cases ho:∃ ws,ρ[i]?=some (.own ws)
 ·obtain ⟨ws,e⟩:=ho
  rw [e] at o
  have hi:i<σ.length:=by rw [<- I.len]; exact (List.getElem?_eq_some_iff.mp e).1
  have es:σ[i]?=some σ[i]:=by simp
  obtain ⟨a,vs,ev,ha,hg,h0,r⟩:=I.sl i _ _ e es
  refine ⟨.ref a,by rw [es,ev],?_⟩
  rcases hd with rfl | rfl
  ·exact o _ G H (Same.refl _) I.gh I.hh I.gl ⟨a,vs,rfl,ha,hg,h0,r⟩
  ·have s1:Same G (upd G a (.lst vs)):=fun b o q=>by rw [c7 (d9 q hg)]; exact q
   refine o _ (upd G a (.lst vs)) H s1 (fun b o q=>?_) I.hh (fun b u q l=>?_) (.lst g8 (r.same s1))
   ·by_cases hb:b=a
    ·subst hb; rw [g8] at q; cases q; exact ha
    ·rw [c7 hb] at q; exact I.gh b o q
   ·rw [c7 (d9 q h0)]; exact I.gl b u q l
 ·have o':OutS K EX d H0 G (b8 d i ρ>>=fun w=>.ok (.rt w)) D:=by
   revert o
   split
   ·rename_i ws e; exact absurd ⟨ws,e⟩ ho
   ·exact id
  have c:jz (tM K EX d (b8 d i)) D σ H:=rO (m:=b8 d i) ⟨H0,G,ρ,I,o'⟩
  exact eU c
theorem PIv.setV {i:Nat} {v:V} {w:W} (I:PIv K H0 G ρ σ H) (r:Rep K G v w):PIv K H0 G (ρ.set i (.val w)) (σ.set i (some v)) H where
 g0:=I.g0
 gl:=I.gl
 gh:=I.gh
 hh:=I.hh
 len:=by rw [List.length_set,List.length_set]; exact I.len
 sl j x o h1 h2:=by
  by_cases hj:i=j
  ·subst hj
   rw [List.getElem?_set] at h1 h2
   simp only [if_true] at h1 h2
   split at h1 <;> split at h2 <;> simp only [Option.some.injEq,reduceCtorEq] at h1 h2
   subst h1; subst h2
   exact ⟨v,rfl,r⟩
  ·rw [List.getElem?_set_ne hj] at h1 h2; exact I.sl j x o h1 h2
 ne a b ws us c hab h1 h2 h3 h4:=by
  have na:i≠a:=by
   rintro rfl
   rw [List.getElem?_set] at h1
   simp only [if_true] at h1
   split at h1 <;> simp at h1
  have nb:i≠b:=by
   rintro rfl
   rw [List.getElem?_set] at h2
   simp only [if_true] at h2
   split at h2 <;> simp at h2
  rw [List.getElem?_set_ne na] at h1 h3
  rw [List.getElem?_set_ne nb] at h2 h4
  exact I.ne a b ws us c hab h1 h2 h3 h4
theorem PIv.setU {i:Nat} {v:V} {w:W} (I:PIv K H0 G ρ σ H) (r:Rep K (join H0 G) v w):PIv K H0 G (ρ.set i (.par w)) (σ.set i (some v)) H where
 g0:=I.g0
 gl:=I.gl
 gh:=I.gh
 hh:=I.hh
 len:=by rw [List.length_set,List.length_set]; exact I.len
 sl j x o h1 h2:=by
  by_cases hj:i=j
  ·subst hj
   rw [List.getElem?_set] at h1 h2
   simp only [if_true] at h1 h2
   split at h1 <;> split at h2 <;> simp only [Option.some.injEq,reduceCtorEq] at h1 h2
   subst h1; subst h2
   exact ⟨v,rfl,r⟩
  ·rw [List.getElem?_set_ne hj] at h1 h2; exact I.sl j x o h1 h2
 ne a b ws us c hab h1 h2 h3 h4:=by
  have na:i≠a:=by
   rintro rfl
   rw [List.getElem?_set] at h1
   simp only [if_true] at h1
   split at h1 <;> simp at h1
  have nb:i≠b:=by
   rintro rfl
   rw [List.getElem?_set] at h2
   simp only [if_true] at h2
   split at h2 <;> simp at h2
  rw [List.getElem?_set_ne na] at h1 h3
  rw [List.getElem?_set_ne nb] at h2 h4
  exact I.ne a b ws us c hab h1 h2 h3 h4
theorem PIv.setO {i:Nat} {a:Addr} {vs:List V} {ws:List W} (I:PIv K H0 G ρ σ H) (ha:H a=some (.lst vs)) (hg:G a=none) (h0:H0 a=none) (r:Reps K G vs ws)
  (nw:∀ (j:Nat) (us:List W),ρ[j]?=some (Sl.own us)->σ[j]?≠some (some (V.ref a))):PIv K H0 G (ρ.set i (.own ws)) (σ.set i (some (.ref a))) H where
 g0:=I.g0
 gl:=I.gl
 gh:=I.gh
 hh:=I.hh
 len:=by rw [List.length_set,List.length_set]; exact I.len
 sl j x o h1 h2:=by
  by_cases hj:i=j
  ·subst hj
   rw [List.getElem?_set] at h1 h2
   simp only [if_true] at h1 h2
   split at h1 <;> split at h2 <;> simp only [Option.some.injEq,reduceCtorEq] at h1 h2
   subst h1; subst h2
   exact ⟨a,vs,rfl,ha,hg,h0,r⟩
  ·rw [List.getElem?_set_ne hj] at h1 h2; exact I.sl j x o h1 h2
 ne p q ws' us c hab h1 h2 h3 h4:=by
  by_cases hp:i=p
  ·subst hp
   rw [List.getElem?_set_ne hab] at h2 h4
   rw [List.getElem?_set] at h3
   simp only [if_true] at h3
   split at h3 <;> simp only [Option.some.injEq,reduceCtorEq,V.ref.injEq] at h3
   subst h3
   exact nw q us h2 h4
  ·rw [List.getElem?_set_ne hp] at h1 h3
   by_cases hq:i=q
   ·subst hq
    rw [List.getElem?_set] at h4
    simp only [if_true] at h4
    split at h4 <;> simp only [Option.some.injEq,reduceCtorEq,V.ref.injEq] at h4
    subst h4
    exact nw p ws' h1 h3
   ·rw [List.getElem?_set_ne hq] at h2 h4
    exact I.ne p q ws' us c hab h1 h2 h3 h4
def G9:W->Sl
 | .lst ws=>.own ws
 | w=>.val w
theorem zR {i:Nat} {m:Rho->R W} (h:tSt K EX d (fun ρ=>m ρ>>=fun w=>.ok (.nx (ρ.set i (.val w)))) D σ H):P0 (tM K EX .V m) (B4 i) D σ H:=by
 obtain ⟨H0,G,ρ,I,o⟩:=h
 exact ⟨H0,G,ρ,I,OutS.bind I o fun x G1 H1 w e1 m1 o1=>o1 G1 _ H1 (Same.refl _) ((I.ext e1).setV m1)⟩
theorem zS {i:Nat} {m:Rho->R W} (h:tSt K EX d (fun ρ=>m ρ>>=fun w=>.ok (.nx (ρ.set i (.par w)))) D σ H):P0 (tM K EX .U m) (B4 i) D σ H:=by
 obtain ⟨H0,G,ρ,I,o⟩:=h
 exact ⟨H0,G,ρ,I,OutS.bind I o fun x G1 H1 w e1 m1 o1=>o1 G1 _ H1 (Same.refl _) ((I.ext e1).setU m1)⟩
theorem gQ {i:Nat} {m:Rho->R W} (h:tSt K EX d (fun ρ=>m ρ>>=fun w=>.ok (.nx (ρ.set i (G9 w)))) D σ H):P0 (tM K EX .F m) (B4 i) D σ H:=by
 obtain ⟨H0,G,ρ,I,o⟩:=h
 refine ⟨H0,G,ρ,I,OutS.bind I o fun x G1 H1 w e1 m1 o1=>?_⟩
 have I1:=I.ext e1
 cases w with
 | lst ws=>
  obtain ⟨a,vs,rfl,h1,h2,h3,r⟩:=m1
  refine o1 G1 _ H1 (Same.refl _) (I1.setO h1 h2 (I.hh.free h3) r fun j us q z=>?_)
  obtain ⟨b,us',eb,hb,_⟩:=I.sl j _ _ q z
  cases eb
  rw [h3] at hb; cases hb
 | non=>exact o1 G1 _ H1 (Same.refl _) (I1.setV m1)
 | bl _=>exact o1 G1 _ H1 (Same.refl _) (I1.setV m1)
 | int _=>exact o1 G1 _ H1 (Same.refl _) (I1.setV m1)
 | str _=>exact o1 G1 _ H1 (Same.refl _) (I1.setV m1)
 | ty _=>exact o1 G1 _ H1 (Same.refl _) (I1.setV m1)
 | tup _=>exact o1 G1 _ H1 (Same.refl _) (I1.setV m1)
 | scr _=>exact o1 G1 _ H1 (Same.refl _) (I1.setV m1)
 | exc _ _=>exact o1 G1 _ H1 (Same.refl _) (I1.setV m1)
 | cls _=>exact o1 G1 _ H1 (Same.refl _) (I1.setV m1)
instance:DecidableEq Mode:=fun a b=>by cases a <;> cases b <;> first | exact isTrue rfl | exact isFalse (by intro h; cases h)
def Gt (K:Frag) (e:Mode) (g:TG) (mg:W->Rho->Option Rho):Prop:=∀ (H0 Hs G:Hp) (ρ:Rho) (σ:St) (H:Hp) (v:V) (w:W) (ρ':Rho) (Q:St->Hp->Prop),PIv K H0 G ρ σ H->Md K H0 Hs G H v w e->mg w ρ=some ρ' ->
 (∀ σ',PIv K H0 G ρ' σ' H->Q σ' H)->g v σ H Q
def Gts (K:Frag) (e:Mode) (g:TGs) (mg:List W->Rho->Option Rho):Prop:=∀ (H0 G:Hp) (ρ:Rho) (σ:St) (H:Hp) (vs:List V) (ws:List W) (ρ':Rho) (Q:St->Hp->Prop),PIv K H0 G ρ σ H->Reps K (if e=.V then G else join H0 G) vs ws->mg ws ρ=some ρ' ->
 (∀ σ',PIv K H0 G ρ' σ' H->Q σ' H)->g vs σ H Q
def gN (e:Mode) (i:Nat):W->Rho->Option Rho:=fun w ρ=>some (ρ.set i (if e=.V then .val w else .par w))
theorem yK {i:Nat}:Gt K .V (B4 i) (gN .V i):=fun H0 Hs G ρ σ H v w ρ' Q I m e h=>by
 cases e; exact h _ (I.setV m)
theorem j4 {i:Nat}:Gt K .U (B4 i) (gN .U i):=fun H0 Hs G ρ σ H v w ρ' Q I m e h=>by
 cases e; exact h _ (I.setU m)
def gsNil:List W->Rho->Option Rho
 | [],ρ=>some ρ
 | _,_=>none
def j0 (f:W->Rho->Option Rho) (g:List W->Rho->Option Rho):List W->Rho->Option Rho
 | w::ws,ρ=>(f w ρ).bind (g ws)
 | [],_=>none
theorem v9 {e:Mode}:Gts K e gNil gsNil:=fun H0 G ρ σ H vs ws ρ' Q I r e h=>by
 cases r with
 | nil=>cases e; exact ⟨rfl,h _ I⟩
 | cons _ _=>cases e
theorem h9 {e:Mode} {t:TG} {u:TGs} {f:W->Rho->Option Rho} {g:List W->Rho->Option Rho} (he:e=.V\/e=.U) (h1:Gt K e t f) (h2:Gts K e u g):Gts K e (kh t u) (j0 f g):=fun H0 G ρ σ H vs ws ρ' Q I r q h=>by
 cases r with
 | nil=>cases q
 | cons a b=>
  unfold j0 at q
  obtain ⟨ρ1,q1,q2⟩:=Option.bind_eq_some_iff.mp q
  refine ⟨_,_,rfl,h1 H0 H G ρ σ H _ _ ρ1 _ I ?_ q1 fun σ1 I1=>h2 H0 G ρ1 σ1 H _ _ ρ' Q I1 b q2 h⟩
  rcases he with rfl | rfl
  ·exact a
  ·exact a
def gT (n:Nat) (g:List W->Rho->Option Rho):W->Rho->Option Rho
 | .tup ws,ρ=>if ws.length=n then g ws ρ else none
 | _,_=>none
theorem A0 {e:Mode} {n:Nat} {u:TGs} {g:List W->Rho->Option Rho} (he:e=.V\/e=.U) (h:Gts K e u g):Gt K e (ke K n u) (gT n g):=fun H0 Hs G ρ σ H v w ρ' Q I m q k=>by
 cases w <;> first | cases q | skip
 rename_i ws
 have q':(if ws.length=n then g ws ρ else none)=some ρ':=q
 by_cases hn:ws.length=n
 ·rw [if_pos hn] at q'
  rcases he with rfl | rfl
  ·obtain ⟨a,vs,e,s,r⟩:=Rep.inv m
   exact ⟨a,vs,e,SqT.of (I.gh _ _ s),by rw [r.length]; exact hn,h H0 G ρ σ H _ ws ρ' Q I (by rw [if_pos rfl]; exact r) q' k⟩
  ·obtain ⟨a,vs,e,s,r⟩:=Rep.inv m
   exact ⟨a,vs,e,SqT.of (I.join_H _ _ s),by rw [r.length]; exact hn,h H0 G ρ σ H _ ws ρ' Q I (by rw [if_neg (by intro z; cases z)]; exact r) q' k⟩
 ·rw [if_neg hn] at q'; cases q'
def toR {α:Type}:Option α->R α
 | some a=>.ok a
 | none=>.stuck
theorem BE {e:Mode} {g:TG} {mg:W->Rho->Option Rho} {m:Rho->R W} (hg:Gt K e g mg) (h:tSt K EX d (fun ρ=>m ρ>>=fun w=>toR (mg w ρ)>>=fun ρ'=>.ok (.nx ρ')) D σ H):P0 (tM K EX e m) g D σ H:=by
 obtain ⟨H0,G,ρ,I,o⟩:=h
 refine ⟨H0,G,ρ,I,OutS.bind I o fun x G1 H1 w e1 m1 o1=>?_⟩
 cases q:mg w ρ with
 | none=>rw [q] at o1; exact o1.elim
 | some ρ'=>
  rw [q] at o1
  exact hg H0 H G1 ρ σ H1 x w ρ' _ (I.ext e1) m1 q fun σ' I'=>o1 G1 σ' H1 (Same.refl _) I'
theorem PIv.own_upd {i:Nat} {a:Addr} {vs':List V} {ws ws':List W} (I:PIv K H0 G ρ σ H) (e:ρ[i]?=some (.own ws)) (es:σ[i]?=some (some (.ref a))) (r:Reps K G vs' ws'):PIv K H0 G (ρ.set i (.own ws')) σ (upd H a (.lst vs')):=by
 obtain ⟨a',vs,ev,ha,hg,h0,_⟩:=I.sl i _ _ e es
 cases ev
 refine ⟨I.g0,I.gl,fun b o q=>by rw [c7 (d9 q hg)]; exact I.gh b o q,fun b o q=>by rw [c7 (d9 q h0)]; exact I.hh b o q,by rw [List.length_set]; exact I.len,fun j x o h1 h2=>?_,fun p q ws1 us c hab h1 h2 h3 h4=>?_⟩
 ·by_cases hj:i=j
  ·subst hj
   rw [List.getElem?_set] at h1
   simp only [if_true] at h1
   split at h1 <;> simp only [Option.some.injEq,reduceCtorEq] at h1
   subst h1
   rw [es] at h2; cases h2
   exact ⟨a,vs',rfl,g8,hg,h0,r⟩
  ·rw [List.getElem?_set_ne hj] at h1
   have:=I.sl j x o h1 h2
   cases x with
   | own us=>
    obtain ⟨b,us',eb,hb,hgb,h0b,rb⟩:=this
    subst eb
    have hne:b≠a:=by
     rintro rfl
     exact I.ne i j ws us b hj e h1 es h2
    exact ⟨b,us',rfl,by rw [c7 hne]; exact hb,hgb,h0b,rb⟩
   | dic ks=>
    obtain ⟨b,us',eb,hb,hgb,h0b,rb⟩:=this
    have hne:b≠a:=by
     rintro rfl
     rw [ha] at hb; cases hb
    exact ⟨b,us',eb,by rw [c7 hne]; exact hb,hgb,h0b,rb⟩
   | dik ks=>
    obtain ⟨b,us',eb,hb,hgb,h0b,rb⟩:=this
    have hne:b≠a:=by
     rintro rfl
     rw [ha] at hb; cases hb
    exact ⟨b,us',eb,by rw [c7 hne]; exact hb,hgb,h0b,rb⟩
   | un=>exact this
   | val _=>exact this
   | par _=>exact this
   | iop _ _=>exact this
   | hz _=>exact this
 ·have key:∀ {k:Nat} {us:List W},(ρ.set i (.own ws'))[k]?=some (.own us)->∃ us',ρ[k]?=some (.own us'):=fun {k us} hk=>by
   by_cases hik:i=k
   ·subst hik; exact ⟨ws,e⟩
   ·rw [List.getElem?_set_ne hik] at hk; exact ⟨us,hk⟩
  obtain ⟨w1,k1⟩:=key h1
  obtain ⟨w2,k2⟩:=key h2
  exact I.ne p q w1 w2 c hab k1 k2 h3 h4
theorem PIv.own_at {i:Nat} {ws:List W} (I:PIv K H0 G ρ σ H) (e:ρ[i]?=some (.own ws)):∃ a vs,σ[i]?=some (some (.ref a))/\H a=some (.lst vs)/\G a=none/\H0 a=none/\Reps K G vs ws:=by
 have hi:i<σ.length:=by rw [<- I.len]; exact (List.getElem?_eq_some_iff.mp e).1
 have es:σ[i]?=some σ[i]:=by simp
 obtain ⟨a,vs,ev,r⟩:=I.sl i _ _ e es
 exact ⟨a,vs,by rw [es,ev],r⟩
def W7 (i:Nat) (m:Rho->R W):Rho->R Fl:=fun ρ=>match ρ[i]? with
 | some (.own ws)=>m ρ>>=fun w=>if ws.length<1000 then .ok (.nx (ρ.set i (.own (ws ++ [w])))) else .stuck
 | _=>.stuck
theorem BF {i:Nat} {m:Rho->R W} (h:tSt K EX d (W7 i m) D σ H):jA (ou (O9 i) (tM K EX .V m)) D σ H:=by
 obtain ⟨H0,G,ρ,I,o⟩:=h
 unfold W7 at o
 split at o
 ·rename_i ws e
  obtain ⟨a,vs,es,ha,hg,h0,r⟩:=I.own_at e
  refine ⟨.ref a,es,a,rfl,⟨vs,ha⟩,H0,G,ρ,I,OutS.bind I o fun x G1 H1 w e1 m1 o1=>?_⟩
  by_cases hl:ws.length<1000
  ·rw [if_pos hl] at o1
   have h1:=e1.hh a _ ha
   dsimp only
   rw [h1]
   dsimp only
   have hlen:vs.length=ws.length:=r.length
   exact ⟨Nat.lt_of_lt_of_le (by omega:vs.length<1000) (by decide),o1 G1 σ _ (Same.refl _) ((I.ext e1).own_upd e es ((r.same e1.gg).snoc m1))⟩
  ·rw [if_neg hl] at o1; exact o1.elim
 ·exact o.elim
def bB (i:Nat) (mk me:Rho->R W):Rho->R Fl:=fun ρ=>match ρ[i]? with
 | some (.own ws)=>me ρ>>=fun w=>mk ρ>>=fun k=>(match k with
  | .int k=>(match ixN ws.length k with
   | some j=>.ok (.nx (ρ.set i (.own (ws.set j w))))
   | none=>.stuck)
  | _=>.stuck)
 | _=>.stuck
theorem Br {i:Nat} {mk me:Rho->R W} (h:tSt K EX d (bB i mk me) D σ H):P0 (tM K EX .V me) (gSub (O9 i) (tM K EX .B mk) rSetL) D σ H:=by
 obtain ⟨H0,G,ρ,I,o⟩:=h
 unfold bB at o
 split at o
 ·rename_i ws e
  obtain ⟨a,vs,es,ha,hg,h0,r⟩:=I.own_at e
  refine ⟨H0,G,ρ,I,OutS.bind I o fun x G1 H1 w e1 m1 o1=>⟨.ref a,es,H0,G1,ρ,I.ext e1,OutS.bind (I.ext e1) o1 fun y G2 H2 k e2 m2 o2=>?_⟩⟩
  cases k <;> first | exact o2.elim | skip
  rename_i k
  dsimp only at o2
  cases q:ixN ws.length k with
  | none=>rw [q] at o2; exact o2.elim
  | some j=>
   rw [q] at o2
   refine ⟨a,vs,k,j,rfl,m2.intB,e2.hh _ _ (e1.hh _ _ ha),by rw [r.length]; exact q,?_⟩
   exact o2 G2 σ _ (Same.refl _) (((I.ext e1).ext e2).own_upd e es (Reps.set (Rep.same e2.gg m1) j ((r.same e1.gg).same e2.gg)))
 ·exact o.elim
def gq (i:Nat) (f:Int->Int->Int) (m:Rho->R W):Rho->R Fl:=fun ρ=>b8 .B i ρ>>=fun x=>m ρ>>=fun y=>match x,y with
 | .int a,.int b=>.ok (.nx (ρ.set i (.val (.int (f a b)))))
 | _,_=>.stuck
theorem BD {i:Nat} {f:Int->Int->Int} {m:Rho->R W} (h:tSt K EX d (gq i f m) D σ H):vR i (tM K EX .B m) (ipI f) D σ H:=by
 obtain ⟨H0,G,ρ,I,o⟩:=h
 unfold gq at o
 have c:tM K EX .B (b8 .B i) σ H (fun x H1=>∃ G1 w,Ext G H G1 H1/\Md K H0 H G1 H1 x w .B/\OutS K EX d H0 G1 (m ρ>>=fun y=>match w,y with
   | .int a,.int b=>.ok (.nx (ρ.set i (.val (.int (f a b)))))
   | _,_=>.stuck) D):=⟨H0,G,ρ,I,OutS.bind I o fun x G1 H1 w e1 m1 o1=>⟨G1,w,e1,m1,o1⟩⟩
 obtain ⟨v,es,G1,w,e1,m1,o1⟩:=eU c
 have I1:=I.ext e1
 refine ⟨v,es,H0,G1,ρ,I1,OutS.bind I1 o1 fun y G2 H2 u e2 m2 o2=>?_⟩
 cases w <;> first | exact o2.elim | skip
 cases u <;> first | exact o2.elim | skip
 rename_i a b
 exact ⟨a,b,m1.intB,m2.intB,o2 G2 _ H2 (Same.refl _) ((I1.ext e2).setV .int)⟩
def mIf (c:Rho->R Bool) (m n:Rho->R Fl):Rho->R Fl:=fun ρ=>c ρ>>=fun b=>if b then m ρ else n ρ
theorem Bx {c:Rho->R Bool} {m n:Rho->R Fl} (h:tSt K EX d (mIf c m n) D σ H):ot (tT K EX c) (tSt K EX d m) (tSt K EX d n) D σ H:=by
 obtain ⟨H0,G,ρ,I,o⟩:=h
 refine ⟨H0,G,ρ,I,OutS.bind I o fun x G1 H1 w e1 m1 o1=>?_⟩
 cases m1
 cases x with
 | true=>exact ⟨H0,G1,ρ,I.ext e1,o1⟩
 | false=>exact ⟨H0,G1,ρ,I.ext e1,o1⟩
def frz (i:Nat) (ρ:Rho):Rho:=match ρ[i]? with
 | some (.own ws)=>ρ.set i (.val (.lst ws))
 | _=>ρ
theorem PIv.frz {i:Nat} (I:PIv K H0 G ρ σ H):∃ G',Same G G'/\PIv K H0 G' (frz i ρ) σ H:=by
 unfold TP.frz
 split
 ·rename_i ws e
  obtain ⟨a,vs,es,ha,hg,h0,r⟩:=I.own_at e
  have s1:Same G (upd G a (.lst vs)):=fun b o q=>by rw [c7 (d9 q hg)]; exact q
  refine ⟨upd G a (.lst vs),s1,?_⟩
  have I1:PIv K H0 G (ρ.set i .un) σ H:=by
   refine ⟨I.g0,I.gl,I.gh,I.hh,by rw [List.length_set]; exact I.len,fun j x o h1 h2=>?_,fun p q ws1 us c hab h1 h2 h3 h4=>?_⟩
   ·by_cases hj:i=j
    ·subst hj
     rw [List.getElem?_set] at h1
     simp only [if_true] at h1
     split at h1 <;> simp only [Option.some.injEq,reduceCtorEq] at h1
     subst h1; trivial
    ·rw [List.getElem?_set_ne hj] at h1; exact I.sl j x o h1 h2
   ·have na:i≠p:=by
     rintro rfl
     rw [List.getElem?_set] at h1
     simp only [if_true] at h1
     split at h1 <;> simp at h1
    have nb:i≠q:=by
     rintro rfl
     rw [List.getElem?_set] at h2
     simp only [if_true] at h2
     split at h2 <;> simp at h2
    rw [List.getElem?_set_ne na] at h1
    rw [List.getElem?_set_ne nb] at h2
    exact I.ne p q ws1 us c hab h1 h2 h3 h4
  have I2:PIv K H0 (upd G a (.lst vs)) (ρ.set i .un) σ H:=by
   refine ⟨fun b o q l=>s1 b o (I.g0 b o q l),fun b o q l=>by rw [c7 (d9 q h0)]; exact I.gl b o q l,fun b o q=>?_,I.hh,I1.len,fun j x o h1 h2=>?_,I1.ne⟩
   ·by_cases hb:b=a
    ·subst hb; rw [g8] at q; cases q; exact ha
    ·rw [c7 hb] at q; exact I.gh b o q
   ·have:=I1.sl j x o h1 h2
    cases x with
    | un=>trivial
    | val w=>obtain ⟨v,e1,r1⟩:=this; exact ⟨v,e1,r1.same s1⟩
    | par w=>obtain ⟨v,e1,r1⟩:=this; exact ⟨v,e1,r1.same (o6 s1)⟩
    | own us=>
     obtain ⟨b,us',eb,hb,hgb,h0b,rb⟩:=this
     subst eb
     have hij:i≠j:=by
      rintro rfl
      rw [List.getElem?_set] at h1
      simp only [if_true] at h1
      split at h1 <;> simp at h1
     rw [List.getElem?_set_ne hij] at h1
     have hne:b≠a:=by
      rintro rfl
      exact I.ne i j ws us b hij e h1 es h2
     exact ⟨b,us',rfl,hb,by rw [c7 hne]; exact hgb,h0b,rb.same s1⟩
    | dic ks=>
     obtain ⟨b,us',eb,hb,hgb,h0b,rb⟩:=this
     have hne:b≠a:=by
      rintro rfl
      rw [ha] at hb; cases hb
     exact ⟨b,us',eb,hb,by rw [c7 hne]; exact hgb,h0b,rb⟩
    | dik ks=>
     obtain ⟨b,us',eb,hb,hgb,h0b,rb⟩:=this
     have hne:b≠a:=by
      rintro rfl
      rw [ha] at hb; cases hb
     exact ⟨b,us',eb,hb,by rw [c7 hne]; exact hgb,h0b,rb⟩
    | iop p us=>obtain ⟨e1,vs1,h1',r1⟩:=this; exact ⟨e1,vs1,h1',r1.same s1⟩
    | hz w=>obtain ⟨v,e,r⟩:=this; exact ⟨v,e,r.same (o6 (M6 s1))⟩
  have I3:=I2.setV (i:=i) (v:=.ref a) (w:=.lst ws) (.lst g8 (r.same s1))
  have e3:σ.set i (some (V.ref a))=σ:=by
   apply List.ext_getElem?
   intro j
   by_cases hj:i=j
   ·subst hj; rw [es,List.getElem?_set]; simp only [if_true]; rw [if_pos (List.getElem?_eq_some_iff.mp es).1]
   ·rw [List.getElem?_set_ne hj]
  rw [e3,List.set_set] at I3
  exact I3
 ·exact ⟨G,Same.refl G,I⟩
theorem BA {i:Nat} {m:Rho->R Fl} (h:tSt K EX d (fun ρ=>m (frz i ρ)) D σ H):tSt K EX d m D σ H:=by
 obtain ⟨H0,G,ρ,I,o⟩:=h
 obtain ⟨G',s,I'⟩:=I.frz (i:=i)
 exact ⟨H0,G',_,I',OutS.move s o⟩
end
end TP
namespace TP
open PySem L2
section
variable {K:Frag} {EX:EXT} {H0 G H G1 H1 G2 H2:Hp} {ρ:Rho} {σ:St} {d:Mode} {D:Ends}
structure aB (K:Frag) (e:Mode) (H0 Z G:Hp) (J:It) (ws:List W):Prop where
 go:∀ i H,i<ws.length->Same Z H->J.go i H
 stop:∀ H,Same Z H->J.stop ws.length H
 yld:∀ i H x H' w,ws[i]?=some w->Same Z H->J.yld i H x H'->∀ G2 ρ σ,PIv K H0 G2 ρ σ H->Same G G2->∃ G3,Ext G2 H G3 H'/\Md K H0 H G3 H' x w e
def hX (K:Frag) (EX:EXT) (lp:Bool) (e:Mode) (H0 G H:Hp) (r:R (List W)) (Rr:It->Hp->Prop):Prop:=match r with
 | .ok ws=>∀ J G' H',Ext G H G' H'->aB K e H0 (if lp then join H0 G' else H') G' J ws->Rr J H'
 | .ex x=>∀ H',Same H H'->EX x H'
 | .stuck=>False
def tIt (K:Frag) (EX:EXT) (lp:Bool) (e:Mode) (m:Rho->R (List W)):TI:=fun σ H Rr=>∃ H0 G ρ,PIv K H0 G ρ σ H/\hX K EX lp e H0 G H (m ρ) Rr
def A4 (mg:W->Rho->Option Rho) (mb:Rho->R Fl):List W->Rho->R Fl
 | [],ρ=>.ok (.nx ρ)
 | w::ws,ρ=>toR (mg w ρ)>>=fun ρ1=>mb ρ1>>=fun f=>match f with
  | .nx ρ2=>A4 mg mb ws ρ2
  | .ct ρ2=>A4 mg mb ws ρ2
  | .bk ρ2=>.ok (.nx ρ2)
  | .rt w=>.ok (.rt w)
theorem BB {e:Mode} {g:TG} {mg:W->Rho->Option Rho} {mi:Rho->R (List W)} {mb:Rho->R Fl} (hg:Gt K e g mg) (h:tSt K EX d (fun ρ=>mi ρ>>=fun ws=>A4 mg mb ws ρ) D σ H) :
  vP (tIt K EX true e mi) g (tSt K EX d mb) D σ H:=by
 obtain ⟨H0,G,ρ,I,o⟩:=h
 refine ⟨H0,G,ρ,I,?_⟩
 replace o:OutS K EX d H0 G (mi ρ>>=fun ws=>A4 mg mb ws ρ) D:=o
 revert o
 cases mi ρ with
 | stuck=>exact id
 | ex x=>exact fun o H' s=>o H' (I.hh.trans s)
 | ok ws=>
  intro o J G1 H1 e1 T
  have o1:OutS K EX d H0 G1 (A4 mg mb ws ρ) D:=OutS.move e1.gg o
  refine ⟨fun i m σ H=>m=ws.length-i/\i<=ws.length/\∃ G2 ρ2,Same G1 G2/\PIv K H0 G2 ρ2 σ H/\OutS K EX d H0 G2 (A4 mg mb (ws.drop i) ρ2) D,⟨_,rfl,Nat.zero_le _,G1,ρ,Same.refl _,I.ext e1,o1⟩,?_⟩
  rintro i m σ2 Hh ⟨rfl,hi,G2,ρ2,s2,I2,o2⟩
  have hz:Same (join H0 G1) Hh:=(o6 s2).trans I2.join_H
  by_cases hlt:i<ws.length
  ·refine .inr ⟨T.go i Hh hlt hz,fun σ' H'=>∃ G4 ρ4,Same G1 G4/\PIv K H0 G4 ρ4 σ' H'/\OutS K EX d H0 G4 (A4 mg mb (ws.drop (i+1)) ρ4) D,fun σ' H' zz76=>by obtain ⟨G4,ρ4,s4,I4,o4⟩:=zz76; exact ⟨ws.length-(i+1),by omega,rfl,hlt,G4,ρ4,s4,I4,o4⟩,fun x H' y=>?_⟩
   obtain ⟨G3,e3,m3⟩:=T.yld i Hh x H' ws[i] (by simp) hz y G2 ρ2 σ2 I2 s2
   rw [List.drop_eq_getElem_cons hlt] at o2
   unfold A4 at o2
   cases q:mg ws[i] ρ2 with
   | none=>rw [q] at o2; exact o2.elim
   | some ρ'=>
    rw [q] at o2
    refine hg H0 Hh G3 ρ2 σ2 H' x _ ρ' _ (I2.ext e3) m3 q fun σ' I'=>⟨H0,G3,ρ',I',?_⟩
    have o3:OutS K EX d H0 G3 (mb ρ'>>=fun f=>match f with
     | .nx ρ2=>A4 mg mb (ws.drop (i+1)) ρ2
     | .ct ρ2=>A4 mg mb (ws.drop (i+1)) ρ2
     | .bk ρ2=>.ok (.nx ρ2)
     | .rt w=>.ok (.rt w)) D:=OutS.move e3.gg o2
    revert o3
    have s3:Same G1 G3:=s2.trans e3.gg
    cases mb ρ' with
    | stuck=>exact id
    | ex x=>exact id
    | ok f=>
     cases f with
     | nx ρ4=>exact fun o4 G4 σ4 H4 s4 I4=>⟨G4,ρ4,s3.trans s4,I4,OutS.move s4 o4⟩
     | ct ρ4=>exact fun o4 G4 σ4 H4 s4 I4=>⟨G4,ρ4,s3.trans s4,I4,OutS.move s4 o4⟩
     | bk ρ4=>exact id
     | rt w=>exact id
  ·have e:i=ws.length:=by omega
   subst e
   refine .inl ⟨T.stop Hh hz,?_⟩
   rw [List.drop_length] at o2
   exact o2 G2 σ2 Hh (Same.refl _) I2
def C7 (c:Rho->R Bool) (b:Rho->R Fl):Nat->Rho->Option (R Fl)
 | 0,_=>none
 | n+1,ρ=>match c ρ with
  | .ok false=>some (.ok (.nx ρ))
  | .ok true=>(match b ρ with
   | .ok (.nx ρ')=>C7 c b n ρ'
   | .ok (.ct ρ')=>C7 c b n ρ'
   | .ok (.bk ρ')=>some (.ok (.nx ρ'))
   | .ok (.rt w)=>some (.ok (.rt w))
   | .ex e=>some (.ex e)
   | .stuck=>some .stuck)
  | .ex e=>some (.ex e)
  | .stuck=>some .stuck
theorem W9 {c:Rho->R Bool} {b:Rho->R Fl}:∀ (n:Nat) (ρ:Rho) (r:R Fl),C7 c b n ρ=some r->∀ m,n<=m->C7 c b m ρ=some r:=by
 intro n
 induction n with
 | zero=>intro ρ r h; cases h
 | succ n ih=>
  intro ρ r h m hm
  obtain ⟨k,rfl⟩:∃ k,m=k+1:=⟨m-1,by omega⟩
  have hk:=Nat.le_of_succ_le_succ hm
  unfold C7 at h ⊢
  revert h
  cases c ρ with
  | ex e=>exact id
  | stuck=>exact id
  | ok t=>
   cases t with
   | false=>exact id
   | true=>
    cases b ρ with
    | ex e=>exact id
    | stuck=>exact id
    | ok f=>
     cases f with
     | nx ρ'=>exact fun h=>ih ρ' r h k hk
     | ct ρ'=>exact fun h=>ih ρ' r h k hk
     | bk ρ'=>exact id
     | rt w=>exact id
open Classical in
def E9 (c:Rho->R Bool) (b:Rho->R Fl):Rho->R Fl:=fun ρ=>if h:∃ r n,C7 c b n ρ=some r then h.choose else .stuck
theorem ee {c:Rho->R Bool} {b:Rho->R Fl} {n:Nat} {r:R Fl} (h:C7 c b n ρ=some r):E9 c b ρ=r:=by
 unfold E9
 have hx:∃ r n,C7 c b n ρ=some r:=⟨r,n,h⟩
 rw [dif_pos hx]
 obtain ⟨m,hm⟩:=hx.choose_spec
 have a:=W9 n ρ r h (max n m) (Nat.le_max_left _ _)
 have b:=W9 m ρ _ hm (max n m) (Nat.le_max_right _ _)
 rw [a] at b
 exact (Option.some.inj b).symm
theorem vc {c:Rho->R Bool} {b:Rho->R Fl} (h:tSt K EX d (E9 c b) D σ H):kX (tT K EX c) (tSt K EX d b) D σ H:=by
 obtain ⟨H0,G,ρ,I,o⟩:=h
 by_cases hx:∃ r n,C7 c b n ρ=some r
 ·obtain ⟨r,n,hn⟩:=hx
  rw [ee hn] at o
  refine ⟨fun m σ2 Hh=>∃ G2 ρ2,Same G G2/\PIv K H0 G2 ρ2 σ2 Hh/\C7 c b m ρ2=some r,⟨n,G,ρ,Same.refl _,I,hn⟩,?_⟩
  rintro m σ2 Hh ⟨G2,ρ2,s2,I2,h2⟩
  have o2:OutS K EX d H0 G2 r D:=OutS.move s2 o
  refine ⟨H0,G2,ρ2,I2,?_⟩
  cases m with
  | zero=>cases h2
  | succ m=>
   unfold C7 at h2
   revert h2
   cases c ρ2 with
   | stuck=>intro h2; cases h2; exact o2
   | ex x=>intro h2; cases h2; exact fun H' s=>o2 H' (I2.hh.trans s)
   | ok t=>
    cases t with
    | false=>
     intro h2; cases h2
     intro v G3 H3 e3 q
     cases q
     rw [if_neg Bool.false_ne_true]
     exact o2 G3 σ2 H3 e3.gg (I2.ext e3)
    | true=>
     intro h2 v G3 H3 e3 q
     cases q
     rw [if_pos rfl]
     refine ⟨fun σ' H'=>∃ G4 ρ4,Same G G4/\PIv K H0 G4 ρ4 σ' H'/\C7 c b m ρ4=some r,fun σ' H' zz77=>by obtain ⟨G4,ρ4,s4,I4,h4⟩:=zz77; exact ⟨m,Nat.lt_succ_self m,G4,ρ4,s4,I4,h4⟩,H0,G3,ρ2,I2.ext e3,?_⟩
     have o3:OutS K EX d H0 G3 r D:=OutS.move e3.gg o2
     have s3:Same G G3:=s2.trans e3.gg
     revert h2
     cases b ρ2 with
     | stuck=>intro h2; cases h2; exact o3
     | ex x=>intro h2; cases h2; exact o3
     | ok f=>
      cases f with
      | nx ρ4=>exact fun h2 G4 σ4 H4 s4 I4=>⟨G4,ρ4,s3.trans s4,I4,h2⟩
      | ct ρ4=>exact fun h2 G4 σ4 H4 s4 I4=>⟨G4,ρ4,s3.trans s4,I4,h2⟩
      | bk ρ4=>intro h2; cases h2; exact o3
      | rt w=>intro h2; cases h2; exact o3
 ·unfold E9 at o
  rw [dif_neg hx] at o
  exact o.elim
theorem Md.whole {v:V} {w:W} {Hs:Hp} (I:PIv K H0 G ρ σ H) (h:Md K H0 Hs G H v w .B):Rep K H v w:=by
 rcases h with h | ⟨a,vs,ws,rfl,rfl,h1,r⟩
 ·exact h.same I.join_H
 ·exact .lst h1 (r.same I.gh)
theorem MdA.whole {Hs:Hp} (I:PIv K H0 G ρ σ H) {ws:List W} {vs:List V} (h:MdA K .B H0 Hs G H ws vs):Reps K H vs ws:=
 @MdA.rec K .B H0 Hs G H (fun ws vs _=>Reps K H vs ws) .nil (fun h _ b=>.cons (h.whole I) b) ws vs h
def XE (_:XK):EXT:=fun _ _=>False
def spM (K:Frag) (n:Nat) (d:Mode) (f:List W->R W):Sp:=fun vs H Q E=>vs.length=n/\∃ ws,Reps K H vs ws/\match f ws with
 | .ok w=>∀ v G' H',Same H H'->Same G' H'->(∀ a o,H a=some o->isL o=true->G' a=none)->Md K H H G' H' v w d->Q v H'
 | .ex e=>∀ H',Same H H'->XE E e H'
 | .stuck=>False
def g7 (n N:Nat) (m:Rho->R Fl) (ws:List W):R W:=if ws.length=n then (m (ws.map Sl.par++List.replicate (N-n) Sl.un)>>=fun f=>match f with
 | .rt w=>.ok w
 | .nx _=>.ok .non
 | _=>.stuck) else .stuck
theorem fq {n N:Nat} {m:Rho->R Fl} (ws:List W) (h:g7 n N m ws≠.stuck):ws.length=n:=by
 unfold g7 at h
 by_cases e:ws.length=n
 ·exact e
 ·rw [if_neg e] at h; exact absurd rfl h
def both (G G':Hp):Hp:=fun b=>match G b with
 | some o=>some o
 | none=>G' b
theorem Af {n:Nat} {f:List W->R W} {E:XK} {ma:Rho->R (List W)} {Q:VK} (hd:d=.F\/d=.V) (hf:∀ ws,f ws≠.stuck->ws.length=n) (hE:∀ e H,EX e H->XE E e H) (h:tM K EX d (fun ρ=>ma ρ>>=fun ws=>f ws) σ H Q) :
  jB (spM K n d f) [] E (tA K EX .B ma) σ H Q:=by
 obtain ⟨H0,G,ρ,I,o⟩:=h
 refine ⟨H0,G,ρ,I,Out.bind o fun xs G1 H1 ws e1 m1 o1=>?_⟩
 have I1:=I.ext e1
 have r:=MdA.whole I1 m1
 rw [List.append_nil]
 refine ⟨?_,ws,r,?_⟩
 ·rw [r.length]
  refine hf ws fun z=>?_
  rw [z] at o1; exact o1
 ·revert o1
  cases f ws with
  | stuck=>exact id
  | ex e=>exact fun o1 H' s=>hE e H' (o1 H' s)
  | ok w=>
   intro o1 v G' H' sH gH cl md
   have sB:Same G1 (both G1 G'):=fun b o q=>by unfold both; rw [q]
   have sB':Same G' (both G1 G'):=fun b o q=>by
    unfold both
    cases q1:G1 b with
    | none=>exact q
    | some u=>
     have a1:=sH b u (I1.gh b u q1)
     rw [gH b o q] at a1
     exact a1.symm
   have sHB:Same (both G1 G') H':=fun b o q=>by
    unfold both at q
    cases q1:G1 b with
    | none=>rw [q1] at q; exact gH b o q
    | some u=>rw [q1] at q; cases q; exact sH b _ (I1.gh b _ q1)
   have ex:Ext G1 H1 (both G1 G') H':=⟨sB,sH,sHB,fun b o q l g=>by unfold both; rw [g]; exact cl b o q l⟩
   refine o1 v (both G1 G') H' ex ?_
   rcases hd with rfl | rfl
   ·cases w with
    | lst us=>
     obtain ⟨a,vs,rfl,h1,h2,h3,r3⟩:=md
     exact ⟨a,vs,rfl,h1,by unfold both; rw [I1.gh.free h3]; exact h2,e1.hh.free h3,r3.same sB'⟩
    | non=>exact Rep.same sB' md
    | bl _=>exact Rep.same sB' md
    | int _=>exact Rep.same sB' md
    | str _=>exact Rep.same sB' md
    | ty _=>exact Rep.same sB' md
    | tup _=>exact Rep.same sB' md
    | scr _=>exact Rep.same sB' md
    | exc _ _=>exact Rep.same sB' md
    | cls _=>exact Rep.same sB' md
   ·exact Rep.same sB' md
def ad (H:Hp):Hp:=fun a=>match H a with
 | some o=>if isL o then none else some o
 | none=>none
theorem mQ:join H (ad H)=H:=by
 funext a
 unfold join ad
 cases q:H a with
 | none=>rfl
 | some o=>
  dsimp only
  cases isL o <;> rfl
theorem Reps.slots {vs:List V} {ws:List W} {i:Nat} {x:Sl} {o:Option V} {k k':Nat} (r:Reps K H vs ws):(ws.map Sl.par++List.replicate k Sl.un)[i]?=some x->(vs.map some++List.replicate k' none)[i]?=some o->x=.un\/∃ v w,x=.par w/\o=some v/\Rep K H v w:=
 Reps.ind (P:=fun vs ws=>∀ i,(ws.map Sl.par++List.replicate k Sl.un)[i]?=some x->(vs.map some++List.replicate k' none)[i]?=some o->x=.un\/∃ v w,x=.par w/\o=some v/\Rep K H v w) (fun i h1 h2=>by
  have h1:(List.replicate k Sl.un)[i]?=some x:=h1
  rw [List.getElem?_replicate] at h1
  by_cases hk:i<k
  ·rw [if_pos hk] at h1; exact .inl (Option.some.inj h1).symm
  ·rw [if_neg hk] at h1; cases h1) (fun r _ b i h1 h2=>by
  cases i with
  | zero=>exact .inr ⟨_,_,(Option.some.inj h1).symm,(Option.some.inj h2).symm,r⟩
  | succ i=>exact b i h1 h2) r i
theorem PIv.begin {vs:List V} {ws:List W} {k k':Nat} (r:Reps K H vs ws) (hk:k=k'):PIv K H (ad H) (ws.map Sl.par++List.replicate k Sl.un) (vs.map some++List.replicate k' none) H where
 g0 a o e l:=by unfold ad; rw [e]; dsimp only; rw [l]; rfl
 gl a o e l:=by unfold ad; rw [e]; dsimp only; rw [l]; rfl
 gh a o e:=by
  unfold ad at e
  cases q:H a with
  | none=>rw [q] at e; cases e
  | some u=>
   rw [q] at e
   dsimp only at e
   cases hl:isL u
   ·rw [hl] at e; exact e
   ·rw [hl] at e; cases e
 hh:=Same.refl H
 len:=by subst hk; simp [r.length]
 sl i x o h1 h2:=by
  rcases Reps.slots r h1 h2 with rfl | ⟨v,w,rfl,rfl,q⟩
  ·trivial
  ·exact ⟨v,rfl,by rw [mQ]; exact q⟩
 ne i j us xs a hij h1 _ _ _:=by
  have:∀ (i:Nat) (us:List W),(ws.map Sl.par++List.replicate k Sl.un)[i]?≠some (Sl.own us):=fun i us q=>by
   rw [List.getElem?_append] at q
   split at q
   ·rw [List.getElem?_map] at q
    cases hh:ws[i]? <;> rw [hh] at q <;> cases q
   ·rw [List.getElem?_replicate] at q
    split at q <;> cases q
  exact absurd h1 (this i us)
theorem nJ {n:Nat} {Nl:List Str} {m:Rho->R Fl} {vs:List V} {Q:VK} {E:XK} (hd:d=.F\/d=.V) (h:spM K n d (g7 n Nl.length m) vs H Q E):tSt K (fun _ _=>False) d m { nx:=fun _ H'=>Q .non H',rt:=Q } (L2.start Nl vs) H:=by
 obtain ⟨hl,ws,r,o⟩:=h
 have hw:ws.length=n:=by rw [<- r.length]; exact hl
 unfold g7 at o
 rw [if_pos hw] at o
 refine ⟨H,ad H,_,PIv.begin (k:=Nl.length-n) r (by rw [hl]),?_⟩
 revert o
 cases m (ws.map Sl.par++List.replicate (Nl.length-n) Sl.un) with
 | stuck=>exact id
 | ex e=>exact fun o=>(o H (Same.refl H)).elim
 | ok f=>
  cases f with
  | nx ρ'=>exact fun o G' σ' H' s' I'=>o .non G' H' I'.hh I'.gh I'.gl (Md.sca rfl (fun _=>.non) d)
  | rt w=>exact fun o v G' H' _ s1 s2 c md=>o v G' H' s2 s1 c md
  | bk _=>exact fun o=>o.elim
  | ct _=>exact fun o=>o.elim
end
end TP
namespace TP
open PySem L2
section
variable {K:Frag} {EX:EXT} {H0 G H G1 H1 G2 H2:Hp} {ρ:Rho} {σ:St} {d:Mode} {D:Ends}
def elR (mg:W->Rho->Option Rho) (mc:Rho->R Bool) (me:Rho->R W) (ρ:Rho) (w:W):R (Option W):=match mg w ρ with
 | none=>.stuck
 | some ρ1=>(match mc ρ1 with
  | .ok true=>(match me ρ1 with
   | .ok y=>.ok (some y)
   | _=>.stuck)
  | .ok false=>.ok none
  | _=>.stuck)
def mapR (f:W->R (Option W)):List W->R (List W)
 | []=>.ok []
 | w::ws=>match f w,mapR f ws with
  | .ok (some y),.ok ys=>.ok (y::ys)
  | .ok none,.ok ys=>.ok ys
  | _,_=>.stuck
def k4 (N':Nat) (mg:W->Rho->Option Rho) (mc:Rho->R Bool) (me:Rho->R W) (ws:List W) (ρ:Rho):R W:=
 if ws.length<=1000 then (match mapR (elR mg mc me (ρ++List.replicate (N'-ρ.length) Sl.un)) ws with
  | .ok ys=>.ok (.lst ys)
  | _=>.stuck) else .stuck
theorem ug {f:W->R (Option W)}:∀ {ws ys:List W},mapR f ws=.ok ys->(∀ w∈ws,∃ o,f w=.ok o)/\ys=ws.filterMap fun w=>match f w with
  | .ok o=>o
  | _=>none:=by
 intro ws
 induction ws with
 | nil=>intro ys h; cases h; exact ⟨by simp,rfl⟩
 | cons w ws ih=>
  intro ys h
  unfold mapR at h
  cases hf:f w with
  | stuck=>rw [hf] at h; cases h
  | ex e=>rw [hf] at h; cases h
  | ok o=>
   rw [hf] at h
   cases hm:mapR f ws with
   | stuck=>rw [hm] at h; cases o <;> cases h
   | ex e=>rw [hm] at h; cases o <;> cases h
   | ok zs=>
    rw [hm] at h
    obtain ⟨h1,h2⟩:=ih hm
    refine ⟨fun u hu=>?_,?_⟩
    ·rcases List.mem_cons.mp hu with rfl | hu
     ·exact ⟨o,hf⟩
     ·exact h1 u hu
    ·cases o with
     | none=>cases h; rw [List.filterMap_cons,hf]; exact h2
     | some y=>cases h; rw [List.filterMap_cons,hf,h2]
theorem PIv.inner {N':List Str} (I:PIv K H0 G ρ σ H):PIv K H0 G (ρ++List.replicate (N'.length-ρ.length) Sl.un) (inner N' σ) H:=by
 have hl:=I.len
 unfold L2.inner
 rw [hl]
 refine ⟨I.g0,I.gl,I.gh,I.hh,by simp [hl],fun i x o h1 h2=>?_,fun p q ws us c hab h1 h2 h3 h4=>?_⟩
 ·by_cases hi:i<ρ.length
  ·rw [List.getElem?_append_left hi] at h1
   rw [List.getElem?_append_left (by omega)] at h2
   exact I.sl i x o h1 h2
  ·rw [List.getElem?_append_right (by omega),List.getElem?_replicate] at h1
   split at h1 <;> simp only [Option.some.injEq,reduceCtorEq] at h1
   subst h1; trivial
 ·have key:∀ {k:Nat} {us:List W},(ρ++List.replicate (N'.length-σ.length) Sl.un)[k]?=some (Sl.own us)->k<ρ.length/\ρ[k]?=some (Sl.own us):=fun {k us} hk=>by
   by_cases hi:k<ρ.length
   ·rw [List.getElem?_append_left hi] at hk; exact ⟨hi,hk⟩
   ·rw [List.getElem?_append_right (by omega),List.getElem?_replicate] at hk
    split at hk <;> simp at hk
  obtain ⟨l1,k1⟩:=key h1
  obtain ⟨l2,k2⟩:=key h2
  rw [List.getElem?_append_left (by omega)] at h3 h4
  exact I.ne p q ws us c hab k1 k2 h3 h4
open Classical in
def rest (G H:Hp) (Dd:Addr) (H':Hp):Hp:=fun b=>if b=Dd\/∃ o,H b=some o/\isL o=true/\G b=none then none else H' b
theorem z9 {Dd b:Addr} {H':Hp} (h:b=Dd\/∃ o,H b=some o/\isL o=true/\G b=none):rest G H Dd H' b=none:=by unfold rest; rw [if_pos h]
theorem R5 {Dd b:Addr} {H':Hp} (h:¬ (b=Dd\/∃ o,H b=some o/\isL o=true/\G b=none)):rest G H Dd H' b=H' b:=by unfold rest; rw [if_neg h]
theorem iG {Dd b:Addr} {H':Hp} {o:HO} (h:rest G H Dd H' b=some o):H' b=some o/\¬ (b=Dd\/∃ o,H b=some o/\isL o=true/\G b=none):=by
 by_cases c:b=Dd\/∃ o,H b=some o/\isL o=true/\G b=none
 ·rw [z9 c] at h; cases h
 ·rw [R5 c] at h; exact ⟨h,c⟩
theorem PIv.rest {Dd:Addr} {H':Hp} (I:PIv K H0 G ρ σ H) (hD:H Dd=none) (s:Same H H'):Same G (rest G H Dd H')/\PIv K H0 (rest G H Dd H') ρ σ H':=by
 have sG:Same G (TP.rest G H Dd H'):=fun b o q=>by
  rw [R5]
  ·exact s b o (I.gh b o q)
  ·rintro (rfl | ⟨u,h1,h2,h3⟩)
   ·rw [I.gh _ _ q] at hD; cases hD
   ·rw [q] at h3; cases h3
 refine ⟨sG,fun a o e l=>sG a o (I.g0 a o e l),fun a o e l=>z9 (.inr ⟨o,I.hh a o e,l,I.gl a o e l⟩),fun b o q=>(iG q).1,I.hh.trans s,I.len,fun i x o h1 h2=>?_,I.ne⟩
 have:=I.sl i x o h1 h2
 cases x with
 | un=>trivial
 | val w=>obtain ⟨v,e,r⟩:=this; exact ⟨v,e,r.same sG⟩
 | par w=>obtain ⟨v,e,r⟩:=this; exact ⟨v,e,r.same (o6 sG)⟩
 | own ws=>
  obtain ⟨a,vs,e,h,g,h0,r⟩:=this
  exact ⟨a,vs,e,s a _ h,z9 (.inr ⟨_,h,rfl,g⟩),h0,r.same sG⟩
 | dic ks=>
  obtain ⟨a,vs,e,h,g,h0,r⟩:=this
  exact ⟨a,vs,e,s a _ h,z9 (.inr ⟨_,h,rfl,g⟩),h0,r⟩
 | dik ks=>
  obtain ⟨a,vs,e,h,g,h0,r⟩:=this
  exact ⟨a,vs,e,s a _ h,z9 (.inr ⟨_,h,rfl,g⟩),h0,r⟩
 | iop p ws=>obtain ⟨e1,vs1,h1',r1⟩:=this; exact ⟨e1,vs1,h1',r1.same sG⟩
 | hz w=>obtain ⟨v,e,r⟩:=this; exact ⟨v,e,r.same (o6 (M6 sG))⟩
theorem Z5 {Dd:Addr} {Ha Hb:Hp} (s:∀ b o,b≠Dd->Ha b=some o->Hb b=some o):Same (rest G H Dd Ha) (rest G H Dd Hb):=fun b o q=>by
 obtain ⟨h,c⟩:=iG q
 rw [R5 c]
 exact s b o (fun z=>c (.inl z)) h
theorem oR {Dd:Addr} {Ha Hb G':Hp} (hl:∃ ys,Ha Dd=some (.lst ys)) (s:Same H Ha) (e:Ext (rest G H Dd Ha) Ha G' Hb):Same G' (rest G H Dd Hb):=fun b o q=>by
 rw [R5]
 ·exact e.gh b o q
 ·rintro (rfl | ⟨u,h1,h2,h3⟩)
  ·obtain ⟨ys,hl⟩:=hl
   rw [e.keep _ _ hl rfl (z9 (.inl rfl))] at q; cases q
  ·rw [e.keep _ _ (s _ _ h1) h2 (z9 (.inr ⟨u,h1,h2,h3⟩))] at q; cases q
theorem gU {Q:VK} {e:Mode} {N':List Str} {g:TG} {mg:W->Rho->Option Rho} {mi:Rho->R (List W)} {mc:Rho->R Bool} {me:Rho->R W} (hg:Gt K e g mg) (h:tM K EX .F (fun ρ=>mi ρ>>=fun ws=>k4 N'.length mg mc me ws ρ) σ H Q) :
  eK N' (tIt K EX false e mi) g (tT K EX mc) (tM K EX .V me) σ H Q:=by
 obtain ⟨H0,G,ρ,I,o⟩:=h
 refine ⟨H0,G,ρ,I,?_⟩
 replace o:Out EX G H (mdW K .F H0 H) (mi ρ>>=fun ws=>k4 N'.length mg mc me ws ρ) Q:=o
 revert o
 cases mi ρ with
 | stuck=>exact id
 | ex x=>exact id
 | ok ws=>
  intro o J G1 H1 e1 T Dd hD
  have I1:=I.ext e1
  replace o:Out EX G H (mdW K .F H0 H) (k4 N'.length mg mc me ws ρ) Q:=o
  unfold k4 at o
  by_cases hlen:ws.length<=1000
  ·rw [if_pos hlen] at o
   cases hm:mapR (elR mg mc me (ρ++List.replicate (N'.length-ρ.length) Sl.un)) ws with
   | stuck=>rw [hm] at o; exact o.elim
   | ex x=>rw [hm] at o; exact o.elim
   | ok ys=>
    rw [hm] at o
    obtain ⟨hall,hys⟩:=ug hm
    have T':aB K e H0 H1 G1 J ws:=by
     have:=T
     rw [if_neg Bool.false_ne_true] at this
     exact this
    generalize hρ:ρ++List.replicate (N'.length-ρ.length) Sl.un=ρi at hm hall hys
    refine ⟨fun i m H2=>m=ws.length-i/\i<=ws.length/\Same H1 H2/\∃ vs,H2 Dd=some (.lst vs)/\vs.length<=i/\Reps K (rest G1 H1 Dd H2) vs ((ws.take i).filterMap fun w=>match elR mg mc me ρi w with
     | .ok o=>o
     | _=>none),⟨_,rfl,Nat.zero_le _,fun b u q=>by rw [c7 (d9 q hD)]; exact q,[],g8,Nat.le_refl _,.nil⟩,?_⟩
    rintro i m H2 ⟨rfl,hi,s2,vs,hDv,hvl,r2⟩
    by_cases hlt:i<ws.length
    ·refine .inr ⟨T'.go i H2 hlt s2,fun x H3 y=>?_⟩
     obtain ⟨sG,I2⟩:=I1.rest (Dd:=Dd) hD s2
     have I2i:=I2.inner (N':=N')
     obtain ⟨G3,e3,m3⟩:=T'.yld i H2 x H3 ws[i] (by simp) s2 y _ _ _ I2i sG
     obtain ⟨op,hop⟩:=hall ws[i] (List.getElem_mem hlt)
     have hop':=hop
     unfold elR at hop
     rw [<- hρ] at hop
     have htake:ws.take (i+1)=ws.take i ++ [ws[i]]:=by rw [List.take_succ_eq_append_getElem hlt]
     cases q:mg ws[i] (ρ++List.replicate (N'.length-ρ.length) Sl.un) with
     | none=>rw [q] at hop; cases hop
     | some ρ1=>
      rw [q] at hop
      dsimp only at hop
      refine hg H0 H2 G3 _ _ H3 x _ ρ1 _ (I2i.ext e3) m3 q fun σ4 I4=>⟨H0,G3,ρ1,I4,?_⟩
      cases hc:mc ρ1 with
      | stuck=>rw [hc] at hop; cases hop
      | ex x=>rw [hc] at hop; cases hop
      | ok b=>
       intro b' G5 H5 e5 eb
       cases eb
       rw [hc] at hop
       cases b with
       | false=>
        rw [if_neg Bool.false_ne_true]
        have hop2:op=none:=by cases hop; rfl
        have s5:Same H2 H5:=e3.hh.trans e5.hh
        refine ⟨ws.length-(i+1),by omega,rfl,hlt,s2.trans s5,vs,s5 _ _ hDv,by omega,?_⟩
        rw [htake,List.filterMap_append]
        have:([ws[i]].filterMap fun w=>match elR mg mc me ρi w with
         | .ok o=>o
         | _=>none) = []:=by
         rw [List.filterMap_cons,hop',hop2]; rfl
        rw [this,List.append_nil]
        exact r2.same (Z5 fun b o _ q=>s5 b o q)
       | true=>
        dsimp only at hop
        rw [if_pos rfl]
        refine ⟨H0,G5,ρ1,I4.ext e5,?_⟩
        cases hme:me ρ1 with
        | stuck=>rw [hme] at hop; cases hop
        | ex x=>rw [hme] at hop; cases hop
        | ok z=>
         rw [hme] at hop
         have hop2:op=some z:=by cases hop; rfl
         intro yv G6 H6 e6 m6
         have e36:Ext (TP.rest G1 H1 Dd H2) H2 G6 H6:=(e3.trans e5).trans e6
         have s6:Same H2 H6:=e36.hh
         refine ⟨vs,s6 _ _ hDv,Nat.lt_of_le_of_lt hvl (Nat.lt_of_lt_of_le (by omega:i<1000) (by decide)),ws.length-(i+1),by omega,rfl,hlt,fun b u q=>by rw [c7 (d9 q hD)]; exact s6 b u (s2 b u q),vs ++ [yv],g8,by rw [List.length_append]; simp; omega,?_⟩
         rw [htake,List.filterMap_append]
         have:([ws[i]].filterMap fun w=>match elR mg mc me ρi w with
          | .ok o=>o
          | _=>none) = [z]:=by
          rw [List.filterMap_cons,hop',hop2]; rfl
         rw [this]
         have k1:Same (TP.rest G1 H1 Dd H2) (TP.rest G1 H1 Dd (upd H6 Dd (.lst (vs ++ [yv])))):=Z5 fun b o hb q=>by rw [c7 hb]; exact s6 b o q
         have k2:Same G6 (TP.rest G1 H1 Dd (upd H6 Dd (.lst (vs ++ [yv])))):=(oR ⟨vs,hDv⟩ s2 e36).trans (Z5 fun b o hb q=>by rw [c7 hb]; exact q)
         exact (r2.same k1).snoc (Rep.same k2 m6)
    ·have ei:i=ws.length:=by omega
     subst ei
     refine .inl ⟨T'.stop H2 s2,?_⟩
     rw [List.take_length,<- hys] at r2
     obtain ⟨sG,I2⟩:=I1.rest (Dd:=Dd) hD s2
     refine o _ (TP.rest G1 H1 Dd H2) H2 ⟨e1.gg.trans sG,e1.hh.trans s2,I2.gh,fun b u q l g=>z9 (.inr ⟨u,e1.hh b u q,l,e1.keep b u q l g⟩)⟩ ⟨Dd,vs,rfl,hDv,z9 (.inl rfl),e1.hh.free hD,r2⟩
  ·rw [if_neg hlen] at o; exact o.elim
def A3:W->R (List W)
 | .lst ws=>.ok ws
 | .tup ws=>.ok ws
 | .scr ws=>.ok ws
 | _=>.stuck
theorem B9 {t:Bool} {a:Addr} {xs:List V} (e:Same H H1) (h:Sq K H t a xs):Sq K H1 t a xs:=by
 unfold Sq at h ⊢
 split at h
 ·rename_i ht; rw [if_pos ht]; exact oz e h
 ·rename_i ht; rw [if_neg ht]; exact Same.seq e h
theorem sqT {a:Addr} {xs:List V} (h:SqT K H a xs):Sq K H true a xs:=by unfold Sq; rw [if_pos rfl]; exact h
theorem sqL {a:Addr} {xs:List V} (h:SqL K H a xs):Sq K H false a xs:=by unfold Sq; rw [if_neg Bool.false_ne_true]; exact h
theorem Rep.sq {F:Hp} {x:V} {w:W} {ws:List W} (h:Rep K F x w) (hw:A3 w=.ok ws):∃ t a vs,x=.ref a/\Sq K F t a vs/\Reps K F vs ws:=by
 cases w <;> first | (cases hw; done) | skip
 ·obtain ⟨a,vs,e,s,r⟩:=h.inv; exact ⟨true,a,vs,e,sqT (SqT.of s),R.ok.inj hw ▸ r⟩
 ·obtain ⟨a,vs,e,s,r⟩:=h.inv; exact ⟨false,a,vs,e,sqL (SqL.of s),R.ok.inj hw ▸ r⟩
 ·obtain ⟨a,vs,e,s,r⟩:=h.inv; exact ⟨false,a,vs,e,sqL s,R.ok.inj hw ▸ r⟩
def cV:Bool->Mode->Mode
 | true,e=>e
 | false,.V=>.C
 | false,_=>.B
def fz (e:Mode) (H0 G:Hp):Hp:=if e=.V then G else join H0 G
theorem Md.src {lp:Bool} {e:Mode} {Hs:Hp} {x:V} {w:W} {ws:List W} (he:e=.V\/e=.U) (I:PIv K H0 G ρ σ H) (m:Md K H0 Hs G H x w (cV lp e)) (hw:A3 w=.ok ws) :
  ∃ t a vs,x=.ref a/\Sq K (if lp then join H0 G else H) t a vs/\Reps K (fz e H0 G) vs ws:=by
 unfold fz
 rcases he with rfl | rfl
 ·rw [if_pos rfl]
  cases lp with
  | true=>
   obtain ⟨t,a,vs,e1,e2,e3⟩:=Rep.sq m hw
   exact ⟨t,a,vs,e1,by rw [if_pos rfl]; exact B9 I.G_join e2,e3⟩
  | false=>
   rw [if_neg Bool.false_ne_true]
   rcases m with m | ⟨a,vs,us,rfl,rfl,h1,r⟩
   ·obtain ⟨t,a,vs,e1,e2,e3⟩:=Rep.sq m hw
    exact ⟨t,a,vs,e1,B9 I.gh e2,e3⟩
   ·cases hw; exact ⟨false,a,vs,rfl,sqL (SqL.of h1),r⟩
 ·rw [if_neg (show ¬ (Mode.U=Mode.V) by intro z; cases z)]
  cases lp with
  | true=>
   obtain ⟨t,a,vs,e1,e2,e3⟩:=Rep.sq m hw
   exact ⟨t,a,vs,e1,by rw [if_pos rfl]; exact e2,e3⟩
  | false=>
   rw [if_neg Bool.false_ne_true]
   rcases m with m | ⟨a,vs,us,rfl,rfl,h1,r⟩
   ·obtain ⟨t,a,vs,e1,e2,e3⟩:=Rep.sq m hw
    exact ⟨t,a,vs,e1,B9 I.join_H e2,e3⟩
   ·cases hw; exact ⟨false,a,vs,rfl,sqL (SqL.of h1),r.same I.G_join⟩
theorem Md.of_fz {e:Mode} {Hs:Hp} {v:V} {w:W} (he:e=.V\/e=.U) (h:Rep K (fz e H0 G) v w):Md K H0 Hs G H v w e:=by
 unfold fz at h
 rcases he with rfl | rfl
 ·rw [if_pos rfl] at h; exact h
 ·rw [if_neg (show ¬ (Mode.U=Mode.V) by intro z; cases z)] at h; exact h
theorem F8 {e:Mode} (s:Same G G1):Same (fz e H0 G) (fz e H0 G1):=by
 unfold fz
 split
 ·exact s
 ·exact o6 s
theorem uv {e:Mode} {Z:Hp} {t:Bool} {a:Addr} {vs:List V} {ws:List W} (he:e=.V\/e=.U) (s:Sq K Z t a vs) (r:Reps K (fz e H0 G) vs ws):aB K e H0 Z G (ItQ K t a) ws:=by
 have hl:=r.length
 cases t with
 | true=>
  have hq:∀ H,Same Z H->SqT K H a vs:=fun H z=>by have:=B9 z s; unfold Sq at this; rw [if_pos rfl] at this; exact this
  refine ⟨fun i H hi z=>⟨vs,vs[i]'(by omega),hq H z,by simp⟩,fun H z=>⟨vs,hq H z,by omega⟩,fun i H x H' w hw z zz78 G2 ρ σ I sg=>?_⟩
  obtain ⟨e1,y⟩:=zz78
  subst e1
  have hx:=y vs (hq _ z)
  obtain ⟨v,hv,rv⟩:=Reps.get r hw
  rw [hx] at hv; cases hv
  exact ⟨G2,Ext.refl I.gh,Md.of_fz he (rv.same (F8 sg))⟩
 | false=>
  have hq:∀ H,Same Z H->SqL K H a vs:=fun H z=>by have:=B9 z s; unfold Sq at this; rw [if_neg Bool.false_ne_true] at this; exact this
  refine ⟨fun i H hi z=>⟨vs,vs[i]'(by omega),hq H z,by simp⟩,fun H z=>⟨vs,hq H z,by omega⟩,fun i H x H' w hw z zz79 G2 ρ σ I sg=>?_⟩
  obtain ⟨e1,y⟩:=zz79
  subst e1
  have hx:=y vs (hq _ z)
  obtain ⟨v,hv,rv⟩:=Reps.get r hw
  rw [hx] at hv; cases hv
  exact ⟨G2,Ext.refl I.gh,Md.of_fz he (rv.same (F8 sg))⟩
theorem gr {lp:Bool} (I:PIv K H0 G ρ σ H):Same (if lp then join H0 G else H) H:=by
 cases lp
 ·exact Same.refl H
 ·exact I.join_H
theorem Bz {lp:Bool} {e:Mode} {ml:Rho->R W} {Rr:It->Hp->Prop} (he:e=.V\/e=.U) (h:tIt K EX lp e (fun ρ=>ml ρ>>=A3) σ H Rr):iSq K (tM K EX (cV lp e) ml) σ H Rr:=by
 obtain ⟨H0,G,ρ,I,o⟩:=h
 refine ⟨H0,G,ρ,I,?_⟩
 replace o:hX K EX lp e H0 G H (ml ρ>>=A3) Rr:=o
 revert o
 cases ml ρ with
 | stuck=>exact id
 | ex x=>exact id
 | ok w=>
  intro o x G1 H1 e1 m1
  have I1:=I.ext e1
  have o':hX K EX lp e H0 G H (A3 w) Rr:=o
  cases q:A3 w with
  | stuck=>rw [q] at o'; exact o'.elim
  | ex z=>cases w <;> cases q
  | ok ws=>
   rw [q] at o'
   obtain ⟨t,a,vs,ex,s,r⟩:=Md.src he I1 m1 q
   exact ⟨a,ex,t,vs,B9 (gr I1) s,o' _ G1 H1 e1 (uv he s r)⟩
def J2 (lo hi:Int):R (List W):=if -1000000<=lo/\lo<=1000000 /\ -1000000<=hi/\hi<=1000000 then .ok ((List.range (hi-lo).toNat).map fun k=>W.int (lo+(k:Nat))) else .stuck
def P2:List W->R (List W)
 | [.int j]=>J2 0 j
 | _=>.stuck
def rng2:List W->R (List W)
 | [.int i,.int j]=>J2 i j
 | _=>.stuck
theorem pQ {e:Mode} {Z:Hp} {lo:Int} {n:Nat} (he:e=.V\/e=.U):aB K e H0 Z G (Itr lo n) ((List.range n).map fun k=>W.int (lo+(k:Nat))):=by
 refine ⟨fun i H hi _=>by show i<n; simpa using hi,fun H _=>by simp [Itr],fun i H x H' w hw _ zz80 G2 ρ σ I _=>?_⟩
 obtain ⟨e1,e2⟩:=zz80
 subst e1; subst e2
 rw [List.getElem?_map] at hw
 cases q:(List.range n)[i]? with
 | none=>rw [q] at hw; cases hw
 | some k=>
  rw [q] at hw
  have hk:k=i:=by
   have:=List.getElem?_eq_some_iff.mp q
   obtain ⟨h1,h2⟩:=this
   simpa using h2.symm
  subst hk
  cases hw
  refine ⟨G2,Ext.refl I.gh,Md.sca rfl (fun _=>.int) e⟩
theorem bi {lp:Bool} {e b:Mode} {ma:Rho->R (List W)} {k:List W->R (List W)} {Rr:It->Hp->Prop} {Q:List V->Hp->Prop} (h:tIt K EX lp e (fun ρ=>ma ρ>>=k) σ H Rr)
  (hq:∀ H0 G ρ G1 H1 xs ws us,PIv K H0 G ρ σ H->Ext G H G1 H1->MdA K b H0 H G1 H1 ws xs->k ws=.ok us->(∀ J G' H',Ext G H G' H'->aB K e H0 (if lp then join H0 G' else H') G' J us->Rr J H')->Q xs H1)
  (hx:∀ ws e,k ws≠.ex e):tA K EX b ma σ H Q:=by
 obtain ⟨H0,G,ρ,I,o⟩:=h
 refine ⟨H0,G,ρ,I,?_⟩
 replace o:hX K EX lp e H0 G H (ma ρ>>=k) Rr:=o
 revert o
 cases ma ρ with
 | stuck=>exact id
 | ex x=>exact id
 | ok ws=>
  intro o xs G1 H1 e1 m1
  have o':hX K EX lp e H0 G H (k ws) Rr:=o
  cases q:k ws with
  | stuck=>rw [q] at o'; exact o'.elim
  | ex z=>exact absurd q (hx ws z)
  | ok us=>rw [q] at o'; exact hq H0 G ρ G1 H1 xs ws us I e1 m1 q o'
theorem sK {lo hi:Int} {us:List W} (h:J2 lo hi=.ok us):(-1000000<=lo/\lo<=1000000 /\ -1000000<=hi/\hi<=1000000)/\us=(List.range (hi-lo).toNat).map fun k=>W.int (lo+(k:Nat)):=by
 unfold J2 at h
 split at h
 ·cases h; rename_i c; exact ⟨c,rfl⟩
 ·cases h
theorem oK {lo hi:Int} {e:XW} (h:J2 lo hi=.ex e):False:=by
 unfold J2 at h
 by_cases c:-1000000<=lo/\lo<=1000000 /\ -1000000<=hi/\hi<=1000000
 ·rw [if_pos c] at h; cases h
 ·rw [if_neg c] at h; cases h
theorem zU {lp:Bool} {e:Mode} {ma:Rho->R (List W)} {Rr:It->Hp->Prop} (he:e=.V\/e=.U) (h:tIt K EX lp e (fun ρ=>ma ρ>>=P2) σ H Rr):rD (tA K EX .B ma) σ H Rr:=by
 refine bi h (fun H0 G ρ G1 H1 xs ws us I e1 m1 q o=>?_) (fun ws e z=>?_)
 ·cases m1 with
  | nil=>cases q
  | @cons w _ _ _ a t=>
   cases t with
   | cons _ _=>first | (cases q; done) | (cases w <;> cases q)
   | nil=>
    cases w <;> first | (cases q; done) | skip
    rename_i j
    obtain ⟨c,rfl⟩:=sK (show J2 0 j=_ from q)
    refine ⟨j,by rw [Md.intB a],by omega,by omega,?_⟩
    have:=o (Itr 0 j.toNat) G1 H1 e1
    rw [Int.sub_zero] at this
    exact this (pQ he)
 ·cases ws with
  | nil=>cases z
  | cons w t=>
   cases t with
   | cons _ _=>first | (cases z; done) | (cases w <;> cases z)
   | nil=>
    cases w <;> first | (cases z; done) | skip
    exact oK (lo:=0) z
def cR:List (List W)->List (List W)
 | [xs,ys]=>xs.zipWith (fun x y=>[x,y]) ys
 | [xs,ys,zs]=>(xs.zip ys).zipWith (fun p z=>[p.1,p.2,z]) zs
 | _=>[]
def R4:List W->R (List (List W))
 | []=>.ok []
 | w::ws=>match A3 w,R4 ws with
  | .ok x,.ok xs=>.ok (x::xs)
  | _,_=>.stuck
def G7 (ws:List W):R (List W):=if ws.length=2\/ws.length=3 then (match R4 ws with
 | .ok xs=>.ok ((cR xs).map W.tup)
 | _=>.stuck) else .stuck
theorem cX {e:Mode} {p:Addr} {vs:List V} {ws:List W} {Hs:Hp} (he:e=.V\/e=.U) (I:PIv K H0 G ρ σ H) (hp:H p=none) (r:Reps K (fz e H0 G) vs ws):Ext G H (upd G p (.tup vs)) (upd H p (.tup vs))/\Md K H0 Hs (upd G p (.tup vs)) (upd H p (.tup vs)) (.ref p) (.tup ws) e:=by
 refine ⟨bw I.gh hp,?_⟩
 have gp:G p=none:=I.gh.free hp
 rcases he with rfl | rfl
 ·unfold fz at r
  rw [if_pos rfl] at r
  exact .tup g8 (r.same fun b u q=>by rw [c7 (d9 q gp)]; exact q)
 ·unfold fz at r
  rw [if_neg (show ¬ (Mode.U=Mode.V) by intro z; cases z)] at r
  show Rep K (join H0 (upd G p (.tup vs))) _ _
  rw [gu (I.hh.free hp)]
  exact .tup g8 (r.same fun b u q=>by rw [c7 (d9 (I.join_H b u q) hp)]; exact q)
theorem mT {e:Mode} {Z:Hp} {t u:Bool} {a b:Addr} {xs ys:List V} {us vs:List W} (he:e=.V\/e=.U) (s1:Sq K Z t a xs) (s2:Sq K Z u b ys) (r1:Reps K (fz e H0 G) xs us) (r2:Reps K (fz e H0 G) ys vs) :
  aB K e H0 Z G (ItZ K [(t,a),(u,b)]) ((us.zipWith (fun x y=>[x,y]) vs).map W.tup):=by
 have Rn:=lE s1 s2
 have l1:=r1.length
 have l2:=r2.length
 have hl:((us.zipWith (fun x y=>[x,y]) vs).map W.tup).length=min xs.length ys.length:=by simp [l1,l2]
 refine ⟨fun i H hi z=>Rn.go i H (by omega) z,fun H z=>by rw [hl]; exact Rn.stop H z,fun i H x H' w hw z y G2 ρ σ I sg=>?_⟩
 have hi:i<min xs.length ys.length:=by
  rw [<- hl]; exact (List.getElem?_eq_some_iff.mp hw).1
 obtain ⟨p,y1,z1,rfl,hp,rfl,hy,hz⟩:=Rn.yld i H x H' hi z y
 obtain ⟨w1,e1,q1⟩:=Reps.get' r1 hy
 obtain ⟨w2,e2,q2⟩:=Reps.get' r2 hz
 have hw':w=.tup [w1,w2]:=by
  rw [List.getElem?_map,List.getElem?_zipWith,e1,e2] at hw
  cases hw; rfl
 subst hw'
 obtain ⟨x1,x2⟩:=cX (Hs:=H) he I hp (.cons (q1.same (F8 sg)) (.cons (q2.same (F8 sg)) .nil))
 exact ⟨_,x1,x2⟩
theorem mS {e:Mode} {Z:Hp} {t u v:Bool} {a b c:Addr} {xs ys zs:List V} {us vs ts:List W} (he:e=.V\/e=.U) (s1:Sq K Z t a xs) (s2:Sq K Z u b ys) (s3:Sq K Z v c zs) (r1:Reps K (fz e H0 G) xs us) (r2:Reps K (fz e H0 G) ys vs) (r3:Reps K (fz e H0 G) zs ts) :
  aB K e H0 Z G (ItZ K [(t,a),(u,b),(v,c)]) (((us.zip vs).zipWith (fun p z=>[p.1,p.2,z]) ts).map W.tup):=by
 have Rn:=lD s1 s2 s3
 have l1:=r1.length
 have l2:=r2.length
 have l3:=r3.length
 have hl:(((us.zip vs).zipWith (fun p z=>[p.1,p.2,z]) ts).map W.tup).length=min xs.length (min ys.length zs.length):=by simp [l1,l2,l3,Nat.min_assoc]
 refine ⟨fun i H hi z=>Rn.go i H (by omega) z,fun H z=>by rw [hl]; exact Rn.stop H z,fun i H x H' w hw z y G2 ρ σ I sg=>?_⟩
 have hi:i<min xs.length (min ys.length zs.length):=by
  rw [<- hl]; exact (List.getElem?_eq_some_iff.mp hw).1
 obtain ⟨p,y1,z1,t1,rfl,hp,rfl,hy,hz,ht⟩:=Rn.yld i H x H' hi z y
 obtain ⟨w1,e1,q1⟩:=Reps.get' r1 hy
 obtain ⟨w2,e2,q2⟩:=Reps.get' r2 hz
 obtain ⟨w3,e3,q3⟩:=Reps.get' r3 ht
 have hw':w=.tup [w1,w2,w3]:=by
  rw [List.getElem?_map,List.getElem?_zipWith,List.zip,List.getElem?_zipWith,e1,e2,e3] at hw
  cases hw; rfl
 subst hw'
 obtain ⟨x1,x2⟩:=cX (Hs:=H) he I hp (.cons (q1.same (F8 sg)) (.cons (q2.same (F8 sg)) (.cons (q3.same (F8 sg)) .nil)))
 exact ⟨_,x1,x2⟩
theorem V9 {w:W} {ws:List W} {xs:List (List W)} (h:R4 (w::ws)=.ok xs):∃ y ys,A3 w=.ok y/\R4 ws=.ok ys/\xs=y::ys:=by
 unfold R4 at h
 cases h1:A3 w with
 | stuck=>rw [h1] at h; cases h
 | ex _=>rw [h1] at h; cases h
 | ok y=>
  rw [h1] at h
  cases h2:R4 ws with
  | stuck=>rw [h2] at h; cases h
  | ex _=>rw [h2] at h; cases h
  | ok ys=>rw [h2] at h; cases h; exact ⟨y,ys,rfl,rfl,rfl⟩
theorem Bo {lp:Bool} {e:Mode} {ma:Rho->R (List W)} {Rr:It->Hp->Prop} (he:e=.V\/e=.U) (h:tIt K EX lp e (fun ρ=>ma ρ>>=G7) σ H Rr):yJ K (tA K EX (cV lp e) ma) σ H Rr:=by
 refine bi h (fun H0 G ρ G1 H1 xs ws us I e1 m1 q o=>?_) (fun ws e z=>?_)
 ·have I1:=I.ext e1
  unfold G7 at q
  split at q
  ·rename_i hn
   cases hs:R4 ws with
   | stuck=>rw [hs] at q; cases q
   | ex _=>rw [hs] at q; cases q
   | ok ls=>
    rw [hs] at q
    cases q
    cases m1 with
    | nil=>simp at hn
    | cons a1 m1=>
     cases m1 with
     | nil=>simp at hn
     | cons a2 m1=>
      obtain ⟨y1,ys,h1,hs1,rfl⟩:=V9 hs
      obtain ⟨y2,ys,h2,hs2,rfl⟩:=V9 hs1
      obtain ⟨t1,p1,v1,rfl,q1,r1⟩:=Md.src he I1 a1 h1
      obtain ⟨t2,p2,v2,rfl,q2,r2⟩:=Md.src he I1 a2 h2
      have k1:=B9 (gr I1) q1
      have k2:=B9 (gr I1) q2
      cases m1 with
      | nil=>
       cases hs2
       refine ⟨[(t1,p1),(t2,p2)],rfl,.inl rfl,fun u hu=>?_,o _ G1 H1 e1 (mT he q1 q2 r1 r2)⟩
       simp only [List.mem_cons,List.not_mem_nil,or_false] at hu
       rcases hu with rfl | rfl
       ·exact ⟨_,k1⟩
       ·exact ⟨_,k2⟩
      | cons a3 m1=>
       cases m1 with
       | cons _ _=>simp at hn
       | nil=>
        obtain ⟨y3,ys,h3,hs3,rfl⟩:=V9 hs2
        cases hs3
        obtain ⟨t3,p3,v3,rfl,q3,r3⟩:=Md.src he I1 a3 h3
        refine ⟨[(t1,p1),(t2,p2),(t3,p3)],rfl,.inr rfl,fun u hu=>?_,o _ G1 H1 e1 (mS he q1 q2 q3 r1 r2 r3)⟩
        simp only [List.mem_cons,List.not_mem_nil,or_false] at hu
        rcases hu with rfl | rfl | rfl
        ·exact ⟨_,k1⟩
        ·exact ⟨_,k2⟩
        ·exact ⟨_,B9 (gr I1) q3⟩
  ·cases q
 ·unfold G7 at z
  split at z
  ·split at z <;> cases z
  ·cases z
end
end TP
namespace TP
open PySem L2
section
variable {K:Frag} {EX:EXT} {H0 G H G1 H1 G2 H2:Hp} {ρ:Rho} {σ:St} {d:Mode} {D:Ends} {Q:VK}
theorem Reps.atI {F:Hp} {vs:List V} {ws:List W} {i:Int} {w:W} (r:Reps K F vs ws) (h:L2.atI ws i=some w):∃ v,L2.atI vs i=some v/\Rep K F v w:=by
 unfold L2.atI at h ⊢
 rw [r.length]
 cases q:ixN ws.length i with
 | none=>rw [q] at h; cases h
 | some j=>rw [q] at h; exact Reps.get r h
def fIx:W->W->R W
 | .lst ws,.int i=>toR (L2.atI ws i)
 | .tup ws,.int i=>toR (L2.atI ws i)
 | .scr ws,.int i=>toR (L2.atI ws i)
 | _,_=>.stuck
theorem xJ:Op2 K .B .U (rIx K) fIx:=by
 intro EX H0 Hs G H ρ σ Ha Hb x y u v Q I s mx my o
 cases u <;> first | exact o.elim | skip
 all_goals (cases v <;> first | exact o.elim | skip)
 ·rename_i ws i
  obtain ⟨a,vs,rfl,hs,r⟩:=mx.tupB I
  replace o:Out EX G H (mdW K .U H0 Hs) (toR (L2.atI ws i)) Q:=o
  cases q:L2.atI ws i with
  | none=>rw [q] at o; exact o.elim
  | some w=>
   rw [q] at o
   obtain ⟨v,hv,rv⟩:=r.atI q
   exact .inr (.inl ⟨a,vs,i,v,rfl,my.intB,SqT.of hs,hv,o v G H (Ext.refl I.gh) rv⟩)
 ·rename_i ws i
  obtain ⟨a,vs,rfl,hs,r⟩:=mx.lstB I
  replace o:Out EX G H (mdW K .U H0 Hs) (toR (L2.atI ws i)) Q:=o
  cases q:L2.atI ws i with
  | none=>rw [q] at o; exact o.elim
  | some w=>
   rw [q] at o
   obtain ⟨v,hv,rv⟩:=r.atI q
   exact .inl ⟨a,vs,i,v,rfl,my.intB,SqL.of hs,hv,o v G H (Ext.refl I.gh) rv⟩
 ·rename_i ws i
  obtain ⟨a,vs,rfl,hs,r⟩:=mx.scrB I
  replace o:Out EX G H (mdW K .U H0 Hs) (toR (L2.atI ws i)) Q:=o
  cases q:L2.atI ws i with
  | none=>rw [q] at o; exact o.elim
  | some w=>
   rw [q] at o
   obtain ⟨v,hv,rv⟩:=r.atI q
   exact .inl ⟨a,vs,i,v,rfl,my.intB,hs,hv,o v G H (Ext.refl I.gh) rv⟩
theorem xI:Op2 K .C .V (rIx K) fIx:=by
 intro EX H0 Hs G H ρ σ Ha Hb x y u v Q I s mx my o
 cases u <;> first | exact o.elim | skip
 all_goals (cases v <;> first | exact o.elim | skip)
 ·rename_i ws i
  obtain ⟨a,vs,rfl,hs,r⟩:=mx.tupC I
  replace o:Out EX G H (mdW K .V H0 Hs) (toR (L2.atI ws i)) Q:=o
  cases q:L2.atI ws i with
  | none=>rw [q] at o; exact o.elim
  | some w=>
   rw [q] at o
   obtain ⟨v,hv,rv⟩:=r.atI q
   exact .inr (.inl ⟨a,vs,i,v,rfl,Md.intB (Md.CB I my),SqT.of hs,hv,o v G H (Ext.refl I.gh) rv⟩)
 ·rename_i ws i
  obtain ⟨a,vs,rfl,hs,r⟩:=mx.lstC I
  replace o:Out EX G H (mdW K .V H0 Hs) (toR (L2.atI ws i)) Q:=o
  cases q:L2.atI ws i with
  | none=>rw [q] at o; exact o.elim
  | some w=>
   rw [q] at o
   obtain ⟨v,hv,rv⟩:=r.atI q
   exact .inl ⟨a,vs,i,v,rfl,Md.intB (Md.CB I my),SqL.of hs,hv,o v G H (Ext.refl I.gh) rv⟩
 ·rename_i ws i
  obtain ⟨a,vs,rfl,hs,r⟩:=(Md.repC mx fun _=>W.noConfusion).inv
  replace o:Out EX G H (mdW K .V H0 Hs) (toR (L2.atI ws i)) Q:=o
  cases q:L2.atI ws i with
  | none=>rw [q] at o; exact o.elim
  | some w=>
    rw [q] at o
    obtain ⟨v,hv,rv⟩:=r.atI q
    exact .inl ⟨_,_,i,v,rfl,Md.intB (Md.CB I my),Same.seq I.gh hs,hv,o v G H (Ext.refl I.gh) rv⟩
def N4 (K:Frag) (EX:EXT) (m:Rho->R (Option Int)):TO:=fun σ H Q=>∃ H0 G ρ,PIv K H0 G ρ σ H/\Out EX G H (fun (b c:Option Int) _ _=>c=b) (m ρ) Q
def eM:W->R (Option Int)
 | .int i=>.ok (some i)
 | _=>.stuck
theorem qI {Q:Option Int->Hp->Prop} (h:N4 K EX (fun _=>.ok none) σ H Q):tNoPart σ H Q:=by
 obtain ⟨H0,G,ρ,I,o⟩:=h
 exact o none G H (Ext.refl I.gh) rfl
theorem zV {m:Rho->R W} {Q:Option Int->Hp->Prop} (h:N4 K EX (fun ρ=>m ρ>>=eM) σ H Q):qS (tM K EX .B m) σ H Q:=by
 obtain ⟨H0,G,ρ,I,o⟩:=h
 refine ⟨H0,G,ρ,I,Out.bind o fun x G1 H1 u e1 m1 o1=>?_⟩
 cases u <;> first | exact o1.elim | skip
 rename_i i
 exact ⟨i,m1.intB,o1 _ G1 H1 (Ext.refl e1.gh) rfl⟩
def D6 (xs:List W) (lo hi:Option Int):List W:=(xs.drop (HT.sIx xs.length 0 lo)).take (HT.sIx xs.length xs.length hi-HT.sIx xs.length 0 lo)
theorem Reps.cut {F:Hp} {vs:List V} {ws:List W} (r:Reps K F vs ws) (lo hi:Option Int):Reps K F (X4 vs lo hi) (D6 ws lo hi):=by
 unfold X4 D6
 rw [r.length]
 exact (r.drop _).take _
def lstOf:W->Option (List W)
 | .lst ws=>some ws
 | .scr ws=>some ws
 | _=>none
def chks (c:Bool) (ws:List W):R W:=if c||g4 ws then .ok (.lst ws) else .stuck
def cb (c:Bool):Mode:=if c then .C else .B
theorem Md.lstOf {c:Bool} {Ha:Hp} {x:V} {w:W} {ws:List W} (I:PIv K H0 G ρ σ H) (m:Md K H0 Ha G H x w (cb c)) (h:lstOf w=some ws):∃ a vs,x=.ref a/\SqL K H a vs/\Reps K (if c then G else join H0 G) vs ws:=by
 cases c with
 | true=>
  rw [if_pos rfl]
  cases w <;> first | cases h | skip
  ·obtain ⟨a,vs,e,hs,r⟩:=Md.lstC (H:=Ha) I m
   exact ⟨a,vs,e,SqL.of hs,r⟩
  ·obtain ⟨a,vs,e,hs,r⟩:=(Md.repC m fun _=>W.noConfusion).inv
   exact ⟨a,vs,e,Same.seq I.gh hs,r⟩
 | false=>
  rw [if_neg Bool.false_ne_true]
  cases w <;> first | cases h | skip
  ·obtain ⟨a,vs,e,hs,r⟩:=Md.lstB (H:=Ha) I m
   exact ⟨a,vs,e,SqL.of hs,r⟩
  ·exact Md.scrB (H:=Ha) I m
theorem Out.chks {c:Bool} {Hs:Hp} {vs:List V} {ws:List W} (I:PIv K H0 G ρ σ H) (s:Same Hs H) (r:Reps K (if c then G else join H0 G) vs ws) (o:Out EX G H (mdW K .F H0 Hs) (chks c ws) Q):∀ p,H p=none->Q (.ref p) (upd H p (.lst vs)):=by
 unfold TP.chks at o
 by_cases n:(c||g4 ws)=true
 ·rw [if_pos n] at o
  have r':Reps K G vs ws:=by
   cases c with
   | true=>rw [if_pos rfl] at r; exact r
   | false=>rw [if_neg Bool.false_ne_true] at r; exact Reps.clean I r (by simpa using n)
  exact fun p hp=>Out.newL I s r' hp o
 ·rw [if_neg n] at o; exact o.elim
theorem c_sl {c:Bool} {m:Rho->R W} {ml mh:Rho->R (Option Int)} (h:tM K EX .F (fun ρ=>m ρ>>=fun x=>ml ρ>>=fun l=>mh ρ>>=fun u=>toR (lstOf x)>>=fun ws=>chks c (D6 ws l u)) σ H Q) :
  tSl (wR K) (tM K EX (cb c) m) (N4 K EX ml) (N4 K EX mh) σ H Q:=by
 obtain ⟨H0,G,ρ,I,o⟩:=h
 refine ⟨H0,G,ρ,I,Out.bind o fun x G1 H1 w e1 m1 o1=>⟨H0,G1,ρ,I.ext e1,Out.bind o1 fun l' G2 H2 l e2 m2 o2=>⟨H0,G2,ρ,(I.ext e1).ext e2,Out.bind o2 fun u' G3 H3 u e3 m3 o3=>?_⟩⟩⟩
 subst m2; subst m3
 have I3:=((I.ext e1).ext e2).ext e3
 cases q:lstOf w with
 | none=>rw [q] at o3; exact o3.elim
 | some ws=>
  rw [q] at o3
  obtain ⟨a,vs,ex,hs,r⟩:=Md.lstOf I3 ((m1.move e2).move e3) q
  refine ⟨a,vs,ex,hs,Out.chks I3 ((e1.hh.trans e2.hh).trans e3.hh) (c:=c) ?_ o3⟩
  cases c with
  | true=>rw [if_pos rfl] at r ⊢; exact r.cut _ _
  | false=>rw [if_neg Bool.false_ne_true] at r ⊢; exact r.cut _ _
def Cal (K:Frag) (b d:Mode) (r:List V->Hp->VK->Prop) (f:List W->R W):Prop:=∀ (EX:EXT) (H0 Hs G H:Hp) (ρ:Rho) (σ:St) (Ha:Hp) (vs:List V) (ws:List W) (Q:VK),PIv K H0 G ρ σ H->Same Hs H->MdA K b H0 Ha G H ws vs ->
 Out EX G H (mdW K d H0 Hs) (f ws) Q->r vs H Q
theorem Ae {b:Mode} {r:List V->Hp->VK->Prop} {f:List W->R W} {ma:Rho->R (List W)} (hr:Cal K b d r f) (h:tM K EX d (fun ρ=>ma ρ>>=fun ws=>f ws) σ H Q):tCB r (tA K EX b ma) σ H Q:=by
 obtain ⟨H0,G,ρ,I,o⟩:=h
 exact ⟨H0,G,ρ,I,Out.bind o fun xs G1 H1 ws e1 m1 o1=>hr EX H0 H G1 H1 ρ σ H xs ws Q (I.ext e1) e1.hh m1 o1⟩
def fLen:List W->R W
 | [w]=>A3 w>>=fun ws=>.ok (.int ws.length)
 | _=>.stuck
theorem w4:Cal K .B d (fun xs H Q=>∃ p ys,xs = [.ref p]/\(SqL K H p ys\/SqT K H p ys)/\Q (.int ys.length) H) fLen:=by
 intro EX H0 Hs G H ρ σ Ha vs ws Q I s m o
 cases m with
 | nil=>exact o.elim
 | cons a t=>
  cases t with
  | cons _ _=>exact o.elim
  | nil=>
   rename_i w v
   cases w <;> first | exact o.elim | skip
   ·obtain ⟨p,ys,rfl,hs,r⟩:=a.tupB I
    exact ⟨p,ys,rfl,.inr (SqT.of hs),by rw [r.length]; exact o _ G H (Ext.refl I.gh) (Md.sca rfl (fun _=>.int) d)⟩
   ·obtain ⟨p,ys,rfl,hs,r⟩:=a.lstB I
    exact ⟨p,ys,rfl,.inl (SqL.of hs),by rw [r.length]; exact o _ G H (Ext.refl I.gh) (Md.sca rfl (fun _=>.int) d)⟩
   ·obtain ⟨p,ys,rfl,hs,r⟩:=a.scrB I
    exact ⟨p,ys,rfl,.inl hs,by rw [r.length]; exact o _ G H (Ext.refl I.gh) (Md.sca rfl (fun _=>.int) d)⟩
def rH (c:Bool):List W->R W
 | [w]=>A3 w>>=chks c
 | _=>.stuck
def Q8 (c:Bool) (ws:List W):R W:=if c||g4 ws then .ok (.tup ws) else .stuck
def K1 (c:Bool):List W->R W
 | [w]=>A3 w>>=Q8 c
 | _=>.stuck
theorem K4 {c:Bool}:Cal K (cb c) .F (fun xs H Q=>∃ p ys,xs = [.ref p]/\((SqL K H p ys/\∀ l,H l=none->Q (.ref l) (upd H l (.tup ys)))\/(SqT K H p ys/\Q (.ref p) H))) (K1 c):=by
 intro EX H0 Hs G H ρ σ Ha vs ws Q I s m o
 have key:∀ {vs:List V} {us:List W},Reps K (if c then G else join H0 G) vs us->Out EX G H (mdW K .F H0 Hs) (Q8 c us) Q->Reps K G vs us/\Out EX G H (mdW K .F H0 Hs) (.ok (.tup us)) Q:=fun {vs us} r o=>by
  unfold Q8 at o
  by_cases n:(c||g4 us)=true
  ·rw [if_pos n] at o
   refine ⟨?_,o⟩
   cases c with
   | true=>rw [if_pos rfl] at r; exact r
   | false=>rw [if_neg Bool.false_ne_true] at r; exact Reps.clean I r (by simpa using n)
  ·rw [if_neg n] at o; exact o.elim
 cases m with
 | nil=>exact o.elim
 | cons a t=>
  cases t with
  | cons _ _=>exact o.elim
  | nil=>
   rename_i w v
   cases w <;> first | exact o.elim | skip
   ·rename_i us
    have hx:∃ p ys,v=.ref p/\(if c then G else join H0 G) p=some (.tup ys)/\Reps K (if c then G else join H0 G) ys us:=by
     cases c with
     | true=>rw [if_pos rfl]; exact (Md.repC a fun _=>W.noConfusion).inv
     | false=>rw [if_neg Bool.false_ne_true]; exact (Md.repB a fun _=>W.noConfusion).inv
    obtain ⟨p,ys,rfl,hp,r⟩:=hx
    obtain ⟨r',o'⟩:=key r o
    have hH:H p=some (.tup ys):=by
     cases c with
     | true=>rw [if_pos rfl] at hp; exact I.gh _ _ hp
     | false=>rw [if_neg Bool.false_ne_true] at hp; exact I.join_H _ _ hp
    have hG:G p=some (.tup ys):=by
     cases c with
     | true=>rw [if_pos rfl] at hp; exact hp
     | false=>
      rw [if_neg Bool.false_ne_true] at hp
      unfold join at hp
      cases q:H0 p with
      | none=>rw [q] at hp; exact hp
      | some u=>
       rw [q] at hp
       dsimp only at hp
       by_cases hl:isL u=true
       ·rw [if_pos hl] at hp; cases hp; cases hl
       ·rw [if_neg hl] at hp; exact hp
    exact ⟨p,ys,rfl,.inr ⟨SqT.of hH,o' _ G H (Ext.refl I.gh) (.tup hG r')⟩⟩
   ·obtain ⟨p,ys,rfl,hs,r⟩:=Md.lstOf I a rfl
    obtain ⟨r',o'⟩:=key r o
    exact ⟨p,ys,rfl,.inl ⟨hs,fun l hl=>Out.newTF I r' hl o'⟩⟩
   ·obtain ⟨p,ys,rfl,hs,r⟩:=Md.lstOf I a rfl
    obtain ⟨r',o'⟩:=key r o
    exact ⟨p,ys,rfl,.inl ⟨hs,fun l hl=>Out.newTF I r' hl o'⟩⟩
def f2 (g:Int->Int->Int):List W->R W
 | [.int i,.int j]=>.ok (.int (g i j))
 | _=>.stuck
def tyW:W->Option String
 | .non=>some "NoneType"
 | .bl _=>some "bool"
 | .int _=>some "int"
 | .str _=>some "str"
 | .tup _=>some "tuple"
 | .lst _=>some "list"
 | _=>none
def fIsi:List W->R W
 | [x,.ty T]=>toR ((tyW x).bind fun A=>t5 A T)>>=fun b=>.ok (.bl b)
 | _=>.stuck
theorem vH {Ha:Hp} {v:V} {w:W} {A:String} (I:PIv K H0 G ρ σ H) (m:Md K H0 Ha G H v w .B) (h:tyW w=some A):L2.tyB H v=some A:=by
 cases w <;> first | cases h | skip
 ·rw [m.nonB]; rfl
 ·rw [m.blB]; rfl
 ·rw [m.intB]; rfl
 ·rw [m.strB]; rfl
 ·obtain ⟨a,vs,rfl,hs,r⟩:=m.tupB I
  show L2.tyO (H a)=_
  rw [hs]; rfl
 ·obtain ⟨a,vs,rfl,hs,r⟩:=m.lstB I
  show L2.tyO (H a)=_
  rw [hs]; rfl
theorem X6:Cal K .B d rIsi fIsi:=by
 intro EX H0 Hs G H ρ σ Ha vs ws Q I s m o
 cases m with
 | nil=>exact o.elim
 | @cons x _ _ _ a t=>
  cases t with
  | nil=>exact o.elim
  | @cons y _ _ _ b t=>
   cases t with
   | cons _ _=>first | exact o.elim | (cases y <;> exact o.elim)
   | nil=>
    cases y <;> first | exact o.elim | skip
    rename_i T
    replace o:Out EX G H (mdW K d H0 Hs) (toR ((tyW x).bind fun A=>t5 A T)>>=fun b=>.ok (.bl b)) Q:=o
    cases q:tyW x with
    | none=>rw [q] at o; exact o.elim
    | some A=>
     rw [q] at o
     replace o:Out EX G H (mdW K d H0 Hs) (toR (t5 A T)>>=fun b=>.ok (.bl b)) Q:=o
     cases q2:t5 A T with
     | none=>rw [q2] at o; exact o.elim
     | some c=>
      rw [q2] at o
      exact ⟨_,T,by rw [b.tyB],A,vH I a q,c,q2,o _ G H (Ext.refl I.gh) (Md.sca rfl (fun _=>.bl) d)⟩
def fCat (c:Bool):W->W->R W
 | .lst us,.lst vs=>if us.length+vs.length<=1000 then chks c (us++vs) else .stuck
 | _,_=>.stuck
theorem Reps.rep {F:Hp} {vs:List V} {ws:List W} (r:Reps K F vs ws):∀ k:Nat,Reps K F (List.replicate k vs).flatten (List.replicate k ws).flatten
 | 0=>.nil
 | k+1=>by rw [List.replicate_succ,List.replicate_succ,List.flatten_cons,List.flatten_cons]; exact r.append (Reps.rep r k)
def kl (c:Bool):W->W->R W
 | .lst us,.int k=>if us.length*k.toNat<=1000 /\ -1000<=k/\k<=1000 then chks c (List.replicate k.toNat us).flatten else .stuck
 | _,_=>.stuck
theorem xH {c:Bool}:Op2 K (cb c) .F rRep (kl c):=by
 intro EX H0 Hs G H ρ σ Ha Hb x y u v Q I s mx my o
 cases u <;> first | exact o.elim | skip
 all_goals (cases v <;> first | exact o.elim | skip)
 rename_i us k
 replace o:Out EX G H (mdW K .F H0 Hs) (if us.length*k.toNat<=1000 /\ -1000<=k/\k<=1000 then chks c (List.replicate k.toNat us).flatten else .stuck) Q:=o
 by_cases hn:us.length*k.toNat<=1000 /\ -1000<=k/\k<=1000
 ·rw [if_pos hn] at o
  have h1:∃ a ws,x=.ref a/\H a=some (.lst ws)/\Reps K (if c then G else join H0 G) ws us:=by
   cases c with
   | true=>exact Md.lstC (H:=Ha) I mx
   | false=>exact Md.lstB (H:=Ha) I mx
  have h2:y=.int k:=by
   cases c with
   | true=>exact Md.intB (Md.CB (H:=Hb) I my)
   | false=>exact Md.intB (H:=Hb) my
  obtain ⟨a,xs,rfl,ha,ra⟩:=h1
  subst h2
  exact ⟨a,k,xs,rfl,rfl,ha,by omega,by omega,by rw [ra.length]; exact O5 hn.1,Out.chks I s (ra.rep _) o⟩
 ·rw [if_neg hn] at o; exact o.elim
end
end TP
namespace TP
open PySem L2
def mC (w:W):Rho->R W:=fun _=>.ok w
def b1 (f:W->R W) (ma:Rho->R W):Rho->R W:=fun ρ=>ma ρ>>=fun x=>f x
def b2 (f:W->W->R W) (ma mb:Rho->R W):Rho->R W:=fun ρ=>ma ρ>>=fun x=>mb ρ>>=fun y=>f x y
def bA (f:List W->R W) (ma:Rho->R (List W)):Rho->R W:=fun ρ=>ma ρ>>=fun ws=>f ws
def bI (f:List W->R (List W)) (ma:Rho->R (List W)):Rho->R (List W):=fun ρ=>ma ρ>>=f
def bS (ma:Rho->R W):Rho->R (List W):=fun ρ=>ma ρ>>=A3
def aN:Rho->R (List W):=fun _=>.ok []
def aC (ma:Rho->R W) (mr:Rho->R (List W)):Rho->R (List W):=fun ρ=>ma ρ>>=fun x=>mr ρ>>=fun xs=>.ok (x::xs)
def az (ma:Rho->R W):Rho->R W:=fun ρ=>ma ρ>>=chk
def g6 (ma:Rho->R W):Rho->R Bool:=fun ρ=>ma ρ>>=toB
def jC (a b:Rho->R Bool):Rho->R Bool:=fun ρ=>cY (a ρ) (b ρ)
def Y6 (a b:Rho->R Bool):Rho->R Bool:=fun ρ=>rOr (a ρ) (b ρ)
def G8 (a:Rho->R Bool):Rho->R Bool:=fun ρ=>jG (a ρ)
def V7 (a b:Rho->R W):Rho->R W:=fun ρ=>aI (a ρ) (b ρ)
def vOr (a b:Rho->R W):Rho->R W:=fun ρ=>fx (a ρ) (b ρ)
def eY (a:Rho->R W):Rho->R W:=fun ρ=>eL (a ρ)
def vIf (c:Rho->R Bool) (a b:Rho->R W):Rho->R W:=fun ρ=>c ρ>>=fun t=>if t then a ρ else b ρ
def vG (f f':W->W->R W) (ma mb mc:Rho->R W):Rho->R W:=fun ρ=>ma ρ>>=fun x=>mb ρ>>=fun y=>f x y>>=fun z=>toB z>>=fun c=>if c then mc ρ>>=fun u=>f' y u else .ok (.bl false)
def x9 (ma:Rho->R (List W)):Rho->R W:=fun ρ=>ma ρ>>=fun ws=>lim ws.length (.tup ws)
def E2 (ma:Rho->R (List W)):Rho->R W:=fun ρ=>ma ρ>>=fun ws=>lim ws.length (.lst ws)
def pN:Rho->R (Option Int):=fun _=>.ok none
def pS (m:Rho->R W):Rho->R (Option Int):=fun ρ=>m ρ>>=eM
def vSl (c:Bool) (m:Rho->R W) (ml mh:Rho->R (Option Int)):Rho->R W:=fun ρ=>m ρ>>=fun x=>ml ρ>>=fun l=>mh ρ>>=fun u=>toR (lstOf x)>>=fun ws=>chks c (D6 ws l u)
def l6 (n:Nat) (mi:Rho->R (List W)) (mg:W->Rho->Option Rho) (mc:Rho->R Bool) (me:Rho->R W):Rho->R W:=fun ρ=>mi ρ>>=fun ws=>k4 n mg mc me ws ρ
def yes:Rho->R Bool:=fun _=>.ok true
def sNx:Rho->R Fl:=fun ρ=>.ok (.nx ρ)
def AF (m:Rho->R W):Rho->R Fl:=fun ρ=>m ρ>>=fun _=>.ok (.nx ρ)
def i3 (m:Rho->R W):Rho->R Fl:=fun ρ=>m ρ>>=fun w=>.ok (.rt w)
def AC:Rho->R Fl:=fun _=>.ok (.rt .non)
def sV (i:Nat) (m:Rho->R W):Rho->R Fl:=fun ρ=>m ρ>>=fun w=>.ok (.nx (ρ.set i (.val w)))
def sU (i:Nat) (m:Rho->R W):Rho->R Fl:=fun ρ=>m ρ>>=fun w=>.ok (.nx (ρ.set i (.par w)))
def sF (i:Nat) (m:Rho->R W):Rho->R Fl:=fun ρ=>m ρ>>=fun w=>.ok (.nx (ρ.set i (G9 w)))
def sG (mg:W->Rho->Option Rho) (m:Rho->R W):Rho->R Fl:=fun ρ=>m ρ>>=fun w=>toR (mg w ρ)>>=fun ρ'=>.ok (.nx ρ')
def J1 (mi:Rho->R (List W)) (mg:W->Rho->Option Rho) (mb:Rho->R Fl):Rho->R Fl:=fun ρ=>mi ρ>>=fun ws=>A4 mg mb ws ρ
def Z3 (i:Nat) (m:Rho->R Fl):Rho->R Fl:=fun ρ=>m (frz i ρ)
def lB:Rho->R Fl:=fun _=>.stuck
def sBk:Rho->R Fl:=fun ρ=>.ok (.bk ρ)
def sCt:Rho->R Fl:=fun ρ=>.ok (.ct ρ)
section
variable {X:Cx} {e:Expr} {es:List Expr} {st:Stmt} {sts:List Stmt}
theorem _root_.L2.PE.mono {t t':TE} (h:PE X e t) (hm:∀ σ H Q,t' σ H Q->t σ H Q):PE X e t':=fun pins s σ H Q I q=>h pins s σ H Q I (hm σ H Q q)
theorem _root_.L2.PT.mono {t t':TT} (h:PT X e t) (hm:∀ σ H Q,t' σ H Q->t σ H Q):PT X e t':=fun pins s σ H Q I q=>h pins s σ H Q I (hm σ H Q q)
theorem _root_.L2.PW.mono {t t':TT} (h:PW X e t) (hm:∀ σ H Q,t' σ H Q->t σ H Q):PW X e t':=fun wh pins s σ H Q I q=>h wh pins s σ H Q I (hm σ H Q q)
theorem _root_.L2.PA.mono {t t':TA} (h:PA X es t) (hm:∀ σ H Q,t' σ H Q->t σ H Q):PA X es t':=fun pos pins s σ H Q I q=>h pos pins s σ H Q I (hm σ H Q q)
theorem _root_.L2.PS.mono {t t':TS} (h:PS X st t) (hm:∀ D σ H,t' D σ H->t D σ H):PS X st t':=fun pins s σ H D I q=>h pins s σ H D I (hm D σ H q)
theorem _root_.L2.PSs.mono {t t':TS} (h:PSs X sts t) (hm:∀ D σ H,t' D σ H->t D σ H):PSs X sts t':=fun pins s σ H D I q=>h pins s σ H D I (hm D σ H q)
theorem _root_.L2.PI.mono {tg:Expr} {t t':TI} (h:PI X tg e t) (hm:∀ σ H Q,t' σ H Q->t σ H Q):PI X tg e t':=fun pins s σ H Q I q=>h pins s σ H Q I (hm σ H Q q)
theorem _root_.L2.PO.mono {oe:Option Expr} {t t':TO} (h:PO X oe t) (hm:∀ σ H Q,t' σ H Q->t σ H Q):PO X oe t':=by
 intro pins s σ H Q I q
 exact h pins s σ H Q I (hm σ H Q q)
end
section
variable {X:Cx} {K:Frag} {EX:EXT} {d b:Mode} {a c e:Expr} {es rest:List Expr} {pos:Pos} {ma mb mc:Rho->R W} {ta tb:Rho->R Bool} {mr:Rho->R (List W)}
theorem t9 (h:PE X e (tM K EX .F ma)):PE X e (tM K EX .V ma):=h.mono fun _ _ _ q=>ua q
theorem xk (h:PE X e (tM K EX .V ma)):PE X e (tM K EX .U ma):=h.mono fun _ _ _ q=>tX q
theorem ph (h:PE X e (tM K EX .V ma)):PE X e (tM K EX .C ma):=h.mono fun _ _ _ q=>tY q
theorem i4 (h:PE X e (tM K EX .F ma)):PE X e (tM K EX .C ma):=h.mono fun _ _ _ q=>ub q
theorem j3 (h:PE X e (tM K EX .U ma)):PE X e (tM K EX .B ma):=h.mono fun _ _ _ q=>tZ q
theorem l9 (h:PE X e (tM K EX .C ma)):PE X e (tM K EX .B ma):=h.mono fun _ _ _ q=>uc q
theorem ca (h:PE X e (tM K EX .U ma)):PE X e (tM K EX .V (az ma)):=h.mono fun _ _ _ q=>gd (.inr rfl) q
theorem xj (h:PE X e (tM K EX .U ma)):PE X e (tM K EX .F (az ma)):=h.mono fun _ _ _ q=>gd (.inl rfl) q
theorem qv (d:Mode) (i:Nat) {x:Str} (hN:X.N[i]?=some x:=by rfl) (hv:Vis X.env.scope x:=by first | exact Or.inl rfl | exact Or.inr (Or.inl rfl) | exact Or.inr (Or.inr rfl)) (hd:(x == ("__debug__" : Str))=false:=by decide)
  (hcd:(x == ("__classdict__" : Str))=false:=by decide):PE X (.Name x pos) (tM K EX d (b8 d i)):=(P5 hN hv hd hcd).mono fun _ _ _ q=>eU q
theorem d8 {i j}:PE X (.Constant (.int i) j pos) (tM K EX d (mC (.int i))):=pe_int.mono fun _ _ _ q=>V5 rfl (fun _=>.int) q
theorem F5 {t j}:PE X (.Constant (.bool t) j pos) (tM K EX d (mC (.bl t))):=pe_bl.mono fun _ _ _ q=>V5 rfl (fun _=>.bl) q
theorem R6 {j}:PE X (.Constant .none j pos) (tM K EX d (mC .non)):=pe_non.mono fun _ _ _ q=>V5 rfl (fun _=>.non) q
theorem B2 {x j}:PE X (.Constant (.str x) j pos) (tM K EX d (mC (.str x))):=pe_str.mono fun _ _ _ q=>V5 rfl (fun _=>.str) q
theorem bu {x:Str} {n:String} (hg:Gl X x) (hm:X.mg x=none) (hv:bootBuiltins x=some (.type n)) (hn:x ≠ "__name__" := by decide) (hd:(x == ("__debug__" : Str))=false:=by decide):PE X (.Name x pos) (tM K EX d (mC (.ty n))):=
 (tN (v:=.ty n) hg hm hv rfl hn hd).mono fun _ _ _ q=>V5 rfl (fun _=>.ty) q
theorem i6 {op:Operator} {r:R2} {f:W->W->R W} (ho:OpR X (binaryOp op) r) (hr:Op2 K b d r f) (ha:PE X a (tM K EX b ma)) (hb:PE X c (tM K EX b mb)):PE X (.BinOp a op c pos) (tM K EX d (b2 f ma mb)):=
 (AR ho ha hb).mono fun _ _ _ q=>gR hr q
theorem W1 {op:CmpOp} {r:R2} {f:W->W->R W} (ho:OpR X (compareOp op) r) (hr:Op2 K b d r f) (ha:PE X a (tM K EX b ma)) (hb:PE X c (tM K EX b mb)) (hm:behindInMarks op c=false:=by first | exact fY _ | rfl):PE X (.Compare a [op] [c] pos) (tM K EX d (b2 f ma mb)):=
 (tL ho ha hb hm).mono fun _ _ _ q=>gR hr q
theorem j5 {op:CmpOp} {r:R2} {f:W->W->R W} (ho:OpR X (compareOp op) r) (hr:Op2 K b .B r f) (ha:PE X a (tM K EX b ma)) (hb:PE X c (tM K EX b mb)) (hm:behindInMarks op c=false:=by first | exact fY _ | rfl):PT X (.Compare a [op] [c] pos) (tT K EX (g6 (b2 f ma mb))):=
 (tx ho ha hb hm).mono fun σ H Q q=>by
  obtain ⟨H0,G,ρ,I,o⟩:=q
  have:=nG (ma:=b2 f ma mb) ⟨H0,G,ρ,I,o⟩
  exact gR hr this
theorem fA {op:UnaryOp} {r:V->Hp->VK->Prop} {f:W->R W} (ho:UnR X (unaryOp op) r) (hr:Op1 K b d r f) (ha:PE X a (tM K EX b ma)):PE X (.UnaryOp op a pos) (tM K EX d (b1 f ma)):=
 (AQ ho ha).mono fun _ _ _ q=>c_un hr q
theorem C5 (ha:PE X a (tM K EX .B ma)) (he:∀ whole,isTrue a X.env whole=(do let v <- whole; standAt a.pos; holding [v] (truthy v)):=by intro _; rfl):PT X a (tT K EX (g6 ma)):=
 (xn ha he).mono fun _ _ _ q=>c_tB q
theorem sZ (ha:PT X a (tT K EX ta)):PW X (.BoolOp .And [a] pos) (tT K EX ta):=tw ha
theorem bW (ha:PT X a (tT K EX ta)):PW X (.BoolOp .Or [a] pos) (tT K EX ta):=xl ha
theorem wY {b:Expr} (ha:PT X a (tT K EX ta)) (hb:PW X (.BoolOp .And (b::rest) pos) (tT K EX tb)):PW X (.BoolOp .And (a::b::rest) pos) (tT K EX (jC ta tb)):=(xm ha hb).mono fun _ _ _ q=>BG q
theorem aK {b:Expr} (ha:PT X a (tT K EX ta)) (hb:PW X (.BoolOp .Or (b::rest) pos) (tT K EX tb)):PW X (.BoolOp .Or (a::b::rest) pos) (tT K EX (Y6 ta tb)):=(AL ha hb).mono fun _ _ _ q=>c_or q
theorem J3 (ha:PT X a (tT K EX ta)):PT X (.UnaryOp .Not a pos) (tT K EX (G8 ta)):=(xo ha).mono fun _ _ _ q=>Bu q
theorem bY {op} (h:PE X a (tM K EX d ma)):PE X (.BoolOp op [a] pos) (tM K EX d ma):=xx h
theorem W2 {b:Expr} (ha:PE X a (tM K EX .B ma)) (hb:PE X (.BoolOp .And (b::rest) pos) (tM K EX d mb)):PE X (.BoolOp .And (a::b::rest) pos) (tM K EX d (V7 ma mb)):=(xA ha hb).mono fun _ _ _ q=>Ag q
theorem jL (ha:PE X a (tM K EX .B ma)):PE X (.UnaryOp .Not a pos) (tM K EX d (eY ma)):=(xy ha).mono fun _ _ _ q=>zW q
theorem pf {t:Expr} (ht:PT X t (tT K EX ta)) (ha:PE X a (tM K EX d ma)) (hb:PE X c (tM K EX d mb)):PE X (.IfExp t a c pos) (tM K EX d (vIf ta ma mb)):=(pq ht ha hb).mono fun _ _ _ q=>c_if q
theorem b9:PA X [] (tA K EX d aN):=pa_nil.mono fun _ _ _ q=>Bv q
theorem b7 (ha:PE X e (tM K EX d ma)) (hr:PA X es (tA K EX d mr)) (hs:starEach (e::es) X.env=(false,eval e X.env)::starEach es X.env:=by rfl):PA X (e::es) (tA K EX d (aC ma mr)):=(iN ha hr hs).mono fun _ _ _ q=>Ad q
theorem x3 {x1} (h:PA X es (tA K EX .V mr)):PE X (.Tuple es x1 pos) (tM K EX .F (x9 mr)):=(lT h).mono fun _ _ _ q=>Bp q
theorem wX {x1} (h:PA X es (tA K EX .U mr)):PE X (.Tuple es x1 pos) (tM K EX .U (x9 mr)):=(lT h).mono fun _ _ _ q=>zQ q
theorem O1 (h:PA X es (tA K EX .V mr)):PE X (.List es pos) (tM K EX .F (E2 mr)):=(xz h).mono fun _ _ _ q=>Bw q
theorem f9 (ha:PE X a (tM K EX .B ma)) (hb:PE X c (tM K EX .B mb)) (hs:aT c:=by exact fun _ _=>rfl) (hK:X.K=K:=by rfl):PE X (.Subscript a c pos) (tM K EX .U (b2 fIx ma mb)):=by
 subst hK; exact (jP mR ha hb hs).mono fun _ _ _ q=>gR xJ q
theorem R7 (ha:PE X a (tM K EX .C ma)) (hb:PE X c (tM K EX .C mb)) (hs:aT c:=by exact fun _ _=>rfl) (hK:X.K=K:=by rfl):PE X (.Subscript a c pos) (tM K EX .V (b2 fIx ma mb)):=by
 subst hK; exact (jP mR ha hb hs).mono fun _ _ _ q=>gR xI q
theorem db:PO X none (N4 K EX pN):=po_none.mono fun _ _ _ q=>qI q
theorem da (h:PE X e (tM K EX .B ma)):PO X (some e) (N4 K EX (pS ma)):=(tE h).mono fun _ _ _ q=>zV q
theorem pc (k:Bool) {lo hi:Option Expr} {p2:Pos} {ml mh:Rho->R (Option Int)} (he:PE X e (tM K EX (cb k) ma)) (hl:PO X lo (N4 K EX ml)) (hu:PO X hi (N4 K EX mh)) (hK:X.K=K:=by rfl):PE X (.Subscript e (.Slice lo hi none p2) pos) (tM K EX .F (vSl k ma ml mh)):=by
 subst hK; exact (fJ sv he hl hu).mono fun _ _ _ q=>c_sl q
theorem o9 {x:Str} {id:String} {r:List V->Hp->VK->Prop} {f:List W->R W} {p:Pos} (hc:K6 X (.builtin id) r) (hr:Cal K b d r f) (hg:Gl X x) (hm:X.mg x=none) (hv:bootBuiltins x=some (.builtin id)) (ha:PA X (e::es) (tA K EX b mr))
  (hn:x ≠ "__name__" := by decide) (hdb:(x == ("__debug__" : Str))=false:=by decide) (he:starEach (e::es) X.env=(false,eval e X.env)::starEach es X.env:=by rfl) (hpl:(backTo pos (starEach es X.env)).any (·.1)=false:=by rfl) :
  PE X (.Call (.Name x p) (e::es) [] pos) (tM K EX d (bA f mr)):=(pw hc hg hm hv ha hn hdb he hpl).mono fun _ _ _ q=>Ae hr q
theorem P3 {x:Str} {T:String} {r:List V->Hp->VK->Prop} {f:List W->R W} {p:Pos} (hc:K6 X (.type T) r) (hr:Cal K b d r f) (hg:Gl X x) (hm:X.mg x=none) (hv:bootBuiltins x=some (.type T)) (ha:PA X (e::es) (tA K EX b mr))
  (hn:x ≠ "__name__" := by decide) (hdb:(x == ("__debug__" : Str))=false:=by decide) (he:starEach (e::es) X.env=(false,eval e X.env)::starEach es X.env:=by rfl) (hpl:(backTo pos (starEach es X.env)).any (·.1)=false:=by rfl) :
  PE X (.Call (.Name x p) (e::es) [] pos) (tM K EX d (bA f mr)):=(lV hc hg hm hv ha hn hdb he hpl).mono fun _ _ _ q=>Ae hr q
theorem w6 (hK:X.K=K:=by rfl):K6 X (.builtin "len") (fun xs H Q=>∃ p ys,xs = [.ref p]/\(SqL K H p ys\/SqT K H p ys)/\Q (.int ys.length) H):=by subst hK; exact gO
theorem K5 (hK:X.K=K:=by rfl):K6 X (.type "tuple") (fun xs H Q=>∃ p ys,xs = [.ref p]/\((SqL K H p ys/\∀ l,H l=none->Q (.ref l) (upd H l (.tup ys)))\/(SqT K H p ys/\Q (.ref p) H))):=by subst hK; exact eG
theorem E8 {k:Nat} {f:Addr} {fd:FuncData} {ps:List Str} {x:Str} {p:Pos} {n N:Nat} {m:Rho->R Fl} (F:FnOk X.prog X.w X.K X.mg X.base CX0 k f fd ps (spM K n d (g7 n N m))) (hd:d=.F\/d=.V) (hr:Room k X.A) (hg:Gl X x) (hm:X.mg x=some (.ref f)) (hk:PySem.W.keepIn X.K (.ref f)=true) (hb:Binds X.K fd ps [])
  (ha:PA X (e::es) (tA K (fun _ _=>False) .B mr)) (hdb:(x == ("__debug__" : Str))=false:=by decide) (he:starEach (e::es) X.env=(false,eval e X.env)::starEach es X.env:=by rfl) (hpl:(backTo pos (starEach es X.env)).any (·.1)=false:=by rfl) :
  PE X (.Call (.Name x p) (e::es) [] pos) (tM K (fun _ _=>False) d (bA (g7 n N m) mr)):=
 (iM F hr hg hm hk hb .nil rq ha hdb he hpl).mono fun _ _ _ q=>Af hd (fun ws h=>fq ws h) (fun _ _ z=>z) q
variable {tg:Expr} {lp:Bool}
theorem rm (h:PE X e (tM K EX (cV lp .U) ma)) (hK:X.K=K:=by rfl):PI X tg e (tIt K EX lp .U (bS ma)):=by subst hK; exact (AO h).mono fun _ _ _ q=>Bz (.inr rfl) q
theorem M5 {p:Pos} (hg:Gl X "range") (hm:X.mg "range" = none) (ha:PA X [a] (tA K EX .B mr)) (hs:starEach [a] X.env = [(false,eval a X.env)]:=by rfl):PI X tg (.Call (.Name "range" p) [a] [] pos) (tIt K EX lp .U (bI P2 mr)):=
 (lR hg hm ha hs).mono fun _ _ _ q=>zU (.inr rfl) q
theorem rh {elts:List Expr} {p tp:Pos} {k:Nat} (hg:Gl X "zip") (hm:X.mg "zip" = none) (ha:PA X (a::es) (tA K EX (cV lp .U) mr)) (hK:X.K=K:=by rfl) (hs:starEach (a::es) X.env=(false,eval a X.env)::starEach es X.env:=by rfl) (hpl:(backTo pos (starEach es X.env)).any (·.1)=false:=by rfl) :
  PI X (.Tuple elts k tp) (.Call (.Name "zip" p) (a::es) [] pos) (tIt K EX lp .U (bI G7 mr)):=by subst hK; exact (xv hg hm ha hs hpl).mono fun _ _ _ q=>Bo (.inr rfl) q
end
section
variable {X:Cx} {K:Frag} {EX:EXT} {d b:Mode} {e:Expr} {st:Stmt} {sts:List Stmt} {pos:Pos} {ma mb:Rho->R W} {ta:Rho->R Bool} {m n:Rho->R Fl}
theorem xi {cs:Scope} {N':List Str} {tg iter elt:Expr} {ifs:List Expr} {dd:Mode} {g:TG} {mg:W->Rho->Option Rho} {mi:Rho->R (List W)} (S:g3 X.env.scope cs X.N N') (hc:X.calm=true) (hi:PI X tg iter (tIt K EX false dd mi))
  (hg:∀ cl ex s H,PG (i5 X cs cl N' ex s H) tg g) (hgt:Gt K dd g mg) (hk:B6 X.N.length g) (ht:∀ cl ex s H,PIf (i5 X cs cl N' ex s H) ifs (tT K EX ta)) (he:∀ cl ex s H,PE (i5 X cs cl N' ex s H) elt (tM K EX .V ma))
  (hs:∀ x,foldedSetIterable iter X.env x=pure x:=by intro _; rfl):PE X (.ListComp elt [⟨tg,iter,ifs,0⟩] cs pos) (tM K EX .F (l6 N'.length mi mg ta ma)):=
 (tK S hc hi hg hk ht he hs).mono fun _ _ _ q=>gU hgt q
theorem wZ {i:Nat} {y:Str} {py:Pos} {cs:Scope} {N':List Str} {tg iter elt:Expr} {ifs:List Expr} {dd:Mode} {g:TG} {mg:W->Rho->Option Rho} {mi:Rho->R (List W)} {cpos:Pos} (S:g3 X.env.scope cs X.N N') (hc:X.calm=true) (hi:PI X tg iter (tIt K EX false dd mi))
  (hg:∀ cl ex s H,PG (i5 X cs cl N' ex s H) tg g) (hgt:Gt K dd g mg) (hk:B6 X.N.length g) (ht:∀ cl ex s H,PIf (i5 X cs cl N' ex s H) ifs (tT K EX ta)) (he:∀ cl ex s H,PE (i5 X cs cl N' ex s H) elt (tM K EX .V ma))
  (hN:X.N.Nodup) (hy:X.N[i]?=some y) (hl:Loc X.env.scope y)
  (hsw:swapsWith (.ListComp elt [⟨tg,iter,ifs,0⟩] cs cpos) (some (.Name y py)) pos.line X.env=pure true:=by rfl) (hf:X.fn y=true\/X.env.scope.names.lookup y=some .local:=by first | exact .inl rfl | exact .inr rfl | assumption)
  (hs:∀ x,foldedSetIterable iter X.env x=pure x:=by intro _; rfl):PS X (.Assign [.Name y py] (.ListComp elt [⟨tg,iter,ifs,0⟩] cs cpos) pos) (tSt K EX d (sF i (l6 N'.length mi mg ta ma))):=
 (tz S hc hi hg hk ht he hN hy hl hsw hf hs).mono fun D σ H q=>by
  have:=gQ (m:=l6 N'.length mi mg ta ma) q
  exact gU hgt this
theorem r6:PIf X [] (tT K EX yes):=fun pins s σ H Q I q=>tG pins s σ H Q I (by obtain ⟨H0,G,ρ,I0,o⟩:=q; exact o true G H (Ext.refl I0.gh) rfl)
theorem lJ {c:Expr} (h:PT X c (tT K EX ta)):PIf X [c] (tT K EX ta):=tF h
theorem m9:PSs X [] (tSt K EX d sNx):=pss_nil.mono fun _ _ _ q=>zX q
theorem c8 (h1:PS X st (tSt K EX d m)) (h2:PSs X sts (tSt K EX d n)):PSs X (st::sts) (tSt K EX d (e8 m n)):=(fF h1 h2).mono fun _ _ _ q=>Bs q
theorem c9 (h1:PS X st (tSt K EX d m)):PSs X [st] (tSt K EX d m):=iI h1
theorem aM {i:Nat} (h:PS X st (tSt K EX d m)):PS X st (tSt K EX d (Z3 i m)):=h.mono fun _ _ _ q=>BA q
theorem xh:PS X (.Continue pos) (tSt K EX d sCt):=ps_continue.mono fun _ _ _ q=>Ac q
theorem tj:PS X st (tSt K EX d lB):=ps_never.mono fun _ _ _ q=>vd q
theorem g2 (he:PE X e (tM K EX d ma)):PS X (.Return (some e) pos) (tSt K EX d (i3 ma)):=(lL he).mono fun _ _ _ q=>rO q
theorem bX (i:Nat) {x:Str} {p:Pos} (hd:d=.F\/d=.V) (hN:X.N[i]?=some x:=by rfl) (hv:Vis X.env.scope x:=by first | exact Or.inl rfl | exact Or.inr (Or.inl rfl) | exact Or.inr (Or.inr rfl)) (hdd:(x == ("__debug__" : Str))=false:=by decide)
  (hcd:(x == ("__classdict__" : Str))=false:=by decide):PS X (.Return (some (.Name x p)) pos) (tSt K EX d (E1 d i)):=(lL (P5 hN hv hdd hcd)).mono fun _ _ _ q=>qH hd q
theorem q5 {i:Nat} {x:Str} {pos':Pos} (hN:X.N.Nodup) (hi:X.N[i]?=some x) (hx:Loc X.env.scope x) (he:PE X e (tM K EX .V ma)) (hs:swapsWith e (some (.Name x pos')) pos.line X.env=pure false:=by rfl) (hf:X.fn x=true\/X.env.scope.names.lookup x=some .local:=by first | exact .inl rfl | exact .inr rfl | assumption) :
  PS X (.Assign [.Name x pos'] e pos) (tSt K EX d (sV i ma)):=(Z6 hN hi hx he hs hf).mono fun _ _ _ q=>zR q
theorem fB {i:Nat} {x:Str} {pos':Pos} (hN:X.N.Nodup) (hi:X.N[i]?=some x) (hx:Loc X.env.scope x) (he:PE X e (tM K EX .U ma)) (hs:swapsWith e (some (.Name x pos')) pos.line X.env=pure false:=by rfl) (hf:X.fn x=true\/X.env.scope.names.lookup x=some .local:=by first | exact .inl rfl | exact .inr rfl | assumption) :
  PS X (.Assign [.Name x pos'] e pos) (tSt K EX d (sU i ma)):=(Z6 hN hi hx he hs hf).mono fun _ _ _ q=>zS q
theorem j9 {i:Nat} {x:Str} {pos':Pos} (hN:X.N.Nodup) (hi:X.N[i]?=some x) (hx:Loc X.env.scope x) (he:PE X e (tM K EX .F ma)) (hs:swapsWith e (some (.Name x pos')) pos.line X.env=pure false:=by rfl) (hf:X.fn x=true\/X.env.scope.names.lookup x=some .local:=by first | exact .inl rfl | exact .inr rfl | assumption) :
  PS X (.Assign [.Name x pos'] e pos) (tSt K EX d (sF i ma)):=(Z6 hN hi hx he hs hf).mono fun _ _ _ q=>gQ q
theorem AK {tg:Expr} {g:TG} {mg:W->Rho->Option Rho} (he:PE X e (tM K EX b ma)) (hg:PG X tg g) (hgt:Gt K b g mg) (hs:swapsWithSole [tg] e pos.line X.env=pure false:=by rfl) (hw:swappedStores [tg] e X.env=pure none:=by rfl) (h1:(assignEach [tg] X.env).map (·.2) = [assign tg X.env]:=by rfl):PS X (.Assign [tg] e pos) (tSt K EX d (sG mg ma)):=
 (lM he hg hs hw h1).mono fun _ _ _ q=>BE hgt q
theorem ce {i:Nat} {x:Str} {p apos cpos:Pos} (hN:X.N[i]?=some x) (hv:Vis X.env.scope x) (ha:PE X e (tM K EX .V ma)) (hd:(x == ("__debug__" : Str))=false:=by decide) (hcd:(x == ("__classdict__" : Str))=false:=by decide)
  (hbase:attributeBase (.Name x p) "append" X.env (eval (.Name x p) X.env)=eval (.Name x p) X.env:=by rfl)
  (hfew:((backTo cpos (starEach [e] X.env)).all (fun x=>!x.1)&&(backToKw cpos (keywordEach [] X.env)).all (fun x=>x.1.isSome)
   && decide (([e]:List Expr).length+([]:List Keyword).length+(if ([]:List Keyword).isEmpty then 0 else 1)<30))=true:=by rfl)
  (hline:(apos.endLine == cpos.line)=true:=by rfl) (hs:starEach [e] X.env=(false,eval e X.env)::starEach [] X.env:=by rfl) (hsw:swapsWith (.Call (.Attribute (.Name x p) "append" apos) [e] [] cpos) none pos.line X.env=pure false:=by rfl) :
  PS X (.Expr (.Call (.Attribute (.Name x p) "append" apos) [e] [] cpos) pos) (tSt K EX d (W7 i ma)):=(iJ (dR (P5 hN hv hd hcd) ha hbase hfew hline hs) hsw).mono fun _ _ _ q=>BF q
theorem n0 {c:Expr} {x y:List Stmt} (hc:PT X c (tT K EX ta)) (ha:PSs X x (tSt K EX d m)) (hb:PSs X y (tSt K EX d n)):PS X (.If c x y pos) (tSt K EX d (mIf ta m n)):=(rp hc ha hb).mono fun _ _ _ q=>Bx q
theorem aJ {c:Expr} {body:List Stmt} (hp:PassesOwn (model X.prog X.w) X.A X.env X.xe) (hc:PT X c (tT K EX ta)) (hb:PSs X body (tSt K EX d m)):PS X (.While c body [] pos) (tSt K EX d (E9 ta m)):=(pi hp hc hb).mono fun _ _ _ q=>vc q
theorem F0 {tg iter:Expr} {body:List Stmt} {dd:Mode} {g:TG} {mg:W->Rho->Option Rho} {mi:Rho->R (List W)} (hp:PassesOwn (model X.prog X.w) X.A X.env X.xe) (hc:X.calm=true) (hi:PI X tg iter (tIt K EX true dd mi)) (hg:PG X tg g) (hgt:Gt K dd g mg) (hb:PSs X body (tSt K EX d m))
  (hs:∀ x,foldedSetIterable iter X.env x=pure x:=by intro _; rfl):PS X (.For tg iter body [] pos) (tSt K EX d (J1 mi mg m)):=(xq hp hc hi hg hb hs).mono fun _ _ _ q=>BB hgt q
theorem AJ {i:Nat} {x:Str} {op:Operator} {f:Int->Int->Int} {pos':Pos} (hN:X.N.Nodup) (hi:X.N[i]?=some x) (hx:Loc X.env.scope x) (he:PE X e (tM K EX .B ma)) (ho:PIp X op (ipI f)) (hf:X.fn x=true\/X.env.scope.names.lookup x=some .local:=by first | exact .inl rfl | exact .inr rfl | assumption) :
  PS X (.AugAssign (.Name x pos') op e pos) (tSt K EX d (gq i f ma)):=(xr hN hi hx he ho hf).mono fun _ _ _ q=>BD q
theorem jK {i:Nat} {x:Str} {k:Expr} {p p2:Pos} (hN:X.N[i]?=some x) (hv:Vis X.env.scope x) (hk:PE X k (tM K EX .B mb)) (he:PE X e (tM K EX .V ma)) (hd:(x == ("__debug__" : Str))=false:=by decide) (hcd:(x == ("__classdict__" : Str))=false:=by decide)
  (hg:PG X (.Subscript (.Name x p) k p2) (gSub (O9 i) (tM K EX .B mb) rSetL))
  (hs:swapsWithSole [.Subscript (.Name x p) k p2] e pos.line X.env=pure false:=by rfl) (hw:swappedStores [.Subscript (.Name x p) k p2] e X.env=pure none:=by rfl):PS X (.Assign [.Subscript (.Name x p) k p2] e pos) (tSt K EX d (bB i mb ma)):=
 (lM he hg hs hw).mono fun _ _ _ q=>Br q
end
end TP
namespace TP
open PySem L2
abbrev gLt (i j:Int):W:=.bl (decide (i<j))
abbrev gLe (i j:Int):W:=.bl (decide (i<=j))
abbrev gGt (i j:Int):W:=.bl (decide (j<i))
abbrev gGe (i j:Int):W:=.bl (decide (j<=i))
abbrev B5 (i j:Int):W:=.int (i+j)
abbrev gSub (i j:Int):W:=.int (i-j)
abbrev m4 (i j:Int):W:=.int (i*j)
abbrev L5 (i j:Int):W:=.int (i%j)
abbrev ao (i j:Int):W:=.int (i/j)
abbrev bF (i j:Int):W:=.int (i^j.toNat)
abbrev P8 (i:Int):W:=.int (-i)
abbrev yN (i j:Int):Int:=if j>i then j else i
abbrev yM (i j:Int):Int:=if j<i then j else i
abbrev rF (i j:Int):Int:=i+j
abbrev Be (i j:Int):Int:=i-j
abbrev K3 (_ j:Int):Prop:=0<j
instance (i j:Int):Decidable (CMul i j):=by unfold CMul; infer_instance
instance (i j:Int):Decidable (aD i j):=by unfold aD; infer_instance
instance (i j:Int):Decidable (R0 i j):=by unfold R0; infer_instance
instance (i j:Int):Decidable (rW i j):=by unfold rW; infer_instance
def vOf:W->Option V
 | .non=>some .non
 | .bl b=>some (.bl b)
 | .int i=>some (.int i)
 | .str x=>some (.str x)
 | _=>none
def qw (u v:W):Option Bool:=match vOf u,vOf v with
 | some x,some y=>if fk x y then some (decide (x=y)) else none
 | _,_=>none
def j6 (neg:Bool) (u v:W):R W:=match qw u v with
 | some b=>.ok (.bl (if neg then !b else b))
 | none=>.stuck
section
variable {K:Frag} {H0 G H:Hp} {ρ:Rho} {σ:St} {d:Mode}
theorem eJ {Ha:Hp} {v:V} {w:W} {x:V} (h:Md K H0 Ha G H v w .B) (e:vOf w=some x):v=x:=by
 cases w <;> first | cases e | skip
 ·exact h.nonB
 ·exact h.blB
 ·exact h.intB
 ·exact h.strB
theorem y6:Op2 K .B d rEq (j6 false):=by
 intro EX H0 Hs G H ρ σ Ha Hb x y u v Q I s mx my o
 unfold j6 qw at o
 cases hu:vOf u with
 | none=>rw [hu] at o; exact o.elim
 | some p=>
  cases hv:vOf v with
  | none=>rw [hu,hv] at o; exact o.elim
  | some q=>
   rw [hu,hv] at o
   cases eJ mx hu
   cases eJ my hv
   dsimp only at o
   by_cases c:fk x y=true
   ·rw [if_pos c] at o
    exact ⟨c,o _ G H (Ext.refl I.gh) (Md.sca rfl (fun _=>.bl) d)⟩
   ·rw [if_neg c] at o; exact o.elim
theorem fW:Op2 K .B d rNe (j6 true):=by
 intro EX H0 Hs G H ρ σ Ha Hb x y u v Q I s mx my o
 unfold j6 qw at o
 cases hu:vOf u with
 | none=>rw [hu] at o; exact o.elim
 | some p=>
  cases hv:vOf v with
  | none=>rw [hu,hv] at o; exact o.elim
  | some q=>
   rw [hu,hv] at o
   cases eJ mx hu
   cases eJ my hv
   dsimp only at o
   by_cases c:fk x y=true
   ·rw [if_pos c] at o
    exact ⟨c,o _ G H (Ext.refl I.gh) (Md.sca rfl (fun _=>.bl) d)⟩
   ·rw [if_neg c] at o; exact o.elim
end
end TP
namespace TP
open PySem L2
mutual
def pd:W->PyData
 | .non=>.none
 | .bl b=>.bool b
 | .int i=>.int i
 | .str x=>.str x
 | .ty _=>.none
 | .exc _ _=>.none
 | .cls _=>.none
 | .tup ws=>.tuple (pds ws)
 | .lst ws=>.list (pds ws)
 | .scr ws=>.list (pds ws)
def pds:List W->List PyData
 | []=>[]
 | w::ws=>pd w::pds ws
end
mutual
def shp:Nat->W->Bool
 | _,.non=>true
 | _,.bl _=>true
 | _,.int _=>true
 | _,.str x=>PyData.strOk x
 | n+1,.tup ws=>K9 n ws
 | n+1,.lst ws=>K9 n ws
 | n+1,.scr ws=>K9 n ws
 | _,_=>false
def K9:Nat->List W->Bool
 | _,[]=>true
 | n,w::ws=>shp n w&&K9 n ws
end
theorem fh:∀ (w:W) (n:Nat),shp n w=true->(pd w).canLay0=true/\(pd w).depth<=n:=by
 intro w
 have tl:∀ (ws:List W) (c:List PyData->PyData),(∀ l,(c l).canLay0=PyData.canLayAll0 l)->(∀ l,(c l).depth=PyData.depthAll l+1)->(∀ n:Nat,K9 n ws=true->PyData.canLayAll0 (pds ws)=true/\PyData.depthAll (pds ws)<=n)->∀ n:Nat,(match n with | 0=>false | n+1=>K9 n ws)=true->(c (pds ws)).canLay0=true/\(c (pds ws)).depth<=n:=fun ws c h1 h2 ih n h=>by
  cases n with
  | zero=>cases h
  | succ n=>have:=ih n h; exact ⟨by rw [h1]; exact this.1,by rw [h2]; exact Nat.succ_le_succ this.2⟩
 have fl:∀ {n:Nat} {w:W} {P:Prop},shp n w=false->shp n w=true->P:=fun h1 h2=>by rw [h1] at h2; cases h2
 induction w using W.rec (motive_2:=fun ws=>∀ n:Nat,K9 n ws=true->PyData.canLayAll0 (pds ws)=true/\PyData.depthAll (pds ws)<=n) with
 | non=>exact fun n _=>⟨rfl,Nat.zero_le _⟩
 | bl b=>exact fun n _=>⟨rfl,Nat.zero_le _⟩
 | int i=>exact fun n _=>⟨rfl,Nat.zero_le _⟩
 | str x=>exact fun n h=>⟨by cases n <;> exact h,Nat.zero_le _⟩
 | ty a=>exact fun n h=>fl (by cases n <;> rfl) h
 | exc a b=>exact fun n h=>fl (by cases n <;> rfl) h
 | cls a=>exact fun n h=>fl (by cases n <;> rfl) h
 | tup ws ih=>exact fun n h=>tl ws .tuple (fun _=>rfl) (fun _=>rfl) ih n (by cases n <;> exact h)
 | lst ws ih=>exact fun n h=>tl ws .list (fun _=>rfl) (fun _=>rfl) ih n (by cases n <;> exact h)
 | scr ws ih=>exact fun n h=>tl ws .list (fun _=>rfl) (fun _=>rfl) ih n (by cases n <;> exact h)
 | nil=>exact ⟨rfl,Nat.zero_le _⟩
 | cons w ws h1 h2=>
  rename_i n h
  have h':shp n w=true/\K9 n ws=true:=(Bool.and_eq_true _ _).mp h
  have a:=h1 n h'.1
  have b:=h2 n h'.2
  exact ⟨by show (PyData.canLay0 _&&PyData.canLayAll0 _)=true; rw [a.1,b.1]; rfl,Nat.max_le.mpr ⟨a.2,b.2⟩⟩
theorem sw (ws:List W) (n:Nat) (h:K9 n ws=true):PyData.canLayAll0 (pds ws)=true/\PyData.depthAll (pds ws)<=n:=by
 have:=fh (.tup ws) (n+1) h
 exact ⟨this.1,Nat.le_of_succ_le_succ this.2⟩
section
variable {X:Cx} {pins:List (Addr×Obj)} {σ:St} {H:Hp} {s:Shared}
theorem Rep.reads (I:Inv X pins σ H s) {x:V} {w:W} {u:Value} (n:Nat) (r:Rep X.K H x w):shp n w=true->RelV x u->∃ as,Reads s.heap u (pd w) as:=by
 have fl:∀ {n:Nat} {w:W} {P:Prop},shp n w=false->shp n w=true->P:=fun h1 h2=>by rw [h1] at h2; cases h2
 induction r using Rep.rec (motive_2:=fun xs ws _=>∀ (us:List Value) (n:Nat),K9 n ws=true->Vals xs us->∃ as,ReadsAll s.heap us (pds ws) as) generalizing u n with
 | non=>intro _ r; cases r; exact ⟨_,.none⟩
 | bl=>intro _ r; cases r; exact ⟨_,.bool _⟩
 | int=>intro _ r; obtain ⟨t,rfl⟩:=r; exact ⟨_,.int _ _⟩
 | str=>intro _ r; obtain ⟨t,rfl⟩:=r; exact ⟨_,.str _ _⟩
 | ty=>exact fun h _=>fl (by cases n <;> rfl) h
 | exc=>exact fun h _=>fl (by cases n <;> rfl) h
 | cls=>exact fun h _=>fl (by cases n <;> rfl) h
 | tup ha _ ih=>
  intro h r
  cases r
  cases n with
  | zero=>cases h
  | succ n=>
   obtain ⟨its,rv,⟨o,e,c,k,dd⟩,_⟩:=I.tuple (SqT.of ha)
   obtain ⟨as,q⟩:=ih _ n h rv
   exact ⟨_,.tuple e c dd (by simpa using q)⟩
 | lst ha _ ih=>
  intro h r
  cases r
  cases n with
  | zero=>cases h
  | succ n=>
   obtain ⟨its,rv,pl,_⟩:=I.list (SqL.of ha)
   obtain ⟨o,e,c,k,dd⟩:=pl.isList
   obtain ⟨as,q⟩:=ih _ n h rv
   exact ⟨_,.list e c dd (by simpa using q)⟩
 | scr ha _ ih=>
  intro h r
  cases r
  cases n with
  | zero=>cases h
  | succ n=>
   obtain ⟨its,rv,pl,_⟩:=I.list ha
   obtain ⟨o,e,c,k,dd⟩:=pl.isList
   obtain ⟨as,q⟩:=ih _ n h rv
   exact ⟨_,.list e c dd (by simpa using q)⟩
 | nil=>rename_i us n _ r; cases r; exact ⟨_,.nil⟩
 | cons _ _ h1 h2=>
  rename_i us n h r
  cases r with
  | cons r1 r2=>
   have h':=(Bool.and_eq_true _ _).mp h
   obtain ⟨as,q1⟩:=h1 n h'.1 r1
   obtain ⟨bs,q2⟩:=h2 _ n h'.2 r2
   exact ⟨_,.cons q1 q2⟩
def eqW (u v:W):Bool:=PyData.eqv (pd u) (pd v)
def oX (K:Frag) (neg:Bool):R2:=fun x y H Q=>∃ u v,Rep K H x u/\Rep K H y v/\shp 8 u=true/\shp 8 v=true/\Q (.bl (if neg then !eqW u v else eqW u v)) H
theorem R3 {w:W} (h:shp 8 w=true):SeqAt.shaped (pd w)=true:=by
 obtain ⟨a,b⟩:=fh w 8 h
 unfold SeqAt.shaped
 rw [a,Bool.true_and]
 exact decide_eq_true (Nat.le_trans b (by decide))
theorem fN (hu:X.A.units+64<cLine):OpR X (compareOp .Eq) (oX X.K false):=by
 intro pins s σ H x y v u Q I rx ry h
 obtain ⟨a,b,ra,rb,sa,sb,q⟩:=h
 obtain ⟨as,qa⟩:=Rep.reads I 8 ra sa rx
 obtain ⟨bs,qb⟩:=Rep.reads I 8 rb sb ry
 exact PyProof.Rows.eq_dataH qa qb (R3 sa) (R3 sb) hu ⟨.bl (eqW a b),H,I,rfl,q⟩
theorem xD (hu:X.A.units+64<cLine):OpR X (compareOp .NotEq) (oX X.K true):=by
 intro pins s σ H x y v u Q I rx ry h
 obtain ⟨a,b,ra,rb,sa,sb,q⟩:=h
 obtain ⟨as,qa⟩:=Rep.reads I 8 ra sa rx
 obtain ⟨bs,qb⟩:=Rep.reads I 8 rb sb ry
 exact PyProof.Rows.ne_dataH qa qb (R3 sa) (R3 sb) hu ⟨.bl (!eqW a b),H,I,rfl,q⟩
def fEq (neg:Bool) (u v:W):R W:=if shp 8 u&&shp 8 v then .ok (.bl (if neg then !eqW u v else eqW u v)) else .stuck
theorem ck {K:Frag} {d:Mode} {neg:Bool}:Op2 K .B d (oX K neg) (fEq neg):=by
 intro EX H0 Hs G H ρ σ Ha Hb x y u v Q I s mx my o
 unfold fEq at o
 by_cases c:(shp 8 u&&shp 8 v)=true
 ·rw [if_pos c] at o
  have c':shp 8 u=true/\shp 8 v=true:=by simpa using c
  exact ⟨u,v,mx.whole I,my.whole I,c'.1,c'.2,o _ G H (Ext.refl I.gh) (Md.sca rfl (fun _=>.bl) d)⟩
 ·rw [if_neg c] at o; exact o.elim
def S7:W->Bool->Bool
 | .bl a,b=>a == b
 | _,_=>false
def fIsB (neg:Bool):W->W->R W
 | u,.bl b=>.ok (.bl (if neg then !S7 u b else S7 u b))
 | _,_=>.stuck
end
theorem al {A:Around} {k:Nat} (hr:Room k A):A.units+64<cLine:=hr.units
end TP
namespace TP
open PySem L2
section
variable {X:Cx} {pins:List (Addr×Obj)} {σ:St} {H:Hp} {s:Shared}
theorem V6 {x:V} {us:List Value} (r:Vals [x] us):∃ u,us = [u]/\RelV x u:=by
 cases r with
 | cons a t=>cases t; exact ⟨_,rfl,a⟩
theorem ef {h':Heap} {o:Obj} (hk:∀ b u,b ∉ [s.heap.objs.size]->(s.heap.push o).get? b=some u->h'.get? b=some u):∀ b u,s.heap.get? b=some u->h'.get? b=some u:=fun b u e=>
 hk b u (by simp; exact Nat.ne_of_lt (Heap.lt_size e)) (Heap.get?_push_of_some _ e)
theorem eX {α:Type} {f:α->V} {g:α->Value->Prop} (hg:∀ a u,RelV (f a) u->g a u) {as:List α} {its:List Value} (r:Vals (as.map f) its) {i:Nat} {v:Value} (h:its.toArray[i]?=some v):∃ a,as[i]?=some a/\g a v:=by
 have h':its[i]?=some v:=by simpa using h
 induction as generalizing its i with
 | nil=>cases r; simp at h'
 | cons a as ih=>
  cases r with
  | cons q t=>
   cases i with
   | zero=>simp at h'; subst h'; exact ⟨a,rfl,hg _ _ q⟩
   | succ i=>simpa using ih t (i:=i) (by simpa using h') (by simpa using h')
theorem dL {p:Addr} {xs:List V} (I:Inv X pins σ H s) (hc:X.calm=true) (hp:H p=some (.lst xs)):∃ its:List Value,Vals xs its/\s.heap.IsList p its.toArray/\xs.length=its.toArray.size/\p≠s.heap.objs.size /\
  Walks X.prog X.w X.A.in1 s.heap.objs.size [s.heap.objs.size,p] [s.heap.objs.size] its.toArray.size (fun i v=>its.toArray[i]?=some v) (fun i h=>h.IsListIter s.heap.objs.size p i/\h.IsList p its.toArray):=by
 obtain ⟨its,rv,pl,hz⟩:=I.list (SqL.of hp)
 obtain ⟨o,e,_⟩:=pl.isList
 have hne:p≠s.heap.objs.size:=Nat.ne_of_lt (Heap.lt_size e)
 exact ⟨its,rv,pl.isList,by rw [List.size_toArray]; exact rv.length,hne,Walks.list (show X.A.in1.handled=none from I.ok.hd hc) _ p hne _⟩
theorem all_range {bs:List Bool}:(List.range bs.length).all (fun i=>bs.getD i false)=bs.all id:=by
 rw [Bool.eq_iff_iff,List.all_eq_true,List.all_eq_true]
 constructor
 ·intro h x hx
  obtain ⟨i,hi,e⟩:=List.mem_iff_getElem.mp hx
  have:=h i (by simpa using hi)
  rw [List.getD_eq_getElem?_getD] at this
  simpa [hi,e] using this
 ·intro h i hi
  have hi:i<bs.length:=by simpa using hi
  rw [List.getD_eq_getElem?_getD]
  simpa [hi] using h bs[i] (List.getElem_mem hi)
theorem oj {A:Around} {bs:List Bool} {its:List Value} (rv:Vals (bs.map V.bl) its):TruthOf X.prog X.w A (fun i v=>its.toArray[i]?=some v) (fun i=>bs.getD i false):=fun i v s' Q' E hv hq=>by
 obtain ⟨b,hb,e⟩:=eX (f:=V.bl) (g:=fun b u=>u=.bool b) (fun b u r=>r) rv hv
 subst e
 have:bs.getD i false=b:=by rw [List.getD_eq_getElem?_getD,hb]; rfl
 have hq':Q' (bs.getD i false) s':=hq
 rw [this] at hq'
 exact wpAny_truthy_bool hq'
theorem eC (hc:X.calm=true):K6 X (.builtin "all") (fun xs H Q=>∃ (p:Addr) (bs:List Bool),xs = [.ref p]/\H p=some (.lst (bs.map V.bl))/\Q (.bl (bs.all id)) H):=by
 intro pins s σ H xs us Q I r h
 obtain ⟨p,bs,rfl,hp,q⟩:=h
 obtain ⟨u,rfl,rx⟩:=V6 r
 cases rx
 obtain ⟨its,rv,hl,hlen,hne,Wk⟩:=dL I hc hp
 rw [List.length_map] at hlen
 refine call_all_walk (wpAny_pyIter_list hl ⟨_,_,_,_,_,_,_,rfl,Wk,⟨⟨_,Heap.get?_push_size _ rfl,rfl,rfl⟩,hl.push _⟩,oj rv,fun h' tk hk=>?_⟩)
 rw [<- hlen,all_range]
 exact ⟨.bl (bs.all id),H,I.kept (t':=tk) (ef hk),rfl,q⟩
def Q9:List W->Option (List Bool)
 | []=>some []
 | .bl b::ws=>(Q9 ws).map (b::·)
 | _=>none
theorem vi (bs:List Bool):Q9 (bs.map W.bl)=some bs:=by
 induction bs with
 | nil=>rfl
 | cons b bs ih=>rw [List.map_cons,Q9,ih]; rfl
theorem Reps.bls {K:Frag} {F:Hp} {vs:List V} {ws:List W} {bs:List Bool} (r:Reps K F vs ws):Q9 ws=some bs->vs=bs.map V.bl:=
 Reps.ind (P:=fun vs ws=>∀ bs,Q9 ws=some bs->vs=bs.map V.bl) (fun bs h=>by cases h; rfl) (fun {v w vs ws} r _ ih bs h=>by
  cases w <;> first | cases h | skip
  rename_i b
  have e:v=.bl b:=r.inv
  subst e
  have h':(Q9 ws).map (b::·)=some bs:=h
  cases q:Q9 ws with
  | none=>rw [q] at h'; cases h'
  | some cs=>rw [q] at h'; cases h'; rw [ih cs q]; rfl) r bs
def cJ (g:List Bool->Bool):List W->R W
 | [.lst ws]=>toR (Q9 ws)>>=fun bs=>.ok (.bl (g bs))
 | _=>.stuck
theorem jq {K:Frag} {d:Mode} {g:List Bool->Bool}:Cal K .B d (fun xs H Q=>∃ (p:Addr) (bs:List Bool),xs = [.ref p]/\H p=some (.lst (bs.map V.bl))/\Q (.bl (g bs)) H) (cJ g):=by
 intro EX H0 Hs G H ρ σ Ha vs ws Q I s m o
 cases m with
 | nil=>exact o.elim
 | @cons w v ws2 vs2 a t=>
  cases t with
  | cons _ _=>first | exact o.elim | (cases w <;> exact o.elim)
  | nil=>
   cases w <;> first | exact o.elim | skip
   rename_i ws
   obtain ⟨p,ys,rfl,hs,r⟩:=a.lstB I
   replace o:Out EX G H (mdW K d H0 Hs) (toR (Q9 ws)>>=fun bs=>.ok (.bl (g bs))) Q:=o
   cases q:Q9 ws with
   | none=>rw [q] at o; exact o.elim
   | some bs=>
    rw [q] at o
    rw [Reps.bls r q] at hs
    exact ⟨p,bs,rfl,hs,o _ G H (Ext.refl I.gh) (Md.sca rfl (fun _=>.bl) d)⟩
def dv (bs:List Bool):Bool:=bs.all id
end
theorem nK:bootBuiltins "all" = some (.builtin "all"):=by decide +kernel
theorem Ah:bootBuiltins "sum" = some (.builtin "sum"):=by decide +kernel
section
variable {X:Cx} {K:Frag} {d:Mode}
theorem nE (hc:X.calm=true):K6 X (.builtin "sum") (fun xs H Q=>∃ (p:Addr) (ns:List Int),xs = [.ref p]/\H p=some (.lst (ns.map V.int))/\Q (.int ns.sum) H):=by
 intro pins s σ H xs us Q I r h
 obtain ⟨p,ns,rfl,hp,q⟩:=h
 obtain ⟨u,rfl,rx⟩:=V6 r
 cases rx
 obtain ⟨its,rv,hl,hlen,hne,Wk⟩:=dL I hc hp
 rw [List.length_map] at hlen
 have pre:∀ (ms:List Int) (k:Nat),k<=ms.length->preSum (fun i=>ms.getD i 0) k=(ms.take k).sum:=by
  intro ms k
  induction k with
  | zero=>intro _; simp [preSum]
  | succ k ih=>
   intro hk
   rw [preSum,ih (by omega),List.take_succ_eq_append_getElem (by omega:k<ms.length),List.sum_append]
   have hk':k<ms.length:=by omega
   simp [List.getD_eq_getElem?_getD,hk']
 refine call_sum_walkAnyS (wpAny_pyIter_list hl ⟨_,_,_,_,_,_,_,(fun i=>ns.getD i 0),rfl,Wk.toS,⟨⟨_,Heap.get?_push_size _ rfl,rfl,rfl⟩,hl.push _⟩,fun b hb=>?_,fun i v hv=>?_,fun s' t' mv=>?_⟩)
 ·obtain ⟨o,e,_⟩:=id hl
  have hlt:=Heap.lt_size e
  simp at hb
  rcases hb with rfl | rfl
  ·simp [Heap.push]
  ·exact Nat.lt_of_lt_of_le hlt (by simp [Heap.push])
 ·obtain ⟨n,hn,t,e⟩:=eX (f:=V.int) (g:=fun n u=>∃ t,u=.int n t) (fun b u r=>r) rv hv
  refine ⟨t,?_⟩
  show v=Value.int (ns.getD i 0) t
  rw [e,List.getD_eq_getElem?_getD,hn]; rfl
 ·rw [<- hlen,pre ns ns.length (Nat.le_refl _),List.take_length]
  obtain ⟨hh,g,dd,tk,os⟩:=s'
  obtain rfl:g=s.gens:=mv.gens
  obtain rfl:dd=s.drawn:=mv.drawn
  obtain rfl:os=s.os:=mv.os
  exact ⟨.int ns.sum,H,I.kept (t':=tk) (ef mv.heap),⟨t',rfl⟩,q⟩
def r9:List W->Option (List Int)
 | []=>some []
 | .int b::ws=>(r9 ws).map (b::·)
 | _=>none
theorem ints_map (bs:List Int):r9 (bs.map W.int)=some bs:=by
 induction bs with
 | nil=>rfl
 | cons b bs ih=>rw [List.map_cons,r9,ih]; rfl
theorem Reps.ints {F:Hp} {vs:List V} {ws:List W} {bs:List Int} (r:Reps K F vs ws):r9 ws=some bs->vs=bs.map V.int:=
 Reps.ind (P:=fun vs ws=>∀ bs,r9 ws=some bs->vs=bs.map V.int) (fun bs h=>by cases h; rfl) (fun {v w vs ws} r _ ih bs h=>by
  cases w <;> first | cases h | skip
  rename_i b
  have e:v=.int b:=r.inv
  subst e
  have h':(r9 ws).map (b::·)=some bs:=h
  cases q:r9 ws with
  | none=>rw [q] at h'; cases h'
  | some cs=>rw [q] at h'; cases h'; rw [ih cs q]; rfl) r bs
def kn (g:List Int->Int):List W->R W
 | [.lst ws]=>toR (r9 ws)>>=fun bs=>.ok (.int (g bs))
 | _=>.stuck
theorem Al {g:List Int->Int}:Cal K .B d (fun xs H Q=>∃ (p:Addr) (ns:List Int),xs = [.ref p]/\H p=some (.lst (ns.map V.int))/\Q (.int (g ns)) H) (kn g):=by
 intro EX H0 Hs G H ρ σ Ha vs ws Q I s m o
 cases m with
 | nil=>exact o.elim
 | @cons w v ws2 vs2 a t=>
  cases t with
  | cons _ _=>first | exact o.elim | (cases w <;> exact o.elim)
  | nil=>
   cases w <;> first | exact o.elim | skip
   rename_i ws
   obtain ⟨p,ys,rfl,hs,r⟩:=a.lstB I
   replace o:Out EX G H (mdW K d H0 Hs) (toR (r9 ws)>>=fun bs=>.ok (.int (g bs))) Q:=o
   cases q:r9 ws with
   | none=>rw [q] at o; exact o.elim
   | some bs=>
    rw [q] at o
    rw [Reps.ints r q] at hs
    exact ⟨p,bs,rfl,hs,o _ G H (Ext.refl I.gh) (Md.sca rfl (fun _=>.int) d)⟩
def kg (ns:List Int):Int:=ns.sum
def fAbs:List W->R W
 | [.int i]=>.ok (.int (if i<0 then -i else i))
 | _=>.stuck
def zf:List W->R W
 | [.int i]=>.ok (.int i)
 | [.bl k]=>.ok (.int (if k then 1 else 0))
 | _=>.stuck
def fStr:List W->R W
 | [.int i]=>if i.natAbs.log2<1920 then .ok (.str (toString i)) else .stuck
 | _=>.stuck
end
end TP
namespace TP
open PySem L2
def mExt (i:Nat) (c:Bool) (m:Rho->R W):Rho->R Fl:=fun ρ=>match ρ[i]? with
 | some (.own ws)=>m ρ>>=fun w=>(match w with
  | .lst us=>if ws.length+us.length<=1000 then (if c||g4 us then .ok (.nx (ρ.set i (.own (ws++us)))) else .stuck) else .stuck
  | _=>.stuck)
 | _=>.stuck
def mRev (i:Nat):Rho->R Fl:=fun ρ=>match ρ[i]? with
 | some (.own ws)=>.ok (.nx (ρ.set i (.own ws.reverse)))
 | _=>.stuck
section
variable {K:Frag} {EX:EXT} {H0 G H:Hp} {ρ:Rho} {σ:St} {d:Mode} {D:Ends}
end
section
variable {X:Cx} {K:Frag} {EX:EXT} {d:Mode} {e:Expr} {pos:Pos} {ma:Rho->R W}
end
section
variable {X:Cx} {K:Frag} {EX:EXT} {a e tg:Expr} {es:List Expr} {pos:Pos} {ma:Rho->R W} {mr:Rho->R (List W)}
theorem E7 (h:PE X e (tM K EX .B ma)) (hK:X.K=K:=by rfl):PI X tg e (tIt K EX false .U (bS ma)):=rm (lp:=false) h hK
theorem bZ (h:PE X e (tM K EX .U ma)) (hK:X.K=K:=by rfl):PI X tg e (tIt K EX true .U (bS ma)):=rm (lp:=true) h hK
theorem bV {elts:List Expr} {p tp:Pos} {k:Nat} (hg:Gl X "zip") (hm:X.mg "zip" = none) (ha:PA X (a::es) (tA K EX .B mr)) (hK:X.K=K:=by rfl) (hs:starEach (a::es) X.env=(false,eval a X.env)::starEach es X.env:=by rfl) (hpl:(backTo pos (starEach es X.env)).any (·.1)=false:=by rfl) :
  PI X (.Tuple elts k tp) (.Call (.Name "zip" p) (a::es) [] pos) (tIt K EX false .U (bI G7 mr)):=rh (lp:=false) hg hm ha hK hs hpl
theorem lG {elts:List Expr} {p tp:Pos} {k:Nat} (hg:Gl X "zip") (hm:X.mg "zip" = none) (ha:PA X (a::es) (tA K EX .U mr)) (hK:X.K=K:=by rfl) (hs:starEach (a::es) X.env=(false,eval a X.env)::starEach es X.env:=by rfl) (hpl:(backTo pos (starEach es X.env)).any (·.1)=false:=by rfl) :
  PI X (.Tuple elts k tp) (.Call (.Name "zip" p) (a::es) [] pos) (tIt K EX true .U (bI G7 mr)):=rh (lp:=true) hg hm ha hK hs hpl
end
end TP
namespace TP
open PySem L2
section
variable {K:Frag} {EX:EXT} {H0 G H G1 H1:Hp} {ρ:Rho} {σ:St} {d:Mode} {D:Ends}
def Bc:Sl->Bool
 | .own _=>true
 | .dic _=>true
 | .dik _=>true
 | _=>false
def noOwn (ρ:Rho):Bool:=ρ.all fun s=>!Bc s
def sCU (i:Nat) (f:List W->R W) (ma:Rho->R (List W)):Rho->R Fl:=fun ρ=>if noOwn ρ then (ma ρ>>=fun ws=>f ws>>=fun w=>.ok (.nx (ρ.set i (.par w)))) else .stuck
end
section
variable {X:Cx} {K:Frag} {d:Mode} {e:Expr} {es:List Expr} {pos:Pos} {mr:Rho->R (List W)}
end
end TP
namespace TP
open PySem L2
theorem iq:bootBuiltins "reversed" = some (.type "reversed"):=by decide +kernel
section
variable {X:Cx} {tg:Expr}
end
def revW:List W->R (List W)
 | [.lst ws]=>.ok ws.reverse
 | _=>.stuck
section
variable {K:Frag} {EX:EXT} {H0 G H:Hp} {ρ:Rho} {σ:St}
end
section
variable {X:Cx} {K:Frag} {EX:EXT} {a tg:Expr} {pos:Pos} {mr:Rho->R (List W)}
end
end TP
namespace TP
open PySem L2
section
variable {X:Cx} {pins:List (Addr×Obj)} {σ:St} {H:Hp} {s:Shared}
theorem int_at {ns:List Int} {its:List Value} (rv:Vals (ns.map V.int) its) {i:Nat} {v:Value} (h:its.toArray[i]?=some v):∃ t,v=.int (ns.getD i 0) t:=by
 obtain ⟨n,hn,t,e⟩:=eX (f:=V.int) (g:=fun n u=>∃ t,u=.int n t) (fun b u r=>r) rv h
 exact ⟨t,by rw [e,List.getD_eq_getElem?_getD,hn]; rfl⟩
theorem lt2 {p:Addr} {o:Obj} {u:Obj} (e:s.heap.get? p=some u):∀ b ∈ [s.heap.objs.size,p],b<(s.heap.push o).objs.size:=fun b hb=>by
 have hlt:=Heap.lt_size e
 simp at hb
 rcases hb with rfl | rfl
 ·simp [Heap.push]
 ·exact Nat.lt_of_lt_of_le hlt (by simp [Heap.push])
end
def seqI:W->Option (List Int)
 | .lst ws=>r9 ws
 | .tup ws=>r9 ws
 | _=>none
def rK (g:List Int->Int):List W->R W
 | [w]=>toR (seqI w)>>=fun ns=>if 0<ns.length then .ok (.int (g ns)) else .stuck
 | _=>.stuck
end TP
namespace HT
open PySem PySem.Spec PyProof.Rows
theorem S3:typeLookup (.type "tuple") (dunderR "mul")=pure (some (.builtin "tuple.__rmul__")):=by rw [typeLookup_type,builtinLookup_eq_fast]; kernel_rfl
theorem noFill_tuple_mul:fillsNumberSlot (.type "tuple") "mul" = pure false:=
 PySem.fillsNumberSlot_seq (id := "tuple.__mul__") (r:=some (.builtin "tuple.__rmul__")) F.slot_tuple_mul.lookup (by decide +kernel) S3 (by decide +kernel)
theorem repeat_tuple:seqRepeat? (.type "tuple")=pure (some (.builtin "tuple.__mul__")):=by
 unfold seqRepeat?
 rw [PySem.seqSlot_of (T := "tuple") (name := "__mul__") (id := "tuple.__mul__") F.slot_tuple_mul.lookup (by decide +kernel),PySem.seqSlot_of (T := "tuple") (name := "__rmul__") (id := "tuple.__rmul__") S3 (by decide +kernel)]
 rfl
theorem rmul_declines (a:Int) (t:Tok) (l:Addr) (items:Array Value) (n:Nat) (dd:Option Addr) (sl:Array (Option Value)) :
  Meets (Builtin.«int.__rmul__» ⟨[.int a t,.ref l],[]⟩) (fun _ R s=>s.heap.get? l=some { cls:=.type "tuple",dict:=dd,data:=.seq items n,slots:=sl }/\R (.ok (.ret Value.notImplemented)) s):=
 .of_wp fun prog w A R s h=>by obtain ⟨hp,g,d,tk,os⟩:=s; obtain ⟨hl,h⟩:=h; wp_walk; exact ⟨_,rfl,h⟩
theorem tuple_mul1 (l:Addr) (items:Array Value) (n:Nat) (dd:Option Addr) (sl:Array (Option Value)) (u:Tok) :
  Meets (Builtin.«tuple.__mul__» ⟨[.ref l,.int 1 u],[]⟩) (fun _ R s=>s.heap.get? l=some { cls:=.type "tuple",dict:=dd,data:=.seq items n,slots:=sl }/\R (.ok (.ret (.ref l))) s):=
 .of_wp fun prog w A R s h=>by
  obtain ⟨hp,g,d,tk,os⟩:=s; obtain ⟨hl,h⟩:=h
  have f1:=AutoSeq1.idx_int
  wp_walk using wpAny_loadPart' hl; exact ⟨_,rfl,h⟩
theorem tuple_mul2 (l:Addr) (items:Array Value) (n:Nat) (dd:Option Addr) (sl:Array (Option Value)) (k:Int) (u:Tok) (hc:¬ (decide (k < -(2^63))||decide (k≥2^63))=true)
  (hi:¬ (items.isEmpty||k == 1)=true) (h0:¬ (decide (k<=0)||items.isEmpty)=true) (hm:¬ (items.size*k>(2^63-1)/8)) (hz:¬ Builtin.Tuple.tupleTooMany (items.size*k)=true) (hs0:((List.replicate k.toNat items).foldl (·++·) #[]).size<=sizeLine) :
  Meets (Builtin.«tuple.__mul__» ⟨[.ref l,.int k u],[]⟩) (fun _ R s=>s.heap.get? l=some { cls:=.type "tuple",dict:=dd,data:=.seq items n,slots:=sl }/\R (.ok (.ret (.ref s.heap.objs.size))) { s with heap:=s.heap.push { cls:=.type "tuple",data:=.seq ((List.replicate k.toNat items).foldl (·++·) #[]) } }):=
 .of_wp fun prog w A R s h=>by
  obtain ⟨hp,g,d,tk,os⟩:=s; obtain ⟨hl,h⟩:=h
  have f1:=AutoSeq1.idx_int
  wp_walk using wpAny_loadPart' hl
  rw [if_neg hc]
  wp_walk using wpAny_loadPart' hl
  rw [if_neg hm]
  wp_walk using wpAny_loadPart' hl
  exact ⟨_,rfl,h⟩
end HT
namespace TP
open PySem L2 PySem.Spec PyProof.Rows
theorem len_reps {α:Type} (xs:List α):∀ k:Nat,(List.replicate k xs).flatten.length=k*xs.length
 | 0=>by simp
 | k+1=>by rw [List.replicate_succ,List.flatten_cons,List.length_append,len_reps xs k,Nat.succ_mul,Nat.add_comm]
theorem cF (its:List Value):∀ (m:Nat) (acc:List Value),List.foldl (fun x1 x2=>x1++x2) acc.toArray (List.replicate m its.toArray)=(acc++(List.replicate m its).flatten).toArray
 | 0,acc=>by simp
 | m+1,acc=>by rw [List.replicate_succ,List.foldl_cons,List.append_toArray,cF its m (acc++its),List.replicate_succ,List.flatten_cons,List.append_assoc]
def qZ (K:Frag):R2:=fun x y H Q=>∃ a k xs,x=.ref a/\y=.int k/\SqT K H a xs/\xs ≠ []/\1<=k/\k<2^63/\xs.length*k.toNat<=sizeLine /\
 (k=1->Q (.ref a) H)/\(k≠1->∀ l,H l=none->Q (.ref l) (upd H l (.tup (List.replicate k.toNat xs).flatten)))
variable {X:Cx} {K:Frag}
theorem iO (hK:X.K=K:=by rfl):OpR X (binaryOp .Mult) (qZ K):=by
 subst hK
 intro pins s σ H x y v u Q I rx ry h
 obtain ⟨l,k,xs,rfl,rfl,hH,hne,h1,h2,hz,q1,q2⟩:=h
 cases rx
 obtain ⟨t,rfl⟩:=ry
 obtain ⟨its,r,p,_⟩:=I.tuple hH
 obtain ⟨⟨cls,dd,data,sl⟩,ho,hc,n,hd⟩:=id p
 simp only at hc hd
 subst hc hd
 have hin:its ≠ []:=fun z=>hne (r.nil_iff.mp z)
 refine wpAny_binaryOp_repeat_ref (T := "tuple") (U := "int") (by decide) ⟨_,ho,rfl⟩ (fun s'=>typeIs_int s' k t) HT.noFill_tuple_mul F.fills_int_mul F.slot_int_rmul HT.repeat_tuple F.slot_int_index.lookup
  (call_meets F.slot_int_rmul (typeIs_int s k t) F.entry_int_rmul (F.args_int_rmul_2 _ _) (HT.rmul_declines k t l its.toArray n dd sl)
   ⟨ho,rfl,⟨_,ho,rfl⟩,?_⟩)
 by_cases e:k=1
 ·subst e
  exact call_meets F.slot_tuple_mul ⟨_,ho,rfl⟩ F.entry_tuple_mul (F.args_tuple_mul_2 _ _) (HT.tuple_mul1 l its.toArray n dd sl t) ⟨ho,.ref l,H,I,rfl,q1 rfl⟩
 ·have hnew:List.foldl (fun x1 x2=>x1++x2) #[] (List.replicate k.toNat its.toArray)=(List.replicate k.toNat its).flatten.toArray:=by
   have:=cF its k.toNat []
   rw [List.nil_append] at this
   exact this
  have hlen:its.length*k.toNat<=sizeLine:=by rw [<- r.length]; exact hz
  have hsz:(its.toArray.size:Int)*k<=(sizeLine:Nat):=by
   have e2:((its.length*k.toNat:Nat):Int)=(its.toArray.size:Int)*k:=by
    rw [Int.natCast_mul,Int.toNat_of_nonneg (by omega),List.size_toArray]
   rw [<- e2]; exact_mod_cast hlen
  have hcap:((sizeLine:Nat):Int)<=(2^63-1)/8:=by decide
  refine call_meets F.slot_tuple_mul ⟨_,ho,rfl⟩ F.entry_tuple_mul (F.args_tuple_mul_2 _ _) (HT.tuple_mul2 l its.toArray n dd sl k t ?_ ?_ ?_ ?_ ?_ ?_) ⟨ho,?_⟩
  ·simp only [Bool.or_eq_true,decide_eq_true_eq]; omega
  ·simp [hin,e]
  ·simp only [Bool.or_eq_true,decide_eq_true_eq]
   rintro (z | z)
   ·omega
   ·simp [hin] at z
  ·omega
  ·simp only [Builtin.Tuple.tupleTooMany,decide_eq_true_eq]; omega
  ·rw [hnew,List.size_toArray,len_reps,Nat.mul_comm]; exact hlen
  ·rw [hnew]
   refine ⟨.ref s.heap.objs.size,_,I.laid (t':=s.toks) (o:=.tup (List.replicate k.toNat xs).flatten) (fun b ob q=>Heap.get?_push_of_some _ q) (Nat.le_refl _) ?_,rfl,q2 e _ (I.hok.fresh (Nat.le_refl _))⟩
   exact ⟨by rw [len_reps,Nat.mul_comm]; exact hz,_,r.rep k.toNat,IsTup.new _ _⟩
def fRepT:W->W->R W
 | .tup us,.int k=>if us ≠ []/\us.length*k.toNat<=1000/\1<=k/\k<=1000 then .ok (.tup (List.replicate k.toNat us).flatten) else .stuck
 | _,_=>.stuck
theorem iR:Op2 K .C .F (qZ K) fRepT:=by
 intro EX H0 Hs G H ρ σ Ha Hb x y u v Q I s mx my o
 cases u <;> first | exact o.elim | skip
 all_goals (cases v <;> first | exact o.elim | skip)
 rename_i us k
 replace o:Out EX G H (mdW K .F H0 Hs) (if us ≠ []/\us.length*k.toNat<=1000/\1<=k/\k<=1000 then .ok (.tup (List.replicate k.toNat us).flatten) else .stuck) Q:=o
 by_cases hn:us ≠ []/\us.length*k.toNat<=1000/\1<=k/\k<=1000
 ·rw [if_pos hn] at o
  obtain ⟨hne,hz,h1,h2⟩:=hn
  have hy:y=.int k:=Md.intB (Md.CB (H:=Hb) I my)
  subst hy
  obtain ⟨a,vs,rfl,h,r⟩:=(Md.repC mx fun _=>W.noConfusion).inv
  refine ⟨_,k,_,rfl,rfl,SqT.of (I.gh _ _ h),?_,h1,by omega,by rw [r.length]; exact O5 hz,?_,?_⟩
  ·intro z
   have:=r.length
   rw [z] at this
   exact hne (List.eq_nil_of_length_eq_zero this.symm)
  ·intro e
   subst e
   refine o _ G H (Ext.refl I.gh) (.tup h ?_)
   simpa using r
  ·intro _ l hl
   exact Out.newTF I (r.rep _) hl o
 ·rw [if_neg hn] at o; exact o.elim
end TP
namespace TP
open PySem PySem.W PyProof.Rows
section
variable (r:Nat->Int)
def ky (p:Array Nat) (k:Nat):Int:=r (p.getD k 0)
def up (p:Array Nat) (n:Nat):Prop:=∀ k,k+1<n->ky r p k<=ky r p (k+1)
end
end TP
namespace TP
open PySem L2
section
variable {prog:Program} {w:World} {A:Around} {E:Value->Shared->Prop} {s:Shared}
theorem dN (hh:A.handled=none) (u:Sub) (hne:u.l≠u.i) (its:Array Value) :
  Draws prog w A u.i [u.i,u.l] its.size (fun i v=>its[i]?=some v) (fun i h=>u.At h i/\u.Src h its) where
 live:=fun _ _ st=>by obtain ⟨o,e,_⟩:=st.1.obj; exact ⟨o,e⟩
 frame:=fun _ _ _ st hk=>⟨st.1.keep fun o e=>hk u.i (by simp) o e,st.2.keep fun o e=>hk u.l (by simp) o e⟩
 item:=fun i s Q E hi st hQ=>Sub.item st.1 st.2 (x:=its[i]) (by simp [hi]) fun h' a sb=>hQ _ h' s.toks (by simp [hi]) ⟨a,st.2.keep fun o e=>sb.extBut _ _ hne e⟩ sb
 done:=fun s Q E st hE=>Sub.ends hh st.1 st.2 (by simp) hE
theorem il (l:Addr) (its:Array Value) (m:Nat) (dct:Option Addr) (sl:Array (Option Value)) :
  Meets (Builtin.«enumerate.__new__» ⟨[.type "enumerate",.ref l],[]⟩) (fun _ R s=>s.heap.get? l=some { cls:=.type "tuple",dict:=dct,data:=.seq its m,slots:=sl } /\
   R (.ok (.ret (.ref (s.heap.push { cls:=.type "tuple_iterator",data:=.fields #[.ref l,.int 0 0] }).objs.size)))
    { s with heap:=(s.heap.push { cls:=.type "tuple_iterator",data:=.fields #[.ref l,.int 0 0] }).push { cls:=.type "enumerate",data:=.fields #[.none,.bool false,.ref s.heap.objs.size,rawInt 0,.none,.none] } }):=
 .of_wp fun prog w A R s hyp=>by
  obtain ⟨hp,g,d,tk,os⟩:=s; obtain ⟨hl,hyp⟩:=hyp
  have hsb:=sub_enumerate
  have hT:Heap.IsTuple (Shared.heap ⟨hp,g,d,tk,os⟩) l its:=⟨_,hl,rfl,m,rfl⟩
  wp_walk using AutoSeq1.wpAny_loadPart' hl
  refine wpAny_stack_any fun stk=>wpAny_pure ?_
  split
  ·rename_i cc _ _ _ _ _
   cases (cc == Value.type "enumerate") <;>
   ·wp_walk using AutoSeq1.wpAny_loadPart' hl,wpAny_pyIter_tuple hT
    exact ⟨_,rfl,hyp⟩
  ·wp_walk using AutoSeq1.wpAny_loadPart' hl,wpAny_pyIter_tuple hT
   exact ⟨_,rfl,hyp⟩
theorem kC {l:Addr} {its:Array Value} {Q:Value->Shared->Prop} (hL:s.heap.IsTuple l its)
  (hyp:∀ h',IsEnum h' (s.heap.objs.size+1) s.heap.objs.size 0 .none->h'.IsTupleIter s.heap.objs.size l 0->(∀ b o,s.heap.get? b=some o->h'.get? b=some o)->Q (.ref (s.heap.objs.size+1)) { s with heap:=h' }) :
  wpAny (model prog w) A (call (.type "enumerate") [.ref l]) Q E s:=by
 obtain ⟨⟨c,dct,dt,sl⟩,hl,hc,m,hd⟩:=hL
 have hc':c=.type "tuple" := hc; have hd':dt=.seq its m:=hd; subst hc' hd'
 refine callType_new F.called_enumerate (by decide) (F.typeCall_enumerate_1 _) (F.newCall_enumerate_1 _) (fun obj=>F.args_object_init_2 obj _) F.entry_enumerate_new (il l its m dct sl) ⟨hl,?_⟩
 generalize hP:s.heap.push { cls:=.type "tuple_iterator",data:=.fields #[.ref l,.int 0 0] }=P
 have hz:P.objs.size=s.heap.objs.size+1:=by rw [<- hP]; exact Heap.size_push ..
 have hi:P.get? s.heap.objs.size=some { cls:=.type "tuple_iterator",data:=.fields #[.ref l,.int 0 0] }:=by rw [<- hP]; exact Heap.get?_push_size _ rfl
 have hk:∀ b o,s.heap.get? b=some o->P.get? b=some o:=fun b o e=>by rw [<- hP]; exact Heap.get?_push_of_some _ e
 show _/\_
 have en:IsEnum (P.push { cls:=.type "enumerate",data:=.fields #[.none,.bool false,.ref s.heap.objs.size,rawInt 0,.none,.none] }) (s.heap.objs.size+1) s.heap.objs.size 0 .none:=by rw [<- hz]; exact Heap.get?_push_size _ rfl
 rw [hz]
 exact ⟨⟨_,en,rfl⟩,hyp _ en ⟨_,Heap.get?_push_of_some _ hi,rfl,rfl⟩ fun b o e=>Heap.get?_push_of_some _ (hk b o e)⟩
theorem nF {t:Bool} {l:Addr} {its:Array Value} {Q:Value->Shared->Prop} (hL:SrcAt s.heap (t,l,its))
  (hyp:∀ h',IsEnum h' (s.heap.objs.size+1) s.heap.objs.size 0 .none->(L2.Sub.mk t s.heap.objs.size l).At h' 0->(∀ b o,s.heap.get? b=some o->h'.get? b=some o)->Q (.ref (s.heap.objs.size+1)) { s with heap:=h' }) :
  wpAny (model prog w) A (call (.type "enumerate") [.ref l]) Q E s:=by
 unfold SrcAt at hL
 cases t with
 | true=>exact kC hL fun h' a b c=>hyp h' a (by unfold Sub.At; exact b) c
 | false=>exact call_enumerate_list hL fun h' a b _ c=>hyp h' a (by unfold Sub.At; exact b) c
end
def ItE (K:Frag) (t:Bool) (a:Addr):It:=
  ⟨fun i H=>∃ xs x,Sq K H t a xs/\xs[i]?=some x,
   fun i H x H'=>∃ p y,x=.ref p/\H p=none/\H'=upd H p (.tup [.int (i:Int),y])/\∀ xs,Sq K H t a xs->xs[i]?=some y,
   fun i H=>∃ xs,Sq K H t a xs/\xs.length=i⟩
abbrev eTn (e:Addr) (u:Sub) (i:Nat) (h:Heap):Prop:=(∃ old,IsEnum h e u.i (i:Int) old)/\u.At h i
theorem kU {P:Program} {w:World} {K:Frag} {elts:List Expr} {k:Nat} {tp:Pos} {e:Addr} {u:Sub} (hne:e≠u.i) :
  Turn P w K (.Tuple elts k tp) (ItE K u.t u.l) [e,u.i] e (eTn e u) where
 mem:=by simp
 obj:=fun i h st b hb=>by
  obtain ⟨⟨old,he⟩,ha⟩:=st
  simp only [List.mem_cons,List.not_mem_nil,or_false] at hb
  rcases hb with rfl | rfl
  ·exact ⟨_,he,fun v q=>by cases q⟩
  ·obtain ⟨o,q,d⟩:=ha.obj
   exact ⟨o,q,fun v z=>by rw [d] at z; cases z⟩
 keep:=fun i h h' st kp=>⟨st.1.imp fun old he=>kp e (by simp) _ he,st.2.keep fun o q=>kp u.i (by simp) o q⟩
 item:=by
  intro X hP hw hK hc i pins s σ H E I hf st hg
  subst hP hw hK
  obtain ⟨⟨old,he⟩,ha⟩:=st
  obtain ⟨xs,x,hq,hx⟩:=hg
  obtain ⟨its,rv,hsrc⟩:=Sq.src I hq
  obtain ⟨v,hv,rx⟩:=rv.get hx
  have fe:=hf e (by simp)
  have fi:=hf u.i (by simp)
  have hli:u.l≠u.i:=Sq.ne I hq fi
  have hle:u.l≠e:=Sq.ne I hq fe
  have hi:i<its.toArray.size:=by have:=(List.getElem?_eq_some_iff.mp hv).1; simpa using this
  refine wpAny_pyNext_enum_itemD (dN (prog:=X.prog) (w:=X.w) (show X.A.in1.handled=none from I.ok.hd hc) u hli its.toArray) he ⟨ha,hsrc⟩ hi hne (by simp only [List.mem_cons,List.not_mem_nil,or_false,not_or]; exact ⟨hne,Ne.symm hle⟩) fun y h1 tk hy z1 s1 p1 z2 k1=>?_
  have ey:y=v:=by
   have e1:its[i]?=some y:=by simpa using hy
   rw [hv] at e1; cases e1; rfl
  subst ey
  refine ⟨_,rfl,wpAny_letOwnedTupleGo_enum z1 fun h2 e2 sb2=>?_⟩
  have hzl:e<s.heap.objs.size:=Heap.lt_size he
  have hil:u.i<s.heap.objs.size:=by obtain ⟨o,q,_⟩:=ha.obj; exact Heap.lt_size q
  have kp:∀ b o,b≠e->b≠u.i->s.heap.get? b=some o->h2.get? b=some o:=fun b o b1 b2 q=>sb2.extBut _ _ b1 (k1 b o b1 b2 q)
  have hfr:H s.heap.objs.size=none:=I.hok.fresh (Nat.le_refl _)
  have trk:∀ b c,H b=some c->b≠e/\b≠u.i:=fun b c q=>⟨fun z=>(by subst z; rw [fe.1] at q; cases q),fun z=>(by subst z; rw [fi.1] at q; cases q)⟩
  have hP2:h2.get? s.heap.objs.size=some { cls:=.type "tuple",data:=.seq #[.int i tk,y] }:=sb2.extBut _ _ (Nat.ne_of_gt hzl) p1
  have rel:Vals [.int (i:Int),x] [.int i tk,y]:=.cons ⟨tk,rfl⟩ (.cons rx .nil)
  refine ⟨.ref s.heap.objs.size,upd H s.heap.objs.size (.tup [.int (i:Int),x]),?_,rfl,⟨_,_,rfl,hfr,rfl,?_⟩,⟨⟨y,?_⟩,?_⟩,fun b hb=>?_⟩
  ·show Inv X pins σ _ { s with heap:=h2,toks:=tk+1 }
   refine I.step (g':=s.gens) (t':=tk+1) (d':=s.drawn) (ch:=[e,u.i]) (fun b hb=>?_) (fun b o _ _ hc q _=>kp b o ?_ ?_ q) (fun b o _ _ hc q _=>⟨o.slots,kp b o ?_ ?_ q⟩) (fun b o hc q n=>?_) (fun b o hc q=>⟨o,kp b o ?_ ?_ q⟩) (fun b ys q=>?_) (fun b o c q=>?_) (fun b ps q=>?_) (fun m hm=>?_) ?_ I.bare
   ·simp only [List.mem_cons,List.not_mem_nil,or_false] at hb
    rcases hb with rfl | rfl
    ·exact ⟨fe.2.2.2.1,fe.2.1,fe.2.2.2.2.1,fe.2.2.2.2.2⟩
    ·exact ⟨fi.2.2.2.1,fi.2.1,fi.2.2.2.2.1,fi.2.2.2.2.2⟩
   all_goals first
    | (intro z; exact hc (by simp [z]; done))
    | skip
   ·rw [c7 (Nat.ne_of_lt (Heap.lt_size q))]; exact n
   ·rw [c7 (d9 q hfr)]; exact q
   ·rw [c7 (d9 q hfr)]; exact q
   ·rw [c7 (d9 q hfr)]; exact q
   ·obtain ⟨o,es,ep,ho,r⟩:=hm
    exact ⟨o,es,ep,kp _ o (Ne.symm fe.2.1) (Ne.symm fi.2.1) ho,r⟩
   ·intro b c q
    by_cases hb:b=s.heap.objs.size
    ·subst hb
     rw [g8] at q; cases q
     exact ⟨(show 2<=sizeLine by decide),_,rel,⟨_,hP2,rfl,_,rfl⟩⟩
    ·rw [c7 hb] at q
     refine (I.hok b c q).stay (fun d v hcc z=>?_) (fun d z=>by rw [c7 (d9 z hfr)]; exact z) fun d ys z=>by rw [c7 (d9 z hfr)]; exact z
     rcases hcc with rfl | hcc
     ·exact kp _ v (trk _ _ q).1 (trk _ _ q).2 z
     ·exact kp _ v (trk _ _ hcc).1 (trk _ _ hcc).2 z
  ·intro ys hy2
   rw [Sq.inj I hy2 hq]; exact hx
  ·have:((i+1:Nat):Int)=(i:Int)+1:=by omega
   rw [this]; exact e2
  ·exact s1.1.keep fun o q=>sb2.extBut _ _ (Ne.symm hne) q
  ·have:b≠s.heap.objs.size:=by
    simp only [List.mem_cons,List.not_mem_nil,or_false] at hb
    rcases hb with rfl | rfl
    ·exact Nat.ne_of_lt hzl
    ·exact Nat.ne_of_lt hil
   rw [c7 this]
   exact (hf b hb).1
 done:=by
  intro X hP hw hK hc i pins s σ H E I hf st hg
  subst hP hw hK
  obtain ⟨⟨old,he⟩,ha⟩:=st
  obtain ⟨xs,hq,hn⟩:=hg
  obtain ⟨its,rv,hsrc⟩:=Sq.src I hq
  have fe:=hf e (by simp)
  have fi:=hf u.i (by simp)
  have hli:u.l≠u.i:=Sq.ne I hq fi
  have hsz:its.toArray.size=i:=by have:=rv.length; simp; omega
  subst hsz
  refine wpAny_pyNext_enum_endD (dN (prog:=X.prog) (w:=X.w) (show X.A.in1.handled=none from I.ok.hd hc) u hli its.toArray) he ⟨ha,hsrc⟩ fun h' eb=>⟨rfl,?_⟩
  obtain ⟨f0,f1,f2,f3,f4,f5⟩:=fi
  exact I.turned (t':=s.toks) (fun b o hb q=>eb b o hb q) f0 f1 f3 f4 f5
 self:=fun A i s Q E st h=>by
  obtain ⟨⟨old,he⟩,_⟩:=st
  exact wpAny_pyIter_enum he h
def rE (K:Frag) (ta:TA):TI:=fun σ H R=>ta σ H fun vs H1=>∃ t a xs,vs = [.ref a]/\Sq K H1 t a xs/\R (ItE K t a) H1
theorem gW:bootBuiltins "enumerate" = some (.type "enumerate"):=by decide +kernel
section
variable {X:Cx}
theorem iL {a:Expr} {elts:List Expr} {ta:TA} {p pos tp:Pos} {k:Nat} (hg:Gl X "enumerate") (hm:X.mg "enumerate" = none) (ha:PA X [a] ta) (hs:starEach [a] X.env = [(false,eval a X.env)]:=by rfl):PI X (.Tuple elts k tp) (.Call (.Name "enumerate" p) [a] [] pos) (rE X.K ta):=by
 intro pins s σ H R I h
 refine wpAny_Call_Name_kw (J5 I hg hm gW ?_ (by decide) (by decide))
 refine PyProof.Rows.callWith_type1 (thn (ha pos pins s σ H _ I h) fun us s1 zz81=>?_) hs (by rfl)
 obtain ⟨vs,H1,I1,r1,t,b,xs,e1,hq,q⟩:=zz81
 subst e1
 obtain ⟨u,rfl,ru⟩:=V6 r1
 cases ru
 obtain ⟨its,rv,hsrc⟩:=Sq.src I1 hq
 refine nF (t:=t) (its:=its.toArray) (by unfold SrcAt; unfold Sub.Src at hsrc; exact hsrc) fun h' he hA hk=>wpAny_pyIter_enum he ?_
 have I2:Inv X pins σ H1 { s1 with heap:=h' }:=I1.kept (t':=s1.toks) hk
 have TE:=kU (P:=X.prog) (w:=X.w) (K:=X.K) (elts:=elts) (k:=k) (tp:=tp) (e:=s1.heap.objs.size+1) (u:=⟨t,s1.heap.objs.size,b⟩) (neN (by show s1.heap.objs.size+1≠s1.heap.objs.size; omega))
 refine ⟨_,_,_,_,H1,rfl,I2,TE,⟨⟨_,he⟩,hA⟩,fun c hc=>?_,q⟩
 have hb':s1.heap.objs.size<=c:=by
  simp only [List.mem_cons,List.not_mem_nil,or_false] at hc
  rcases hc with rfl | rfl
  ·omega
  ·exact Nat.le_refl _
 exact I1.fpOk (H':=H1) hb' (I1.hok.fresh hb')
end
def K2:List W->R (List W)
 | [w]=>match A3 w with
  | .ok xs=>.ok (xs.mapIdx fun i x=>W.tup [.int (i:Int),x])
  | _=>.stuck
 | _=>.stuck
section
variable {K:Frag} {EX:EXT} {H0 G H:Hp} {ρ:Rho} {σ:St}
theorem mU {e:Mode} {Z:Hp} {t:Bool} {a:Addr} {xs:List V} {us:List W} (he:e=.V\/e=.U) (s1:Sq K Z t a xs) (r1:Reps K (fz e H0 G) xs us):aB K e H0 Z G (ItE K t a) (us.mapIdx fun i x=>W.tup [.int (i:Int),x]):=by
 have l1:=r1.length
 have hq:∀ H,Same Z H->Sq K H t a xs:=fun H z=>Sq.same z s1
 refine ⟨fun i H hi z=>?_,fun H z=>⟨xs,hq H z,by rw [List.length_mapIdx,l1]⟩,fun i H x H' w hw z y G2 ρ σ I sg=>?_⟩
 ·rw [List.length_mapIdx] at hi
  exact ⟨xs,xs[i]'(by omega),hq H z,by simp⟩
 ·obtain ⟨p,y1,rfl,hp,rfl,hy⟩:=y
  obtain ⟨w1,e1,q1⟩:=Reps.get' r1 (hy xs (hq H z))
  have hw':w=.tup [.int (i:Int),w1]:=by
   rw [List.getElem?_mapIdx,e1] at hw
   cases hw; rfl
  subst hw'
  obtain ⟨x1,x2⟩:=cX (Hs:=H) he I hp (.cons .int (.cons (q1.same (F8 sg)) .nil))
  exact ⟨_,x1,x2⟩
theorem nI {lp:Bool} {e:Mode} {ma:Rho->R (List W)} {Rr:It->Hp->Prop} (he:e=.V\/e=.U) (h:tIt K EX lp e (fun ρ=>ma ρ>>=K2) σ H Rr):rE K (tA K EX (cV lp e) ma) σ H Rr:=by
 refine bi h (fun H0 G ρ G1 H1 xs ws us I e1 m1 q o=>?_) (fun ws e z=>?_)
 ·have I1:=I.ext e1
  unfold K2 at q
  split at q
  ·rename_i w
   cases hw:A3 w with
   | stuck=>rw [hw] at q; cases q
   | ex _=>rw [hw] at q; cases q
   | ok ls=>
    rw [hw] at q
    cases q
    cases m1 with
    | cons a1 m1=>
     cases m1
     obtain ⟨t1,p1,v1,rfl,q1,r1⟩:=Md.src he I1 a1 hw
     exact ⟨t1,p1,v1,rfl,B9 (gr I1) q1,o _ G1 H1 e1 (mU he q1 r1)⟩
  ·cases q
 ·unfold K2 at z
  split at z
  ·split at z <;> cases z
  ·cases z
end
section
variable {X:Cx} {K:Frag} {EX:EXT} {a:Expr} {pos:Pos} {mr:Rho->R (List W)}
theorem lK {elts:List Expr} {p tp:Pos} {k:Nat} (hg:Gl X "enumerate") (hm:X.mg "enumerate" = none) (ha:PA X [a] (tA K EX .B mr)) (hK:X.K=K:=by rfl) (hs:starEach [a] X.env = [(false,eval a X.env)]:=by rfl):PI X (.Tuple elts k tp) (.Call (.Name "enumerate" p) [a] [] pos) (tIt K EX false .U (bI K2 mr)):=by
 subst hK; exact (iL hg hm ha hs).mono fun _ _ _ q=>nI (lp:=false) (.inr rfl) q
theorem fE {elts:List Expr} {p tp:Pos} {k:Nat} (hg:Gl X "enumerate") (hm:X.mg "enumerate" = none) (ha:PA X [a] (tA K EX .U mr)) (hK:X.K=K:=by rfl) (hs:starEach [a] X.env = [(false,eval a X.env)]:=by rfl):PI X (.Tuple elts k tp) (.Call (.Name "enumerate" p) [a] [] pos) (tIt K EX true .U (bI K2 mr)):=by
 subst hK; exact (iL hg hm ha hs).mono fun _ _ _ q=>nI (lp:=true) (.inr rfl) q
end
section
variable {X:Cx}
end
end TP
namespace TP
open PySem L2
def lexLt:List Int->List Int->Bool
 | [],[]=>false
 | [],_::_=>true
 | _::_,[]=>false
 | a::as,b::bs=>if a=b then lexLt as bs else decide (a<b)
def AH (ss:List (List Int)) (i:Nat):Int:=((ss.countP fun x=>lexLt x (ss.getD i [])):Nat)
def allLt (n:Nat) (p:Array Nat):Prop:=∀ x∈p,x<n
section
open PySem.W PyProof.Rows
variable {n:Nat} (h0:0<n)
include h0
end
section
open PySem.W PyProof.Rows
variable {prog:Program} {w:World} {A:Around} {E:Value->Shared->Prop} {s:Shared}
end
section
open PySem.W PyProof.Rows
variable {prog:Program} {w:World} {A:Around} {E:Value->Shared->Prop} {s:Shared}
end
section
variable {X:Cx} {K:Frag}
end
section
variable {K:Frag}
end
end TP
namespace TP
open PySem L2
set_option maxHeartbeats 2000000
theorem oh (l b:Addr) (its2:Array Value) (m m2:Nat) (dd dd2:Option Addr) (sl sl2:Array (Option Value)) :
  Meets (Builtin.«tuple.__add__» ⟨[.ref l,.ref b],[]⟩) (fun _ R s=>s.heap.get? l=some { cls:=.type "tuple",dict:=dd,data:=.seq #[] m,slots:=sl }/\s.heap.get? b=some { cls:=.type "tuple",dict:=dd2,data:=.seq its2 m2,slots:=sl2 }/\R (.ok (.ret (.ref b))) s):=
 .of_wp fun prog w A R s hyp=>by
  obtain ⟨hp,g,d,tk,os⟩:=s; obtain ⟨hl,hb,hyp⟩:=hyp; have g1:=AutoSeq1.sub_tuple_tuple
  wp_walk using AutoSeq1.wpAny_loadPart' hl,AutoSeq1.wpAny_loadPart' hb
  exact ⟨_,rfl,hyp⟩
section
variable {X:Cx} {K:Frag}
def rf (K:Frag):R2:=fun x y H Q=>rd K x y H Q\/∃ a b ys,x=.ref a/\y=.ref b/\SqT K H a []/\SqT K H b ys/\Q (.ref b) H
theorem df (hK:X.K=K:=by rfl):OpR X (binaryOp .Add) (rf K):=by
 subst hK
 intro pins s σ H x y v u Q I rx ry h
 rcases h with h | ⟨a,b,ys,rfl,rfl,ha,hb,q⟩
 ·exact tP pins s σ H x y v u Q I rx ry h
 ·cases rx
  cases ry
  obtain ⟨its,r1,⟨⟨c1,d1,t1,sl1⟩,o1,hc1,n1,hd1⟩,_⟩:=I.tuple ha
  obtain ⟨its2,r2,⟨⟨c2,d2,t2,sl2⟩,o2,hc2,n2,hd2⟩,_⟩:=I.tuple hb
  cases r1
  simp only at hc1 hd1 hc2 hd2
  subst hc1 hd1 hc2 hd2
  exact concat_meets ⟨_,o1,rfl⟩ ⟨_,o2,rfl⟩ noFill_tuple_add seq_tuple_add PySem.F.slot_tuple_add PySem.F.entry_tuple_add (PySem.F.args_tuple_add_2 _ _) (oh a b its2.toArray n1 n2 d1 d2 sl1 sl2) ⟨o1,o2,.ref b,H,I,rfl,q⟩
end
def fCatT:W->W->R W
 | .tup us,.tup vs=>if us.length+vs.length<=1000/\g4 us=true/\g4 vs=true then .ok (.tup (us++vs)) else .stuck
 | _,_=>.stuck
section
variable {K:Frag}
theorem dh:Op2 K .B .F (rf K) fCatT:=by
 intro EX H0 Hs G H ρ σ Ha Hb x y u v Q I s mx my o
 cases u <;> first | exact o.elim | skip
 all_goals (cases v <;> first | exact o.elim | skip)
 rename_i us vs
 replace o:Out EX G H (mdW K .F H0 Hs) (if us.length+vs.length<=1000/\g4 us=true/\g4 vs=true then .ok (.tup (us++vs)) else .stuck) Q:=o
 by_cases hn:us.length+vs.length<=1000/\g4 us=true/\g4 vs=true
 ·rw [if_pos hn] at o
  obtain ⟨hz,n1,n2⟩:=hn
  rcases mx with mx | ⟨_,_,_,_,e2,_⟩
  ·rcases my with my | ⟨_,_,_,_,e2,_⟩
   ·have cx:=Rep.clean I mx (by simpa [noL] using n1)
    have cy:=Rep.clean I my (by simpa [noL] using n2)
    cases cx with
    | tup ha ra=>
     cases cy with
     | tup hb rb=>
      have l1:=ra.length
      have l2:=rb.length
      by_cases he:us = []
      ·subst he
       cases ra
       exact .inr ⟨_,_,_,rfl,rfl,SqT.of (I.gh _ _ ha),SqT.of (I.gh _ _ hb),o _ G H (Ext.refl I.gh) (.tup hb rb)⟩
      ·refine .inl ⟨_,_,_,_,rfl,rfl,SqT.of (I.gh _ _ ha),SqT.of (I.gh _ _ hb),fun z=>?_,by rw [l1,l2]; exact O5 hz,fun z=>?_,fun _ p hp=>?_⟩
       ·subst z; cases ra; exact he rfl
       ·subst z
        cases rb
        rw [List.append_nil] at o
        exact o _ G H (Ext.refl I.gh) (.tup ha ra)
       ·exact Out.newTF I (ra.append rb) hp o
   ·cases e2
  ·cases e2
 ·rw [if_neg hn] at o; exact o.elim
end
end TP
namespace L2
open PySem PySem.Spec PyProof.Rows
section
variable {X:Cx} {pins:List (Addr×Obj)} {σ:St} {H:Hp} {s:Shared} {A:Around} {E:Value->Shared->Prop} {Q:Value->Shared->Prop} {b:Bool}
end
end L2
namespace TP
open PySem L2
section
variable {K:Frag} {d:Mode}
end
end TP
namespace HT
open PySem PyProof.Rows
section
variable {prog:Program} {w:World} {A:Around} {E:Value->Shared->Prop} {s:Shared}
theorem getItem_tuple_all {t sl:Addr} {items:Array Value} {vl vu:Value} {lo hi:Option Int} {Q:Value->Shared->Prop} (ht:IsTup s.heap t items) (hs:s.heap.IsSliceOf sl vl vu .none) (pl:IsPart vl lo) (pu:IsPart vu hi)
  (hw:sIx items.size 0 lo=0/\sIx items.size items.size hi=items.size)
  (h:Q (.ref t) s)
  (hsz:items.size<=sizeLine):wpAny (model prog w) A (getItem (.ref t) (.ref sl)) Q E s:=by
 have hj:sIx items.size items.size hi<=items.size:=lC _ _ (Nat.le_refl _) hi
 obtain ⟨os,hos,hcs,hds⟩:=id hs
 have hTs:s.TypeIs (.ref sl) "slice" := ⟨os,hos,hcs⟩
 unfold getItem
 try with_reducible refine wpAny_holding ?_
 first | refine wpAny_bind (wpAny_pure ?_) | skip
 refine wpAny_bind (wpAny_sequenceKey ht.typeIs (by decide) ?_)
 refine wpAny_bind (wpAny_callSpecial?_slot (name:=Str.ofString "__getitem__") ht.typeIs PyProof.Rows.slot_tuple_getitem
  (wpAny_call_entry PyProof.Rows.slot_tuple_getitem ht.typeIs entry_tuple_getitem ?_ (args_tuple_getitem _ _)))
 show wpAny _ _ (Builtin.Tuple.tupleItemsOf (.ref t)>>=_) _ _ s
 refine wpAny_bind (tupleItemsOf_ ht ?_)
 refine wpAny_bind (wpAny_typeOf hTs ?_)
 rw [if_pos (by decide)]
 refine wpAny_bind (P1 hs pl pu ?_)
 have hyes:(((sIx items.size 0 lo:Nat):Int) == 0&&(1:Int) == 1&&(sIx items.size items.size hi-sIx items.size 0 lo) == items.size)=true:=by
  rw [hw.1,hw.2]; simp
 show wpAny _ _ (if (((sIx items.size 0 lo:Nat):Int) == 0&&(1:Int) == 1&&(sIx items.size items.size hi-sIx items.size 0 lo) == items.size)=true then _ else _) _ _ s
 rw [if_pos hyes]
 unfold Builtin.Tuple.tupleIsExact
 wp_walk using wpAny_typeOf ht.typeIs
 exact ⟨_,rfl,wpAny_pure h⟩
end
end HT
namespace TP
open PySem L2
section
variable {X:Cx}
def oT (K:Frag):V->Option Int->Option Int->Hp->VK->Prop:=fun x lo hi H Q=>∃ a xs,x=.ref a/\SqT K H a xs/\(HT.sIx xs.length 0 lo=0/\HT.sIx xs.length xs.length hi=xs.length)/\Q (.ref a) H
theorem sr:L2.SlR X (oT X.K):=by
 intro pins s σ H x v vl vu lo hi sl Q I rx hs pl pu h
 obtain ⟨a,xs,rfl,hx,hw,q⟩:=h
 cases rx
 obtain ⟨its,r,ht,hz⟩:=I.tuple hx
 have hlen:its.toArray.size=xs.length:=by rw [List.size_toArray]; exact r.length.symm
 refine ⟨"tuple",_,PyProof.Rows.slot_tuple_getitem.lookup,ht.typeIs,?_⟩
 exact HT.getItem_tuple_all ht hs pl pu (by rw [hlen]; exact hw) ⟨.ref a,H,I,rfl,q⟩ (by rw [hlen]; exact hz)
def wS (K:Frag):V->Option Int->Option Int->Hp->VK->Prop:=fun x lo hi H Q=>wQ K x lo hi H Q\/oT K x lo hi H Q
theorem so:L2.SlR X (wS X.K):=L2.SlR.or vT sr
end
def Rst (x:R W) (l u:R (Option Int)):R W:=x>>=fun x=>l>>=fun l=>u>>=fun u=>(match x with
 | .tup ws=>if g4 ws=true then .ok (.tup (D6 ws l u)) else .stuck
 | _=>.stuck)
def bh (m:Rho->R W) (ml mh:Rho->R (Option Int)):Rho->R W:=fun ρ=>Rst (m ρ) (ml ρ) (mh ρ)
theorem qC {ws:List W} {lo hi:Option Int} (h:HT.sIx ws.length 0 lo=0/\HT.sIx ws.length ws.length hi=ws.length):D6 ws lo hi=ws:=by
 unfold D6
 rw [h.1,h.2,List.drop_zero,Nat.sub_zero,List.take_length]
section
variable {K:Frag} {EX:EXT} {H0 G H:Hp} {ρ:Rho} {σ:St} {Q:VK}
theorem Bq {m:Rho->R W} {ml mh:Rho->R (Option Int)} (h:tM K EX .F (bh m ml mh) σ H Q):tSl (wS K) (tM K EX .B m) (N4 K EX ml) (N4 K EX mh) σ H Q:=by
 obtain ⟨H0,G,ρ,I,o⟩:=h
 unfold bh Rst at o
 refine ⟨H0,G,ρ,I,Out.bind o fun x G1 H1 w e1 m1 o1=>⟨H0,G1,ρ,I.ext e1,Out.bind o1 fun l' G2 H2 l e2 m2 o2=>⟨H0,G2,ρ,(I.ext e1).ext e2,Out.bind o2 fun u' G3 H3 u e3 m3 o3=>?_⟩⟩⟩
 subst m2; subst m3
 have I3:=((I.ext e1).ext e2).ext e3
 cases w <;> first | exact o3.elim | skip
 rename_i ws
 dsimp only at o3
 by_cases hn:g4 ws=true
 ·rw [if_pos hn] at o3
  have mx:=(m1.move e2).move e3
  rcases mx with mx | ⟨_,_,_,_,z,_⟩
  ·have cx:=Rep.clean I3 mx (by simpa [noL] using hn)
   cases cx with
   | tup ha ra=>
    rename_i a vs
    have l1:=ra.length
    by_cases hw:HT.sIx vs.length 0 l'=0/\HT.sIx vs.length vs.length u'=vs.length
    ·refine .inr ⟨a,vs,rfl,SqT.of (I3.gh _ _ ha),hw,?_⟩
     rw [qC (by rw [<- l1]; exact hw)] at o3
     exact o3 _ G3 H3 (Ext.refl I3.gh) (.tup ha ra)
    ·exact .inl ⟨a,vs,rfl,SqT.of (I3.gh _ _ ha),hw,fun p hp=>Out.newTF I3 (ra.cut l' u') hp o3⟩
  ·cases z
 ·rw [if_neg hn] at o3; exact o3.elim
end
section
variable {X:Cx} {K:Frag} {EX:EXT} {e:Expr} {pos:Pos} {ma:Rho->R W}
theorem jJ {lo hi:Option Expr} {p2:Pos} {ml mh:Rho->R (Option Int)} (he:PE X e (tM K EX .B ma)) (hl:PO X lo (N4 K EX ml)) (hu:PO X hi (N4 K EX mh)) (hK:X.K=K:=by rfl):PE X (.Subscript e (.Slice lo hi none p2) pos) (tM K EX .F (bh ma ml mh)):=by
 subst hK; exact (fJ so he hl hu).mono fun _ _ _ q=>Bq q
end
theorem iw (m:Rho->R W) (ml mh:Rho->R (Option Int)) (ρ:Rho):bh m ml mh ρ=Rst (m ρ) (ml ρ) (mh ρ):=rfl
theorem Ar {ws:List W} (h:g4 ws=true) (l u:Option Int):Rst (.ok (.tup ws)) (.ok l) (.ok u)=.ok (.tup (D6 ws l u)):=by
 show (if g4 ws=true then _ else _)=_
 rw [if_pos h]
end TP
namespace TP
open PySem L2
def dq:W->Option (List Int)
 | .tup ws=>r9 ws
 | _=>none
theorem gt (ns:List Int):dq (.tup (ns.map W.int))=some ns:=ints_map ns
abbrev P7 (k:List Int):List Key:=k.map Sum.inl
theorem pU {a b:List Int} (e:P7 a=P7 b):a=b:=by
 have:=congrArg (List.map fun x:Key=>match x with | .inl i=>i | .inr _=>0) e
 simpa [P7,Function.comp_def] using this
section
variable {K:Frag} {EX:EXT} {H0 G H G1 H1 F:Hp} {ρ:Rho} {σ:St} {d:Mode} {D:Ends}
theorem xY (k:List Int):(P7 k).map kV=k.map V.int:=by rw [List.map_map]; rfl
theorem uu {v:V} {w:W} {k:List Int} (r:Rep K F v w) (e:dq w=some k):∃ b,v=.ref b/\F b=some (.tup ((P7 k).map kV)):=by
 cases r <;> first | cases e | skip
 rename_i a vs ws h r
 refine ⟨a,rfl,?_⟩
 rw [xY,<- Reps.ints r e]
 exact h
theorem gs {Hs:Hp} {v:V} {w:W} {k:List Int} (I:PIv K H0 G ρ σ H) (m:Md K H0 Hs G H v w .B) (e:dq w=some k):∃ b,v=.ref b/\H b=some (.tup ((P7 k).map kV)):=by
 rcases m with r | ⟨a,vs,ws,_,rfl,_⟩
 ·obtain ⟨b,e1,e2⟩:=uu r e
  exact ⟨b,e1,I.join_H _ _ e2⟩
 ·cases e
theorem any_keys {kvs:List (List Key×V)} {ks:List (List Int)} {k:List Int} (hk:kvs.map (·.1)=ks.map fun k=>k.map Sum.inl):(kvs.any fun kv=>decide (kv.1=P7 k))=decide (k∈ks):=by
 rw [Bool.eq_iff_iff,List.any_eq_true,decide_eq_true_iff]
 constructor
 ·rintro ⟨p,hp,q⟩
  have e:=of_decide_eq_true q
  have:p.1∈ks.map fun k=>k.map Sum.inl:=by rw [<- hk]; exact List.mem_map.mpr ⟨p,hp,rfl⟩
  obtain ⟨j,hj,ej⟩:=List.mem_map.mp this
  rw [<- pU (ej.trans e)]; exact hj
 ·intro h
  have:P7 k∈kvs.map (·.1):=by rw [hk]; exact List.mem_map.mpr ⟨k,h,rfl⟩
  obtain ⟨p,hp,e⟩:=List.mem_map.mp this
  exact ⟨p,hp,decide_eq_true e⟩
def hJ (ks:List (List Int)) (k:List Int):List (List Int):=if k∈ks then ks else ks ++ [k]
theorem pP {kvs:List (List Key×V)} {ks:List (List Int)} {k:List Int} {v:V} (hk:kvs.map (·.1)=ks.map fun k=>k.map Sum.inl):(putK kvs (P7 k) v).map (·.1)=(hJ ks k).map fun k=>k.map Sum.inl:=by
 unfold putK hJ
 rw [any_keys hk]
 by_cases h:k∈ks
 ·rw [if_pos (decide_eq_true h),if_pos h,<- hk,List.map_map]
  refine List.map_congr_left fun p _=>?_
  show (if p.1=P7 k then (p.1,v) else p).1=p.1
  split <;> rfl
 ·rw [if_neg (by simpa using h),if_neg h,List.map_append,List.map_append,hk]; rfl
theorem PIv.updD {a:Addr} {kvs kvs':List (List Key×V)} (I:PIv K H0 G ρ σ H) (ha:H a=some (.dT kvs)) (hg:G a=none) (h0:H0 a=none) (nd:∀ (j:Nat) (ks:List (List Int)),ρ[j]?=some (.dic ks)->σ[j]?≠some (some (.ref a))):PIv K H0 G ρ σ (upd H a (.dT kvs')):=by
 refine ⟨I.g0,I.gl,fun b o q=>by rw [c7 (d9 q hg)]; exact I.gh b o q,fun b o q=>by rw [c7 (d9 q h0)]; exact I.hh b o q,I.len,fun j x o h1 h2=>?_,I.ne⟩
 have:=I.sl j x o h1 h2
 cases x with
 | own us=>
  obtain ⟨b,us',eb,hb,hgb,h0b,rb⟩:=this
  have hne:b≠a:=by
   rintro rfl
   rw [ha] at hb; cases hb
  exact ⟨b,us',eb,by rw [c7 hne]; exact hb,hgb,h0b,rb⟩
 | dic ks=>
  obtain ⟨b,us',eb,hb,hgb,h0b,rb⟩:=this
  subst eb
  have hne:b≠a:=by
   rintro rfl
   exact nd j ks h1 h2
  exact ⟨b,us',rfl,by rw [c7 hne]; exact hb,hgb,h0b,rb⟩
 | dik ks=>
  obtain ⟨b,us',eb,hb,hgb,h0b,rb⟩:=this
  have hne:b≠a:=by
   rintro rfl
   rw [ha] at hb; cases hb
  exact ⟨b,us',eb,by rw [c7 hne]; exact hb,hgb,h0b,rb⟩
 | un=>exact this
 | val _=>exact this
 | par _=>exact this
 | iop _ _=>exact this
 | hz _=>exact this
theorem PIv.setD {i:Nat} {a:Addr} {kvs:List (List Key×V)} {ks:List (List Int)} (I:PIv K H0 G ρ σ H) (ha:H a=some (.dT kvs)) (hg:G a=none) (h0:H0 a=none) (hk:kvs.map (·.1)=ks.map fun k=>k.map Sum.inl):PIv K H0 G (ρ.set i (.dic ks)) (σ.set i (some (.ref a))) H where
 g0:=I.g0
 gl:=I.gl
 gh:=I.gh
 hh:=I.hh
 len:=by rw [List.length_set,List.length_set]; exact I.len
 sl j x o h1 h2:=by
  by_cases hj:i=j
  ·subst hj
   rw [List.getElem?_set] at h1 h2
   simp only [if_true] at h1 h2
   split at h1 <;> split at h2 <;> simp only [Option.some.injEq,reduceCtorEq] at h1 h2
   subst h1; subst h2
   exact ⟨a,kvs,rfl,ha,hg,h0,hk⟩
  ·rw [List.getElem?_set_ne hj] at h1 h2; exact I.sl j x o h1 h2
 ne a b ws us c hab h1 h2 h3 h4:=by
  have na:i≠a:=by
   rintro rfl
   rw [List.getElem?_set] at h1
   simp only [if_true] at h1
   split at h1 <;> simp at h1
  have nb:i≠b:=by
   rintro rfl
   rw [List.getElem?_set] at h2
   simp only [if_true] at h2
   split at h2 <;> simp at h2
  rw [List.getElem?_set_ne na] at h1 h3
  rw [List.getElem?_set_ne nb] at h2 h4
  exact I.ne a b ws us c hab h1 h2 h3 h4
theorem PIv.dic_at {i:Nat} {ks:List (List Int)} (I:PIv K H0 G ρ σ H) (e:ρ[i]?=some (.dic ks)):∃ a kvs,σ[i]?=some (some (.ref a))/\H a=some (.dT kvs)/\G a=none/\H0 a=none/\kvs.map (·.1)=ks.map fun k=>k.map Sum.inl:=by
 have hi:i<σ.length:=by rw [<- I.len]; exact (List.getElem?_eq_some_iff.mp e).1
 have es:σ[i]?=some σ[i]:=by simp
 obtain ⟨a,kvs,ev,r⟩:=I.sl i _ _ e es
 exact ⟨a,kvs,by rw [es,ev],r⟩
def X0:Sl->Bool
 | .dic _=>true
 | _=>false
def eO (ρ:Rho):Bool:=ρ.all fun s=>!X0 s
theorem pC {ρ:Rho} {i j:Nat} {ks:List (List Int)} (h:eO (ρ.set i .un)=true) (hj:i≠j):ρ[j]?≠some (.dic ks):=fun e=>by
 have e':(ρ.set i .un)[j]?=some (.dic ks):=by rw [List.getElem?_set_ne hj]; exact e
 have:=List.all_eq_true.mp h _ (List.mem_of_getElem? e')
 simp [X0] at this
theorem PIv.dic_upd {i:Nat} {a:Addr} {kvs':List (List Key×V)} {ks ks':List (List Int)} (I:PIv K H0 G ρ σ H) (e:ρ[i]?=some (.dic ks)) (es:σ[i]?=some (some (.ref a))) (one:eO (ρ.set i .un)=true) (hk:kvs'.map (·.1)=ks'.map fun k=>k.map Sum.inl) :
  PIv K H0 G (ρ.set i (.dic ks')) σ (upd H a (.dT kvs')):=by
 obtain ⟨a',kvs,ev,ha,hg,h0,_⟩:=I.sl i _ _ e es
 cases ev
 refine ⟨I.g0,I.gl,fun b o q=>by rw [c7 (d9 q hg)]; exact I.gh b o q,fun b o q=>by rw [c7 (d9 q h0)]; exact I.hh b o q,by rw [List.length_set]; exact I.len,fun j x o h1 h2=>?_,fun p q ws1 us c hab h1 h2 h3 h4=>?_⟩
 ·by_cases hj:i=j
  ·subst hj
   rw [List.getElem?_set] at h1
   simp only [if_true] at h1
   split at h1 <;> simp only [Option.some.injEq,reduceCtorEq] at h1
   subst h1
   rw [es] at h2; cases h2
   exact ⟨a,kvs',rfl,g8,hg,h0,hk⟩
  ·rw [List.getElem?_set_ne hj] at h1
   have:=I.sl j x o h1 h2
   cases x with
   | own us=>
    obtain ⟨b,us',eb,hb,hgb,h0b,rb⟩:=this
    have hne:b≠a:=by
     rintro rfl
     rw [ha] at hb; cases hb
    exact ⟨b,us',eb,by rw [c7 hne]; exact hb,hgb,h0b,rb⟩
   | dic ls=>exact absurd h1 (pC one hj)
   | dik ks=>
    obtain ⟨b,us',eb,hb,hgb,h0b,rb⟩:=this
    have hne:b≠a:=by
     rintro rfl
     rw [ha] at hb; cases hb
    exact ⟨b,us',eb,by rw [c7 hne]; exact hb,hgb,h0b,rb⟩
   | un=>exact this
   | val _=>exact this
   | par _=>exact this
   | iop _ _=>exact this
   | hz _=>exact this
 ·have na:i≠p:=by
   rintro rfl
   rw [List.getElem?_set] at h1
   simp only [if_true] at h1
   split at h1 <;> simp at h1
  have nb:i≠q:=by
   rintro rfl
   rw [List.getElem?_set] at h2
   simp only [if_true] at h2
   split at h2 <;> simp at h2
  rw [List.getElem?_set_ne na] at h1
  rw [List.getElem?_set_ne nb] at h2
  exact I.ne p q ws1 us c hab h1 h2 h3 h4
def inD (o:Option Sl) (w:W) (neg:Bool):R Bool:=match o with
 | some (.dic ks)=>(match dq w with
  | some k=>.ok (if neg then !decide (k∈ks) else decide (k∈ks))
  | none=>.stuck)
 | _=>.stuck
def mIn (neg:Bool) (i:Nat) (mk:Rho->R W):Rho->R Bool:=fun ρ=>mk ρ>>=fun w=>inD ρ[i]? w neg
theorem BC {i:Nat} {mk:Rho->R W} {Q:Bool->Hp->Prop} (h:tT K EX (mIn false i mk) σ H Q):tB (vQ (tM K EX .B mk) (O9 i)) σ H Q:=by
 obtain ⟨H0,G,ρ,I,o⟩:=h
 refine ⟨H0,G,ρ,I,Out.bind (md:=mdW K .B H0 H) o fun y G1 H1 w e1 m1 o1=>?_⟩
 have I1:=I.ext e1
 unfold inD at o1
 split at o1
 ·rename_i ks e
  split at o1
  ·rename_i k ek
   obtain ⟨a,kvs,es,ha,hg,h0,hk⟩:=I1.dic_at e
   obtain ⟨b,rfl,hb⟩:=gs I1 m1 ek
   refine ⟨.ref a,es,a,_,rfl,DGet.t ha hb,_,rfl,?_⟩
   rw [<- bg,any_keys hk]
   exact o1 _ G1 H1 (Ext.refl I1.gh) rfl
  ·exact o1.elim
 ·exact o1.elim
def putD (ks:List (List Int)) (i:Nat) (w:W) (ρ:Rho):R Fl:=match dq w with
 | some k=>if eO (ρ.set i .un)=true/\ks.length<1000 then .ok (.nx (ρ.set i (.dic (hJ ks k)))) else .stuck
 | none=>.stuck
def eR (o:Option Sl) (re rk:R W) (i:Nat) (ρ:Rho):R Fl:=match o with
 | some (.dic ks)=>re>>=fun _=>rk>>=fun w=>putD ks i w ρ
 | _=>.stuck
def cB (i:Nat) (mk me:Rho->R W):Rho->R Fl:=fun ρ=>eR ρ[i]? (me ρ) (mk ρ) i ρ
theorem Aa {i:Nat} {mk me:Rho->R W} (h:tSt K EX d (cB i mk me) D σ H):qX (O9 i) (tM K EX .B mk) (tM K EX .B me) D σ H:=by
 obtain ⟨H0,G,ρ,I,o⟩:=h
 unfold cB eR at o
 split at o
 ·rename_i ks e
  refine ⟨H0,G,ρ,I,OutS.bind I o fun v G1 H1 w1 e1 m1 o1=>?_⟩
  have I1:=I.ext e1
  obtain ⟨a,kvs,es,ha,hg,h0,hk⟩:=I1.dic_at e
  refine ⟨.ref a,es,H0,G1,ρ,I1,OutS.bind I1 o1 fun y G2 H2 w e2 m2 o2=>?_⟩
  have I2:=I1.ext e2
  unfold putD at o2
  split at o2
  ·rename_i k ek
   split at o2
   ·rename_i hc
    obtain ⟨b,rfl,hb⟩:=gs I2 m2 ek
    have hl:kvs.length=ks.length:=by have:=congrArg List.length hk; simpa using this
    refine ⟨a,_,rfl,DPut.t (e2.hh a _ ha) hb (Nat.lt_of_lt_of_le (show kvs.length<1000 by omega) (by decide)),?_⟩
    exact o2 G2 σ _ (Same.refl _) (I2.dic_upd e es hc.1 (pP hk))
   ·exact o2.elim
  ·exact o2.elim
 ·exact o.elim
def newD (i:Nat) (w:W) (ρ:Rho):R Fl:=match dq w with
 | some k=>.ok (.nx (ρ.set i (.dic [k])))
 | none=>.stuck
def eP (i:Nat) (mk me:Rho->R W):Rho->R Fl:=fun ρ=>mk ρ>>=fun w=>me ρ>>=fun _=>newD i w ρ
def iB (tk tv:TE):TE:=fun σ H Q=>∀ p,H p=none->tk σ (upd H p (.dT [])) fun x H1=>tv σ H1 fun y H2=>H2 p=some (.dT [])/\∃ b k,x=.ref b/\H2 b=some (.tup (k.map kV))/\Q (.ref p) (upd H2 p (.dT [(k,y)]))
theorem Ab {i:Nat} {mk me:Rho->R W} (h:tSt K EX d (eP i mk me) D σ H):P0 (iB (tM K EX .B mk) (tM K EX .B me)) (B4 i) D σ H:=by
 obtain ⟨H0,G,ρ,I,o⟩:=h
 intro p hp
 have hgp:G p=none:=by
  cases q:G p with
  | none=>rfl
  | some u=>rw [I.gh p u q] at hp; cases hp
 have h0p:H0 p=none:=by
  cases q:H0 p with
  | none=>rfl
  | some u=>rw [I.hh p u q] at hp; cases hp
 have su:Same H (upd H p (.dT [])):=fun b u q=>by rw [c7 (d9 q hp)]; exact q
 have x0:Ext G H G (upd H p (.dT [])):=⟨Same.refl G,su,I.gh.trans su,fun _ _ _ _ e=>e⟩
 have I0:=I.ext x0
 have o':OutS K EX d H0 G (mk ρ>>=fun w=>me ρ>>=fun _=>newD i w ρ) D:=o
 refine ⟨H0,G,ρ,I0,OutS.bind I0 o' fun x G1 H1 w e1 m1 o1=>?_⟩
 have I1:=I0.ext e1
 refine ⟨H0,G1,ρ,I1,OutS.bind I1 o1 fun y G2 H2 w2 e2 m2 o2=>?_⟩
 have I2:=I1.ext e2
 have hp2:H2 p=some (.dT []):=e2.hh p _ (e1.hh p _ g8)
 have hg2:G2 p=none:=e2.keep p _ (e1.hh p _ g8) rfl (e1.keep p _ g8 rfl hgp)
 refine ⟨hp2,?_⟩
 unfold newD at o2
 split at o2
 ·rename_i k ek
  obtain ⟨b,rfl,hb⟩:=gs I1 m1 ek
  refine ⟨b,P7 k,rfl,e2.hh b _ hb,?_⟩
  refine o2 G2 _ _ (Same.refl _) (PIv.setD (I2.updD hp2 hg2 h0p fun j ks e1 e2=>?_) g8 hg2 h0p rfl)
  obtain ⟨c,kvs,ec,hc,_⟩:=I.sl j _ _ e1 e2
  cases ec
  rw [hp] at hc; cases hc
 ·exact o2.elim
end
section
variable {X:Cx} {K:Frag} {EX:EXT} {d:Mode} {e k v:Expr} {pos:Pos} {mk me:Rho->R W}
theorem lU {tk tv:TE} (hu:X.A.units+1<cLine) (hk:PE X k tk) (hv:PE X v tv):PE X (.Dict [some k] [v] pos) (iB tk tv):=by
 intro pins s σ H Q I q
 have hn:=I.hok.fresh (Nat.le_refl s.heap.objs.size)
 have I1:=I.laid (a:=s.heap.objs.size) (o:=.dT []) (h':=s.heap.push { cls:=.type "dict",data:=.dict #[] }) (t':=s.toks) (fun _ _ q=>Heap.get?_push_of_some _ q) (Nat.le_refl _) (qy s.heap I.big)
 refine wpAny_Dict_any rfl rfl (by simp) (Nat.le_of_ble_eq_true rfl) ?_
 refine pairTrees_cons_walk (thn (hk pins _ σ _ _ I1 (q _ hn)) fun u s1 ⟨x,H1,I2,rx,q1⟩=>thn (hv pins s1 σ H1 _ I2 q1) fun w2 s2 ⟨y,H2,I3,ry,e,b,kk,ex,eb,q2⟩=>pairTrees_nil_walk ?_)
 subst ex
 obtain rfl:u=Value.ref b:=rx
 obtain ⟨z,hd,xs,rel,dd⟩:=rM I3.hok e
 cases rel
 unfold storeAll
 rw [List.forIn_cons]
 refine wpAny_bind (wpAny_bind (wpAny_dictSet_heap (knd:=tupleKind (t4 X.prog X.w)) (hsz:=Nat.zero_le _) (show (tupleKind (t4 X.prog X.w)).room X.A from Nat.lt_of_succ_lt hu) (cD I3.hok eb) dd fun h' dd' hs=>wpAny_pure ?_))
 show wpAny _ _ (forIn [] PUnit.unit _) _ _ _
 rw [List.forIn_nil]
 refine wpAny_pure ⟨.ref s.heap.objs.size,_,?_,rfl,q2⟩
 obtain ⟨qo,es,ep,hq,h2,h3,h4,_,h5⟩:=dd'
 refine dG I3 (by rw [e]; exact True.intro) hs ⟨qo,hq⟩ ⟨Nat.succ_le_of_lt (by decide),hd,_,(KT.put (H:=H2) (kvs:=[]) (xs:=[]) .nil kk eb ry).keeps fun c ys ec=>?_,qo,es,ep,hq,h2,h3,h4,h5⟩
 rw [c7 (rA ec e (fun z=>nomatch z))]
 exact ec
theorem xg {i:Nat} {x:Str} {pos' pos2:Pos} (hu:X.A.units+64<cLine) (hN:X.N.Nodup) (hi:X.N[i]?=some x) (hx:Loc X.env.scope x) (hk:PE X k (tM K EX .B mk)) (hv:PE X v (tM K EX .B me))
  (hs:swapsWith (.Dict [some k] [v] pos) (some (.Name x pos')) pos2.line X.env=pure false:=by rfl) (hf:X.fn x=true\/X.env.scope.names.lookup x=some .local:=by first | exact Or.inl rfl | exact Or.inr rfl | assumption) :
  PS X (.Assign [.Name x pos'] (.Dict [some k] [v] pos) pos2) (tSt K EX d (eP i mk me)):=(Z6 hN hi hx (lU (by omega) hk hv) hs hf).mono fun _ _ _ q=>Ab q
theorem AI {i:Nat} {x:Str} {p:Pos} (hu:X.A.units+64<cLine) (hN:X.N[i]?=some x) (hv:Vis X.env.scope x) (hk:PE X k (tM K EX .B mk)) (hd:(x == ("__debug__" : Str))=false:=by decide) (hcd:(x == ("__classdict__" : Str))=false:=by decide)
  (hm:behindInMarks .In (.Name x p)=false:=by rfl):PT X (.Compare k [.In] [.Name x p] pos) (tT K EX (mIn false i mk)):=(xp (xB (by omega) hk (P5 hN hv hd hcd)) hm).mono fun _ _ _ q=>BC q
theorem xf {i:Nat} {x:Str} {p p2:Pos} (hu:X.A.units+64<cLine) (hN:X.N[i]?=some x) (hv:Vis X.env.scope x) (hk:PE X k (tM K EX .B mk)) (he:PE X e (tM K EX .B me)) (hd:(x == ("__debug__" : Str))=false:=by decide) (hcd:(x == ("__classdict__" : Str))=false:=by decide)
  (hs:swapsWith e (some (.Subscript (.Name x p) k p2)) pos.line X.env=pure false:=by rfl):PS X (.Assign [.Subscript (.Name x p) k p2] e pos) (tSt K EX d (cB i mk me)):=(tD (by omega) (P5 hN hv hd hcd) hk he hs).mono fun _ _ _ q=>Aa q
end
end TP
namespace TP
open PySem L2
set_option maxHeartbeats 2000000
section
variable {X:Cx} {K:Frag}
end
section
variable {K:Frag}
end
theorem mK (neg:Bool) (i:Nat) (mk:Rho->R W) (ρ:Rho):mIn neg i mk ρ=(mk ρ>>=fun w=>inD ρ[i]? w neg):=rfl
theorem nc (ks:List (List Int)) (k:List Int):inD (some (.dic ks)) (.tup (k.map W.int)) false=.ok (decide (k∈ks)):=by unfold inD; rw [gt]; rfl
theorem gn (i:Nat) (mk me:Rho->R W) (ρ:Rho):cB i mk me ρ=eR ρ[i]? (me ρ) (mk ρ) i ρ:=rfl
theorem bL (ks:List (List Int)) (w:W) (k:List Int) (i:Nat) (ρ:Rho) (h:eO (ρ.set i .un)=true) (hl:ks.length<1000):eR (some (.dic ks)) (.ok w) (.ok (.tup (k.map W.int))) i ρ=.ok (.nx (ρ.set i (.dic (hJ ks k)))):=by
 show putD ks i (.tup (k.map W.int)) ρ=_
 unfold putD
 rw [gt]
 exact if_pos ⟨h,hl⟩
theorem pJ (i:Nat) (mk me:Rho->R W) (ρ:Rho):eP i mk me ρ=(mk ρ>>=fun w=>me ρ>>=fun _=>newD i w ρ):=rfl
theorem iU (i:Nat) (k:List Int) (ρ:Rho):newD i (.tup (k.map W.int)) ρ=.ok (.nx (ρ.set i (.dic [k]))):=by unfold newD; rw [gt]
end TP
namespace TP
open PySem L2
section
variable {X:Cx} {K:Frag} {EX:EXT} {d:Mode} {p:Pos} {es:List Expr} {mr:Rho->R (List W)}
theorem f7 {i j} (hr:PA X es (tA K EX d mr)):PA X (.Constant (.int i) j p::es) (tA K EX d (aC (mC (.int i)) mr)):=b7 d8 hr (by rfl)
theorem fD {a0 a1 a2 a3 a4 a5} {u0 u1 u2 u3 u4 u5} {p0 p1 p2 p3 p4 p5:Pos} {pos:Pos}:PE X (.List [.Constant (.int a0) u0 p0,.Constant (.int a1) u1 p1,.Constant (.int a2) u2 p2,.Constant (.int a3) u3 p3,.Constant (.int a4) u4 p4,.Constant (.int a5) u5 p5] pos) (tM K EX .F (E2 (aC (mC (.int a0)) (aC (mC (.int a1)) (aC (mC (.int a2)) (aC (mC (.int a3)) (aC (mC (.int a4)) (aC (mC (.int a5)) aN)))))))):=by
 refine O1 ?_
 refine f7 ?_
 refine f7 ?_
 refine f7 ?_
 refine f7 ?_
 refine f7 ?_
 refine f7 ?_
 exact b9
theorem xc {a0 a1 a2 a3 a4 a5 a6 a7} {u0 u1 u2 u3 u4 u5 u6 u7} {p0 p1 p2 p3 p4 p5 p6 p7:Pos} {pos:Pos}:PE X (.List [.Constant (.int a0) u0 p0,.Constant (.int a1) u1 p1,.Constant (.int a2) u2 p2,.Constant (.int a3) u3 p3,.Constant (.int a4) u4 p4,.Constant (.int a5) u5 p5,.Constant (.int a6) u6 p6,.Constant (.int a7) u7 p7] pos) (tM K EX .F (E2 (aC (mC (.int a0)) (aC (mC (.int a1)) (aC (mC (.int a2)) (aC (mC (.int a3)) (aC (mC (.int a4)) (aC (mC (.int a5)) (aC (mC (.int a6)) (aC (mC (.int a7)) aN)))))))))):=by
 refine O1 ?_
 refine f7 ?_
 refine f7 ?_
 refine f7 ?_
 refine f7 ?_
 refine f7 ?_
 refine f7 ?_
 refine f7 ?_
 refine f7 ?_
 exact b9
theorem tq {a0 a1 a2 a3 a4 a5 a6 a7 a8 a9 a10} {u0 u1 u2 u3 u4 u5 u6 u7 u8 u9 u10} {p0 p1 p2 p3 p4 p5 p6 p7 p8 p9 p10:Pos} {pos:Pos}:PE X (.List [.Constant (.int a0) u0 p0,.Constant (.int a1) u1 p1,.Constant (.int a2) u2 p2,.Constant (.int a3) u3 p3,.Constant (.int a4) u4 p4,.Constant (.int a5) u5 p5,.Constant (.int a6) u6 p6,.Constant (.int a7) u7 p7,.Constant (.int a8) u8 p8,.Constant (.int a9) u9 p9,.Constant (.int a10) u10 p10] pos) (tM K EX .F (E2 (aC (mC (.int a0)) (aC (mC (.int a1)) (aC (mC (.int a2)) (aC (mC (.int a3)) (aC (mC (.int a4)) (aC (mC (.int a5)) (aC (mC (.int a6)) (aC (mC (.int a7)) (aC (mC (.int a8)) (aC (mC (.int a9)) (aC (mC (.int a10)) aN))))))))))))):=by
 refine O1 ?_
 refine f7 ?_
 refine f7 ?_
 refine f7 ?_
 refine f7 ?_
 refine f7 ?_
 refine f7 ?_
 refine f7 ?_
 refine f7 ?_
 refine f7 ?_
 refine f7 ?_
 refine f7 ?_
 exact b9
end
end TP
namespace TB
open PySem PySem.W
theorem bits_of {ns:List Int} (h:WData.layableAll [WData.list (ns.map WData.int)]=true):∀ x∈ns,Builtin.Int.intBits x<=1048576:=fun x hx=>by
 have h1:(WData.list (ns.map WData.int)).layable=true:=by simpa [WData.layableAll] using h
 have h2:(WData.list (ns.map WData.int)).weight<=2^20:=(layableW_iff.mp h1).2.2
 have key:∀ ms:List Int,x∈ms->Builtin.Int.intBits x<=WData.weightAll (ms.map WData.int):=by
  intro ms
  induction ms with
  | nil=>intro z; cases z
  | cons m ms ih=>
   intro z
   rw [List.map_cons]
   show _<=WData.weight (.int m)+1+WData.weightAll (ms.map WData.int)
   rcases List.mem_cons.mp z with e | e
   ·subst e
    have:WData.weight (.int x)=Builtin.Int.intBits x:=by rfl
    omega
   ·have:=ih e
    omega
 exact Nat.le_trans (key ns hx) (by simpa [WData.weight] using h2)
end TB
namespace Att
open PySem PySem.W PySem.Calls PyProof.Rows
theorem attach_callB {l:OpenLaw} {n:Nat} {q:Program} {loose:List Str} {XP:(Str->Option Value)->Heap->Prop} {YP:World->Heap->Prop} {d:DefRec}
  (hn:l.most=some n) (hdf:d.params.defaults = [])
  (call:∀ (w:World) (s₀ s₁:Shared) (mg mb:Str->Option Value) (fa:Addr) (o:Obj) (pm cd doc:Value) (a:Addr) (vs:List Value) (ns:List Int),
   Ground q loose [] XP w s₀ mg mb s₁.heap->YP w s₁.heap ->
   s₁.heap.get? fa=some o->o.data=.func (docDef d.name d.params d.body d.scope pm cd doc)->s₁.heap.CodeRec cd d.name->mg d.name=some (.ref fa) ->
   s₁.heap.get? a=some { cls:=.type "list",data:=.seq vs.toArray }->IntsAre vs ns->ns.length<=n->(∀ x∈ns,Builtin.Int.intBits x<=1048576)->s₁.gens=#[] ->
   codeAny (model l.prog w) callerA (.call (.ref fa) ⟨[.ref a],[]⟩) (fun r s'=>r=.ok (.ret (.bool true))/\OldK s₁.heap s'.heap/\s'.os=s₁.os/\AllBare s'.gens) s₁) :
  WalkO q loose XP YP l.row.toRowW d [] (fun f vs=>PySem.call f vs):=by
 intro w s₀ s₁ mg mb G Y fa o pm cd doc dV kV ho hd hcd hD hmg hg args vals as hpre hlay hrd hwl hlo
 obtain rfl:dV=.none:=Dflts.none hD hdf
 obtain rfl:kV=.none:=Dflts.noKw hD
 obtain ⟨a,vs,ns,rfl,rfl,hobj,hints,hlen⟩:=ly hn hpre hwl
 refine enter_call (codeAny_mono (call w s₀ s₁ mg mb fa o pm cd doc a vs ns G Y ho (fd_plain hd) hcd hmg hobj hints hlen (TB.bits_of hlay) hg) fun r s' hq=>?_)
 obtain ⟨rfl,h2,h3,h4⟩:=hq
 exact ⟨.inl ⟨.bool true,.bool true,[],rfl,fun _=>rfl,.bool true,lN l _,fun _=>⟨List.Pairwise.nil,fun _ hm=>(nomatch hm)⟩⟩,h2,h3,h4⟩
end Att
namespace L2
open PySem PySem.Spec PyProof.Rows
theorem nX {l:PySem.W.OpenLaw} {n k:Nat} {q:Program} {loose:List Str} {XP:(Str->Option Value)->Heap->Prop} {YP:World->Heap->Prop} {d:DefRec} {K:Params->Frag} {CX:World->CXT} {sp:World->Sp} {x:Str}
  (hn:l.most=some n) (hn2:n<=sizeLine) (hdf:d.params.defaults = []) (hr:Room k callerA)
  (hY:∀ (w:World) (h:Heap),YP w h->(K w.params).In h)
  (hT:∀ (w:World) (h:Heap),YP w h->∀ p∈lamT,h.get? p.1=some { cls:=.none,data:=.fields #[] }/\isCodeTable h p.1/\(K w.params).lookup p.1=none/\lamT.lookup p.1=some p.2)
  (F:∀ (w:World) (mg:Str->Option Value) (fa:Addr) (h:Heap),(K w.params).In h->h.Ns mainGlobals mg->mg d.name=some (.ref fa) ->
   ∃ fd:FuncData,(∀ (s:Shared) (u:Value),BindsTo s fd ⟨[u],[]⟩ [(x,u)]) /\
    ∀ base:Heap,(K w.params).In base->base.Ns mainGlobals mg->FnOk l.prog w (K w.params) mg base (CX w) k fa fd [x] (sp w))
  (hsp:∀ (w:World) (H:Hp) (a:Addr) (ns:List Int),ns.length<=n->(∀ x∈ns,Builtin.Int.intBits x<=1048576)->hZ H->SqL (K w.params) H a (ns.map V.int)->sp w [.ref a] H (fun v _=>v=.bl true) fun _ _ _=>False)
  (hCX:∀ (w:World) (H:Hp) (s:Shared) (e:Value) (s':Shared),CX w [] H s (fun _ _ _=>False) e s'->False) :
  PySem.W.WalkO q loose XP YP l.row.toRowW d [] (fun f vs=>PySem.call f vs):=by
 refine Att.attach_callB hn hdf fun w s₀ s₁ mg mb fa o pm cd doc a vs ns G Y ho hd hcd hmg hobj hints hlen hbi hg=>?_
 have KX:=hY w _ Y
 obtain ⟨fd,hb,hF⟩:=F w mg fa _ KX G.T.g hmg
 exact pM KX G.T.g G.T.b G.T.builtins G.T.nolimit hg G.T.bmain (hT w _ Y) hobj hints (Nat.le_trans hlen hn2) hr hF hb (fun H hO hS=>hsp w H a ns hlen hbi hO hS) fun H e s'=>hCX w H s₁ e s'
theorem walk_ofKB {l:PySem.W.OpenLaw} {n k:Nat} {q:Program} {loose:List Str} {XP:(Str->Option Value)->Heap->Prop} {YP:World->Heap->Prop} {d:DefRec} {K:Params->Frag} {CX:CXT} {sp:Frag->Sp} {x:Str}
  (hn:l.most=some n) (hn2:n<=sizeLine) (hdf:d.params.defaults = []) (hr:Room k callerA)
  (hY:∀ (w:World) (h:Heap),YP w h->(K w.params).In h)
  (hT:∀ (w:World) (h:Heap),YP w h->∀ p∈lamT,h.get? p.1=some { cls:=.none,data:=.fields #[] }/\isCodeTable h p.1/\(K w.params).lookup p.1=none/\lamT.lookup p.1=some p.2)
  (F:∀ (w:World) (mg:Str->Option Value) (fa:Addr) (h:Heap),(K w.params).In h->h.Ns mainGlobals mg->mg d.name=some (.ref fa) ->
   ∃ fd:FuncData,(∀ (s:Shared) (u:Value),BindsTo s fd ⟨[u],[]⟩ [(x,u)]) /\
    ∀ base:Heap,(K w.params).In base->base.Ns mainGlobals mg->FnOk l.prog w (K w.params) mg base CX k fa fd [x] (sp (K w.params)))
  (hsp:∀ (K:Frag) (H:Hp) (a:Addr) (ns:List Int),ns.length<=n->(∀ x∈ns,Builtin.Int.intBits x<=1048576)->hZ H->SqL K H a (ns.map V.int)->sp K [.ref a] H (fun v _=>v=.bl true) fun _ _ _=>False)
  (hCX:∀ (H:Hp) (s:Shared) (e:Value) (s':Shared),CX [] H s (fun _ _ _=>False) e s'->False) :
  PySem.W.WalkO q loose XP YP l.row.toRowW d [] (fun f vs=>PySem.call f vs):=
 nX (K:=K) (CX:=fun _=>CX) (sp:=fun w=>sp (K w.params)) hn hn2 hdf hr hY hT F (fun w H a ns h1 hb h2 h3=>hsp (K w.params) H a ns h1 hb h2 h3) fun _ H s e s'=>hCX H s e s'
end L2
namespace TP
open PySem L2
def CMulB (i j:Int):Prop:=CMul i j\/Builtin.Int.intBits i+Builtin.Int.intBits j<=134217728
instance (i j:Int):Decidable (CMulB i j):=by unfold CMulB; infer_instance
theorem CMulB.ok {i j:Int} (h:CMulB i j):IntMulOk i j:=by
 rcases h with h | h
 ·exact h.ok
 ·exact IntMulOk.of_le (Nat.le_refl _) (Nat.le_refl _) h
section
variable {X:Cx}
theorem x8:OpR X (binaryOp .Mult) (rI CMulB fun i j=>.int (i*j)):=opI fun _ _ _ _ _ _ _ hc q=>PyProof.Rows.mul_int q hc.ok
end
theorem mD {i j:Int} (h:-18446744073709551616<i/\i<18446744073709551616):fI CMulB m4 (.int i) (.int j)=.ok (.int (i*j)):=by
 show (if CMulB i j then _ else _)=_
 exact if_pos (.inl (.inl h))
theorem mB {i j:Int} (h:-18446744073709551616<j/\j<18446744073709551616):fI CMulB m4 (.int i) (.int j)=.ok (.int (i*j)):=by
 show (if CMulB i j then _ else _)=_
 exact if_pos (.inl (.inr h))
theorem U6 {i j:Int} (h:Builtin.Int.intBits i+Builtin.Int.intBits j<=134217728):fI CMulB m4 (.int i) (.int j)=.ok (.int (i*j)):=by
 show (if CMulB i j then _ else _)=_
 exact if_pos (.inr h)
end TP
namespace TL
open PySem
theorem xL:typeLookup (.type "list_reverseiterator") "__len__" = pure none:=by rw [typeLookup_type,builtinLookup_eq_fast]; kernel_rfl
theorem qc:typeLookup (.type "list_reverseiterator") "__length_hint__" = pure (some (.builtin "list_reverseiterator.__length_hint__")):=by rw [typeLookup_type,builtinLookup_eq_fast]; kernel_rfl
theorem sub_self:isSubtype (.type "list_reverseiterator") (.type "list_reverseiterator")=pure true:=by rw [isSubtype_type]; kernel_rfl
section
variable {prog:Program} {w:World} {A:Around} {E:Value->Shared->Prop} {s:Shared}
theorem pY {I l:Addr} {i:Int} {Q:Bool->Shared->Prop} (hit:s.heap.IsRevIter I l i) (h:Q false s):wpAny (model prog w) A (Builtin.List.listLengthHint (.ref I)) Q E s:=by
 have hT:=hit.typeIs
 unfold Builtin.List.listLengthHint
 refine wpAny_bind (wpAny_specialOf hT xL ?_)
 show wpAny _ _ (specialOf (Value.ref I) (Str.ofString "__length_hint__")>>=_) _ _ _; refine wpAny_bind (wpAny_specialOf hT qc ?_)
 have hsp:splitId "list_reverseiterator.__length_hint__" = some ("list_reverseiterator", "__length_hint__"):=by decide +kernel
 dsimp only
 rw [hsp]
 dsimp only
 refine wpAny_bind (wpAny_isInstance (T := "list_reverseiterator") (b:=true) hT sub_self ?_)
 rw [if_neg (show ¬ ((!true)=true) by decide)]
 refine wpAny_ite_split (fun _=>?_) (fun hab=>absurd (by decide +kernel) hab)
 rw [if_neg (show ¬ ((Value.builtin "list_reverseiterator.__length_hint__" == Value.builtin "range_iterator.__length_hint__")=true) by decide)]
 exact wpAny_pure h
theorem uT {R:Result->Shared->Prop} {I l S:Addr} {items:Array Value} {c₀:Nat} (res:Value) (hh:A.handled=none) (hne:l≠I) (hit:s.heap.IsRevIter I l ((items.size:Int)-1)) (hl:s.heap.IsList l items) (hSI:S≠I) (hSl:S≠l) (hn:items.size<=sizeLine)
  (hS:s.heap.get? S=some { cls:=.type "list",data:=.seq #[] c₀ })
  (hR:∀ h' tk acc' c',(∀ b o,b≠S->b≠I->s.heap.get? b=some o->h'.get? b=some o)->h'.get? S=some { cls:=.type "list",dict:=none,data:=.seq acc' c',slots:=#[] }->ItemsOf (fun i v=>items[items.size-1-i]?=some v) acc' items.size->R (.ok (.ret res)) { s with heap:=h',toks:=tk }) :
  wpAny (model prog w) A.in1 (Builtin.List.listExtendWith (.ref S) (.ref I) res)
   (fun fin s'=>match fin with | .done f=>R (.ok f) s' | .again c'=>c'.quiet=true/\codeAny (model prog w) A c' R s') (fun e s'=>R (.error e) s') s:=by
 have W:=(Walks.listRev (prog:=prog) (w:=w) (A:=A.in1) hh I l hne items).toS
 have hSf:S ∉ [I,l]:=by simp [hSI,hSl]
 unfold Builtin.List.listExtendWith; refine wpAny_bind (wpAny_typeOf hit.typeIs ?_)
 have h1:Builtin.List.listSameRef (.ref S) (.ref I)=false:=by simp [Builtin.List.listSameRef,hSI]
 have h2:(Value.type "list_reverseiterator" == Value.type "list")=false/\(Value.type "list_reverseiterator" == Value.type "tuple")=false:=by decide
 rw [h1,h2.1,h2.2]; simp only [Bool.or_false,Bool.false_eq_true,if_false]
 refine wpAny_bind (wpAny_pyIter_revIter hit ?_)
 refine wpAny_bind (wpAny_holding (pY hit ?_))
 refine wpAny_ite_split (fun hab=>absurd hab (by decide +kernel)) (fun _=>?_)
 refine wpAny_pure ⟨plainId_quiet F.plain_extend_loop _,?_⟩
 refine codeAny_extend_loopS W hn S hSf res items.size 0 s #[] c₀ rfl (Nat.zero_le _) ⟨Nat.zero_le _,by simpa using hit,hl⟩ hS (ItemsOf.nil _) fun s' acc' c' hm hS' hacc=>?_
 rw [Moved.eq_with hm]; exact hR s'.heap s'.toks acc' c' (fun b o hb hbI e=>hm.heap b o (by simp [hb,hbI]) e) hS' hacc
theorem call_list_rev {I l:Addr} {items:Array Value} {Q:Value->Shared->Prop} (hh:A.handled=none) (hne:l≠I) (hit:s.heap.IsRevIter I l ((items.size:Int)-1)) (hl:s.heap.IsList l items) (hn:items.size<=sizeLine)
  (hQ:∀ h' tk acc' c',(∀ b o,b≠I->s.heap.get? b=some o->h'.get? b=some o)->h'.get? s.heap.objs.size=some { cls:=.type "list",dict:=none,data:=.seq acc' c',slots:=#[] }->ItemsOf (fun i v=>items[items.size-1-i]?=some v) acc' items.size->Q (.ref s.heap.objs.size) { s with heap:=h',toks:=tk }) :
  wpAny (model prog w) A (call (.type "list") [.ref I]) Q E s:=by
 obtain ⟨oi,hi,hi2⟩:=id hit
 obtain ⟨ol,hol,hol2⟩:=id hl
 have hSI:s.heap.objs.size≠I:=fun e=>absurd (Heap.lt_size hi) (by rw [<- e]; exact Nat.lt_irrefl _)
 have hSl:s.heap.objs.size≠l:=fun e=>absurd (Heap.lt_size hol) (by rw [<- e]; exact Nat.lt_irrefl _)
 refine callType_codes (Q₁:=fun obj s₁=>obj=.ref s.heap.objs.size/\s₁={ s with heap:=s.heap.push { cls:=.type "list",data:=.seq #[] } }) F.called_list (F.typeCall_list_1 _) F.entry_list_init (code_list_new _ ⟨rfl,rfl⟩) fun obj s₁ h₁=>?_
 obtain ⟨rfl,rfl⟩:=h₁
 have hS:(s.heap.push { cls:=.type "list",data:=.seq #[] }).get? s.heap.objs.size=some { cls:=.type "list",data:=.seq #[] }:=Heap.get?_push_size _ rfl
 refine ⟨⟨_,hS,rfl⟩,F.args_list_init_2 _ _,?_⟩
 show wpAny _ _ (do let old <- Builtin.List.listItems (.ref s.heap.objs.size); Builtin.List.listUpdate (.ref s.heap.objs.size) (fun _=>#[]); letGo old.toList.reverse; Builtin.List.listExtendWith (.ref s.heap.objs.size) (.ref I) .none) _ _ _
 refine wpAny_bind ?_; unfold Builtin.List.listItems; refine wpAny_bind (wpAny_seqItems hS rfl (wpAny_pure ?_))
 show wpAny _ _ (updateSeq s.heap.objs.size (fun _=>#[])>>=fun _=>letGo (#[]:Array Value).toList.reverse>>=fun _=>Builtin.List.listExtendWith (.ref s.heap.objs.size) (.ref I) .none) _ _ _
 refine wpAny_bind (wpAny_updateSeq hS rfl ?_)
 have hS₂:=Heap.get?_update_self (Obj.mapSeq (fun _=>(#[]:Array Value))) hS rfl
 have oth:∀ b o,s.heap.get? b=some o->((s.heap.push { cls:=.type "list",data:=.seq #[] }).update s.heap.objs.size (Obj.mapSeq (fun _=>(#[]:Array Value)))).get? b=some o:=fun b o e=>by
  have hb:b≠s.heap.objs.size:=fun z=>absurd (Heap.lt_size e) (by rw [z]; exact Nat.lt_irrefl _)
  exact (Heap.get?_update_other _ _ (Ne.symm hb)).trans (Heap.get?_push_of_some _ e)
 refine wpAny_bind (wpAny_letGo ?_)
 refine uT (s:={ s with heap:=(s.heap.push { cls:=.type "list",data:=.seq #[] }).update s.heap.objs.size (Obj.mapSeq (fun _=>(#[]:Array Value))) }) .none hh hne ⟨oi,oth _ _ hi,hi2⟩ ⟨ol,oth _ _ hol,hol2⟩ hSI hSl hn hS₂ fun h' tk acc' c' hk hS' hacc=>?_
 refine ⟨rfl,hQ h' tk acc' c' (fun b o hb e=>hk b o (fun z=>absurd (Heap.lt_size e) (by rw [z]; exact Nat.lt_irrefl _)) hb (oth b o e)) hS' hacc⟩
end
end TL
namespace TP
open PySem L2
theorem lF {its:List Value} {acc:Array Value} (h:ItemsOf (fun i v=>its.toArray[its.toArray.size-1-i]?=some v) acc its.toArray.size):acc.toList=its.reverse:=by
 obtain ⟨h1,h2⟩:=h
 have hl:its.toArray.size=its.length:=List.size_toArray
 rw [hl] at h1
 apply List.ext_getElem
 ·rw [Array.length_toList,List.length_reverse,h1]
 ·intro i q1 q2
  have hi:i<acc.size:=by simpa using q1
  have:=h2 i acc[i] (Array.getElem?_eq_getElem hi)
  rw [hl] at this
  rw [List.getElem_reverse,Array.getElem_toList]
  have e:its.toArray[its.length-1-i]?=some (its[its.length-1-i]'(by omega)):=by simp
  rw [e] at this
  exact (Option.some.inj this).symm
section
variable {X:Cx}
def tRv (K:Frag) (f:List V->HO) (ta:TA):TE:=fun σ H Q=>ta σ H fun vs H1=>∃ a xs,vs = [.ref a]/\SqL K H1 a xs/\∀ p,H1 p=none->Q (.ref p) (upd H1 p (f xs.reverse))
theorem tJ {a:Expr} {ta:TA} {p pos p2 pos2:Pos} (hc:X.calm=true) (hgl:Gl X "list") (hml:X.mg "list" = none) (hg:Gl X "reversed") (hm:X.mg "reversed" = none) (ha:PA X [a] ta) (hs:starEach [a] X.env = [(false,eval a X.env)]:=by rfl)
  (hs2:starEach [.Call (.Name "reversed" p2) [a] [] pos2] X.env = [(false,eval (.Call (.Name "reversed" p2) [a] [] pos2) X.env)]:=by rfl):PE X (.Call (.Name "list" p) [.Call (.Name "reversed" p2) [a] [] pos2] [] pos) (tRv X.K .lst ta):=by
 intro pins s σ H Q I h
 refine wpAny_Call_Name_kw (J5 I hgl hml jo ?_ (by decide) (by decide))
 refine PyProof.Rows.callWith_type1 ?_ hs2 (by rfl)
 rw [hs2]
 show wpAny _ _ (spliced [(false,eval (.Call (.Name "reversed" p2) [a] [] pos2) X.env)]) _ _ s
 refine Calls.spliced_cons ?_
 refine wpAny_Call_Name_kw (J5 I hg hm iq ?_ (by decide) (by decide))
 refine PyProof.Rows.callWith_type1 (thn (ha pos2 pins s σ H _ I h) fun us s1 zz84=>?_) hs (by rfl)
 obtain ⟨vs,H1,I1,r1,q1⟩:=zz84
 obtain ⟨b,xs,e,hq,q⟩:=q1
 subst e
 obtain ⟨u,rfl,ru⟩:=V6 r1
 cases ru
 obtain ⟨its,rv,pl,hz⟩:=I1.list hq
 have hl:=rv.length
 have hsz:its.toArray.size<=sizeLine:=by rw [List.size_toArray,<- hl]; exact hz
 obtain ⟨ol,hol,hol2⟩:=id pl.isList
 have hbI:b≠s1.heap.objs.size:=fun z=>absurd (Heap.lt_size hol) (by rw [z]; exact Nat.lt_irrefl _)
 refine call_reversed_list pl.isList (Calls.spliced_nil ?_)
 refine TL.call_list_rev (s:={ s1 with heap:=s1.heap.push (revObj b ((its.toArray.size:Int)-1)) }) (I1.ok.hd hc) hbI ⟨_,Heap.get?_push_size _ rfl,rfl,rfl⟩ ⟨ol,Heap.get?_push_of_some _ hol,hol2⟩ hsz fun h' tk acc' c' hk hS hacc=>?_
 have e1:=lF hacc
 have hkeep:∀ b o,s1.heap.get? b=some o->h'.get? b=some o:=fun b o e=>hk b o (fun z=>absurd (Heap.lt_size e) (by rw [z]; exact Nat.lt_irrefl _)) (Heap.get?_push_of_some _ e)
 have hge:s1.heap.objs.size<=(s1.heap.push (revObj b ((its.toArray.size:Int)-1))).objs.size:=by rw [show (s1.heap.push (revObj b ((its.toArray.size:Int)-1))).objs.size=s1.heap.objs.size+1 from by simp [Heap.push]]; omega
 refine ⟨.ref (s1.heap.push (revObj b ((its.toArray.size:Int)-1))).objs.size,_,I1.laid (t':=tk) hkeep hge (show ObjOk X.prog X.w _ h' _ (.lst xs.reverse) from ⟨by rw [List.length_reverse]; exact hz,its.reverse,c',Vals.reverse rv,?_⟩),rfl,q _ (I1.hok.fresh hge)⟩
 rw [<- e1]; simpa using hS
end
def cI:List W->R W
 | [w]=>match w with
  | .lst ws=>chks false ws.reverse
  | _=>.stuck
 | _=>.stuck
section
variable {K:Frag} {EX:EXT} {σ:St} {H:Hp} {Q:VK}
theorem zZ {ma:Rho->R (List W)} (h:tM K EX .F (bA cI ma) σ H Q):tRv K .lst (tA K EX .B ma) σ H Q:=by
 obtain ⟨H0,G,ρ,I,o⟩:=h
 replace o:Out EX G H (mdW K .F H0 H) (ma ρ>>=cI) Q:=o
 refine ⟨H0,G,ρ,I,Out.bind o fun xs G1 H1 ws e1 m1 o1=>?_⟩
 have I1:=I.ext e1
 cases m1 with
 | nil=>exact o1.elim
 | cons a t=>
  cases t with
  | cons _ _=>exact o1.elim
  | nil=>
   rename_i w v
   cases w <;> first | exact o1.elim | skip
   rename_i us
   obtain ⟨p,vs,rfl,hs,r⟩:=a.lstB I1
   exact ⟨p,vs,rfl,SqL.of hs,Out.chks I1 e1.hh (c:=false) (by rw [if_neg Bool.false_ne_true]; exact r.reverse) o1⟩
end
section
variable {X:Cx} {K:Frag} {EX:EXT} {a:Expr} {pos:Pos} {mr:Rho->R (List W)}
theorem xb {p p2 pos2:Pos} (hc:X.calm=true) (hgl:Gl X "list") (hml:X.mg "list" = none) (hg:Gl X "reversed") (hm:X.mg "reversed" = none) (ha:PA X [a] (tA K EX .B mr)) (hK:X.K=K:=by rfl) (hs:starEach [a] X.env = [(false,eval a X.env)]:=by rfl)
  (hs2:starEach [.Call (.Name "reversed" p2) [a] [] pos2] X.env = [(false,eval (.Call (.Name "reversed" p2) [a] [] pos2) X.env)]:=by rfl):PE X (.Call (.Name "list" p) [.Call (.Name "reversed" p2) [a] [] pos2] [] pos) (tM K EX .F (bA cI mr)):=by
 subst hK; exact (tJ hc hgl hml hg hm ha hs hs2).mono fun _ _ _ q=>zZ q
end
theorem je (ns:List Int):cI [.lst (ns.map W.int)]=.ok (.lst (ns.reverse.map W.int)):=by
 have hn:∀ l:List Int,g4 (l.map W.int)=true:=fun l=>by induction l with | nil=>rfl | cons a l ih=>simpa [g4,noL] using ih
 show TP.chks false (ns.map W.int).reverse=_
 rw [<- List.map_reverse]
 unfold TP.chks
 rw [hn,Bool.or_true,if_pos rfl]
end TP
namespace TP
open PySem L2
def dr (u:W) (ws:List W):Option Nat:=(pds ws).findIdx? fun y=>PyData.eqv y (pd u)
def fy (K:Frag):V->List V->Hp->VK->Prop:=fun x vs H Q=>∃ u ws y j,vs = [y]/\Rep K H y u/\Rep K H x (.lst ws)/\shp 8 u=true/\shp 8 (.lst ws)=true/\dr u ws=some j/\j<1000/\Q (.int (j:Int)) H
section
variable {X:Cx}
theorem pE (hu:X.A.units+64<cLine):MtR X "list.index" (fy X.K):=by
 intro pins s σ H x vs v us Q I rx rv h
 obtain ⟨u,ws,y,j,rfl,ry,rc,su,sc,hj,hj1,q⟩:=h
 obtain ⟨uy,rfl,rr⟩:=rv.one
 obtain ⟨as,qa⟩:=Rep.reads I 8 ry su rr
 obtain ⟨bs,qb⟩:=Rep.reads I 8 rc sc rx
 have la:=fh u 8 su
 have lc:=sw ws 7 sc
 have hm:X.A.units+1+min (PyData.depthAll (pds ws)) (pd u).depth<cLine:=by have:=Nat.min_le_left (PyData.depthAll (pds ws)) (pd u).depth; omega
 have qb:Reads s.heap v (.list (pds ws)) bs:=qb
 cases qb with
 | list h1 h2 h3 h4=>
  rename_i a o items n as'
  obtain ⟨oc,od,odt,osl⟩:=o
  have h2:oc=.type "list" := h2
  have h3:odt=.seq items n:=h3
  subst h2 h3
  have hmap:=SeqAt.readsAll_map (pds ws) _ _ lc.1 h4
  have heq:=SeqAt.items_eqAt (A:=X.A) h4 qa lc.1 la.1 hm
  unfold dr at hj
  rw [<- hmap,List.findIdx?_map,List.findIdx?_eq_some_iff_getElem] at hj
  obtain ⟨hlt,ht,hno⟩:=hj
  have hlt':j<items.size:=by simpa using hlt
  refine call_meets PySem.F.slot_list_index ⟨_,h1,rfl⟩ PySem.F.entry_list_index (PySem.F.args_list_index_2 _ _) (SeqAt.list_indexAt a items n od osl uy (fun z=>PyData.eqv (SeqAt.readOf s.heap z) (pd u)) j hlt' (by omega) (by simpa using ht) (fun m hm1 hm2=>by simpa using hno m hm2)) ⟨h1,heq,?_⟩
  exact ⟨.int (j:Int),H,I.tok _,⟨_,rfl⟩,q⟩
end
def gw (ws:List W) (u:W):R W:=if (shp 8 u&&shp 8 (.lst ws))=true then (match dr u ws with
 | some j=>if j<1000 then .ok (.int (j:Int)) else .stuck
 | none=>.stuck) else .stuck
def Rix (x:R W) (y:R W):R W:=x>>=fun x=>(match x with
 | .lst ws=>y>>=fun y=>gw ws y
 | _=>.stuck)
def gm (mo me:Rho->R W):Rho->R W:=fun ρ=>Rix (mo ρ) (me ρ)
theorem ja (mo me:Rho->R W) (ρ:Rho):gm mo me ρ=Rix (mo ρ) (me ρ):=rfl
theorem nS (ws:List W) (u:W):Rix (.ok (.lst ws)) (.ok u)=gw ws u:=rfl
section
variable {K:Frag} {EX:EXT} {d:Mode} {σ:St} {H:Hp} {Q:VK}
theorem ve {mo me:Rho->R W} (h:tM K EX d (gm mo me) σ H Q):tBM K "list" (fy K) (tM K EX .B mo) (tA K EX .B (aC me aN)) σ H Q:=by
 obtain ⟨H0,G,ρ,I,o⟩:=h
 unfold gm Rix at o
 refine ⟨H0,G,ρ,I,Out.bind o fun x G1 H1 w e1 m1 o1=>?_⟩
 have I1:=I.ext e1
 cases w <;> first | exact o1.elim | skip
 rename_i ws
 obtain ⟨p,vs,rfl,hs,_⟩:=m1.lstB I1
 refine ⟨.inl ⟨rfl,vs,SqL.of hs⟩,H0,G1,ρ,I1,?_⟩
 have key:Out EX G1 H1 (mdW K .B H0 H1) (me ρ) fun y H2=>fy K (.ref p) [y] H2 Q:=Out.bind (md:=mdW K .B H0 H1) o1 fun y G2 H2 u e2 m2 o2=>by
  have I2:=I1.ext e2
  unfold gw at o2
  by_cases c:(shp 8 u&&shp 8 (.lst ws))=true
  ·rw [if_pos c] at o2
   have c':shp 8 u=true/\shp 8 (.lst ws)=true:=by simpa using c
   cases hj:dr u ws with
   | none=>rw [hj] at o2; exact o2.elim
   | some j=>
    rw [hj] at o2
    by_cases hl:j<1000
    ·dsimp only at o2
     rw [if_pos hl] at o2
     exact ⟨u,ws,y,j,rfl,m2.whole I2,(m1.move e2).whole I2,c'.1,c'.2,hj,hl,o2 _ G2 H2 (Ext.refl I2.gh) (Md.sca rfl (fun _=>.int) d)⟩
    ·dsimp only at o2
     rw [if_neg hl] at o2; exact o2.elim
  ·rw [if_neg c] at o2; exact o2.elim
 show Out EX G1 H1 (mdA K .B H0 H1) (me ρ>>=fun w=>aN ρ>>=fun ws=>.ok (w::ws)) _
 revert key
 cases me ρ with
 | stuck=>exact id
 | ex e=>exact id
 | ok u=>
  intro key v G2 H2 e2 m2
  cases m2 with
  | cons a t=>cases t; exact key _ G2 H2 e2 a
end
section
variable {X:Cx} {K:Frag} {EX:EXT} {d:Mode} {o e:Expr} {apos cpos:Pos} {mo me:Rho->R W}
theorem tu (hu:X.A.units+64<cLine) (ho:PE X o (tM K EX .B mo)) (he:PE X e (tM K EX .B me)) (hK:X.K=K:=by rfl)
  (hbase:attributeBase o "index" X.env (eval o X.env)=eval o X.env:=by rfl)
  (hfew:((backTo cpos (starEach [e] X.env)).all (fun x=>!x.1)&&(backToKw cpos (keywordEach [] X.env)).all (fun x=>x.1.isSome)
   && decide (([e]:List Expr).length+([]:List Keyword).length+(if ([]:List Keyword).isEmpty then 0 else 1)<30))=true:=by rfl)
  (hline:(apos.endLine == cpos.line)=true:=by rfl) (hs:starEach [e] X.env=(false,eval e X.env)::starEach [] X.env:=by rfl) (hplain:(backTo cpos (starEach [] X.env)).any (·.1)=false:=by rfl) :
  PE X (.Call (.Attribute o "index" apos) [e] [] cpos) (tM K EX d (gm mo me)):=by
 subst hK; exact (AS PySem.F.plainAttrs_list PySem.F.slot_list_index PySem.F.type_list_index (pE hu) ho (b7 he b9 hs) hbase hfew hline hs hplain).mono fun _ _ _ q=>ve q
end
end TP
namespace TP
open PySem L2
def OutW (K:Frag) (EX:EXT) (d:Mode) (H0:Hp) (r:R Fl) (D:Ends):Prop:=match r with
 | .ok (.nx ρ)=>∀ G' σ' H',PIv K H0 G' ρ σ' H'->D.nx σ' H'
 | .ok (.bk ρ)=>∀ G' σ' H',PIv K H0 G' ρ σ' H'->D.bk σ' H'
 | .ok (.ct ρ)=>∀ G' σ' H',PIv K H0 G' ρ σ' H'->D.ct σ' H'
 | .ok (.rt w)=>∀ v G' H',Same G' H'->Same H0 H'->(∀ a o,H0 a=some o->isL o=true->G' a=none)->Md K H0 H0 G' H' v w d->D.rt v H'
 | .ex e=>∀ H',Same H0 H'->EX e H'
 | .stuck=>False
def tStW (K:Frag) (EX:EXT) (d:Mode) (m:Rho->R Fl):TS:=fun D σ H=>∃ H0 G ρ,PIv K H0 G ρ σ H/\OutW K EX d H0 (m ρ) D
section
variable {K:Frag} {EX:EXT} {H0 G H G1 H1 G2 H2:Hp} {ρ:Rho} {σ:St} {d:Mode} {D:Ends}
theorem XD.away {l:Addr} {vs:List V} {o:HO} (gl:G l=some (.lst vs)) {od:Option Addr}:∀ {i:Option Int},XD G od i->XD (upd G l o) od i
 | none,h=>h
 | some _,⟨d,h1,h2⟩=>⟨d,h1,by
  rw [c7]
  ·exact h2
  ·rintro rfl; rw [gl] at h2; cases h2⟩
theorem Rep.away {l:Addr} {vs:List V} {o:HO} (gl:G l=some (.lst vs)) {v:V} {w:W} (r:Rep K G v w):noL w=true->Rep K (upd G l o) v w:=
 @Rep.rec K G (fun v w _=>noL w=true->Rep K (upd G l o) v w) (fun vs ws _=>g4 ws=true->Reps K (upd G l o) vs ws) (fun _=>.non) (fun _=>.bl) (fun _=>.int) (fun _=>.str) (fun _=>.ty)
  (fun h _ r n=>.tup (by rw [c7]; exact h; rintro rfl; rw [gl] at h; cases h) (r n)) (fun _ _ _ n=>by cases n) (fun _ _ _ n=>by cases n) (fun h1 h2 h3 h4 h5 _=>.exc (by rw [c7]; exact h1; rintro rfl; rw [gl] at h1; cases h1) h2 h3 h4 (XD.away gl h5)) (fun h _=>.cls h) (fun _=>.nil)
  (fun _ _ a b n=>by rw [g4,Bool.and_eq_true] at n; exact .cons (a n.1) (b n.2)) v w r
theorem Reps.away {l:Addr} {vs:List V} {o:HO} (gl:G l=some (.lst vs)) {us:List V} {ws:List W} (r:Reps K G us ws):g4 ws=true->Reps K (upd G l o) us ws:=
 @Reps.rec K G (fun _ _ _=>True) (fun vs ws _=>g4 ws=true->Reps K (upd G l o) vs ws) trivial trivial trivial trivial trivial (fun _ _ _=>trivial) (fun _ _ _=>trivial) (fun _ _ _=>trivial) (fun _ _ _ _ _=>trivial) (fun _=>trivial) (fun _=>.nil)
  (fun h _ _ b n=>by rw [g4,Bool.and_eq_true] at n; exact .cons (Rep.away gl h n.1) (b n.2)) us ws r
theorem Y3 {H:Hp} {a:Addr} {o:HO}:upd H a o a=some o:=by unfold upd; rw [if_pos rfl]
theorem Reps.subst {l:Addr} {vs vs':List V} {ws':List W} (gl:G l=some (.lst vs)) (rv:Reps K G vs' ws') (hw:g4 ws'=true):∀ {us0:List V} {us:List W} {j:Nat},Reps K G us0 us->us0[j]?=some (.ref l)->g4 (us.set j .non)=true->Reps K (upd G l (.lst vs')) us0 (us.set j (.lst ws'))
 | _,_,_,.nil,e,_=>by simp at e
 | _,_,0,.cons (v:=v) (w:=w) (ws:=ws) h r,e,n=>by
  have e:v=V.ref l:=by simpa using e
  subst e
  have n':g4 ws=true:=by simpa [g4,noL] using n
  exact .cons (.lst Y3 (Reps.away gl rv hw)) (Reps.away gl r n')
 | _,_,j+1,.cons (w:=w) (ws:=ws) h r,e,n=>by
  have n':noL w=true/\g4 (ws.set j .non)=true:=by simpa [g4] using n
  exact .cons (Rep.away gl h n'.1) (Reps.subst gl rv hw r (by simpa using e) n'.2)
def clS:Sl->Sl
 | .un=>.un
 | .val w=>if noL w=true then .val w else .un
 | .par w=>if noL w=true then .val w else .un
 | .own ws=>if g4 ws=true then .own ws else .un
 | .dic ks=>.dic ks
 | .dik ks=>.dik ks
 | .iop p ws=>if g4 ws=true then .iop p ws else .un
 | .hz _=>.un
def subS (i j:Nat) (us ws':List W) (ρ:Rho):Rho:=(ρ.map clS).set i (.val (.tup (us.set j (.lst ws'))))
def bO (j:Nat) (us ws':List W):Bool:=g4 (us.set j .non)&&g4 ws'&&decide (ws'.length<=1000)
end
section
variable {X:Cx} {K:Frag} {EX:EXT} {d:Mode} {e:Expr} {pos:Pos} {ma:Rho->R W} {m n:Rho->R Fl} {ta:Rho->R Bool} {st:Stmt} {sts:List Stmt}
end
end TP
namespace TP
open PySem L2
set_option maxHeartbeats 2000000
section
variable {X:Cx} {K:Frag}
end
section
variable {K:Frag}
end
end TP
namespace TP
open PySem L2
def Hx (p:Addr) (H0 H1:Hp):Prop:=(∀ a,a≠p->H1 a=H0 a)/\∃ vs,H1 p=some (.lst vs)
def BT (K:Frag) (EX:EXT) (p:Addr) (H0:Hp) (r:R Fl) (D:Ends):Prop:=match r with
 | .ok (.nx ρ)=>∀ H0' G' σ' H',Hx p H0 H0'->PIv K H0' G' ρ σ' H'->D.nx σ' H'
 | .ok (.bk ρ)=>∀ H0' G' σ' H',Hx p H0 H0'->PIv K H0' G' ρ σ' H'->D.rt .non H'
 | .ex e=>∀ H',EX e H'
 | _=>False
def tStI (K:Frag) (EX:EXT) (p:Addr) (m:Rho->R Fl):TS:=fun D σ H=>∃ H0 G ρ,PIv K H0 G ρ σ H/\(∃ vs,H0 p=some (.lst vs))/\BT K EX p H0 (m ρ) D
def nbR:R Fl->R Fl
 | .ok (.nx ρ)=>.ok (.nx ρ)
 | .ex e=>.ex e
 | _=>.stuck
def nb (m:Rho->R Fl):Rho->R Fl:=fun ρ=>nbR (m ρ)
section
variable {K:Frag} {EX:EXT} {H0 H0' G H G1 H1 G2 H2:Hp} {ρ:Rho} {σ:St} {d:Mode} {D:Ends} {p:Addr}
def clI:Sl->Sl
 | .un=>.un
 | .val w=>.val w
 | .par w=>if noL w=true then .val w else .un
 | .own ws=>.own ws
 | .dic ks=>.dic ks
 | .dik ks=>.dik ks
 | .iop _ _=>.un
 | .hz _=>.un
theorem uX {s:Sl} {ws:List W} (h:clI s=.own ws):s=.own ws:=by
 cases s with
 | un=>cases h
 | val w=>cases h
 | par w=>
  by_cases c:noL w=true
  ·rw [clI,if_pos c] at h; cases h
  ·rw [clI,if_neg c] at h; cases h
 | own us=>exact h
 | dic ks=>cases h
 | dik ks=>cases h
 | iop q us=>cases h
 | hz _=>cases h
def ioR (p:Addr) (ρ:Rho):R (List W):=match (ρ[1]?:Option Sl) with
 | some (.iop q cs)=>if q=p then .ok cs else .stuck
 | _=>.stuck
def AG (n N:Nat) (m:Addr->Rho->R Fl) (p:Addr) (w1:W) (cs wr:List W):R (List W):=if wr.length+2=n/\g4 cs=true then (match m p (.par w1::.iop p cs::(wr.map Sl.par++List.replicate (N-n) Sl.un)) with
 | .ok (.nx ρ)=>ioR p ρ
 | .ok (.bk ρ)=>ioR p ρ
 | _=>.stuck) else .stuck
open Classical in
def runIOA (n N:Nat) (m:Addr->Rho->R Fl) (w1:W) (cs wr:List W):R (List W):=if h:∃ cs',∀ p,AG n N m p w1 cs wr=.ok cs' then .ok (Classical.choose h) else .stuck
end
section
variable {X:Cx} {K:Frag} {EX:EXT} {d:Mode} {e:Expr} {es:List Expr} {pos:Pos} {ma:Rho->R W} {m n:Rho->R Fl} {ta:Rho->R Bool} {st:Stmt} {sts:List Stmt} {p:Addr} {mr:Rho->R (List W)}
end
end TP
namespace TP
open PySem L2
section
variable {K:Frag} {EX:EXT} {H0 G H:Hp} {ρ:Rho} {σ:St}
end
section
variable {X:Cx} {K:Frag} {e:Expr} {es:List Expr} {pos:Pos} {mr:Rho->R (List W)}
end
end TP
namespace TP
open PySem L2
section
variable {X:Cx}
end
def mIns (i:Nat) (m:Rho->R W):Rho->R Fl:=fun ρ=>match ρ[i]? with
 | some (.own ws)=>m ρ>>=fun w=>if ws.length<1000 then .ok (.nx (ρ.set i (.own (w::ws)))) else .stuck
 | _=>.stuck
section
variable {K:Frag} {EX:EXT} {H0 G H:Hp} {ρ:Rho} {σ:St} {d:Mode} {D:Ends}
end
section
variable {X:Cx} {K:Frag} {EX:EXT} {d:Mode} {e:Expr} {pos:Pos} {ma:Rho->R W}
end
end TP
namespace TP
open PySem L2
section
open PySem.W PyProof.Rows
variable {prog:Program} {w:World} {A:Around} {E:Value->Shared->Prop} {s:Shared}
theorem items_int:∀ {xs:List Int} {its:List Value},Vals (xs.map V.int) its->ItemsAre (intKind prog w) xs its:=by
 intro xs
 induction xs with
 | nil=>intro its h; cases h; exact .nil
 | cons x xs ih=>
  intro its h
  cases h with
  | cons r t=>
   obtain ⟨tk,rfl⟩:=r
   exact .cons (by simp [intKind,Value.isInt]) (ih t)
end
end TP
namespace TP
open PySem L2
section
variable {X:Cx} {pins:List (Addr×Obj)} {σ:L2.St} {H:Hp} {s:Shared}
end
section
open PySem.W PyProof.Rows
variable {Y:Cx} {K:Frag} {pn:List (Addr×Obj)} {σ:L2.St}
end
end TP
namespace TP
open PySem L2
section
open PySem.W PyProof.Rows
variable {Y:Cx} {K:Frag} {pins:List (Addr×Obj)} {σ:L2.St}
end
section
open PySem.W PyProof.Rows
variable {X:Cx} {K:Frag}
end
section
variable {K:Frag}
end
section
variable {X:Cx} {K:Frag} {EX:EXT} {e:Expr} {pos:Pos} {mr:Rho->R (List W)}
end
end TP
namespace TP
open PySem L2
section
open PySem.W PyProof.Rows
variable {X:Cx} {e:Expr} {te:TE} {st:Expr} {tk:TO} {pos p2:Pos}
end
section
variable {K:Frag} {EX:EXT} {σ:St} {H:Hp} {Q:VK}
end
section
variable {X:Cx} {K:Frag} {EX:EXT} {e:Expr} {pos:Pos} {ma:Rho->R W}
end
end TP
namespace TP
open PySem L2
section
variable {K:Frag} {EX:EXT} {H0 G H:Hp} {ρ:Rho} {σ:St} {d:Mode} {D:Ends}
end
section
variable {X:Cx} {K:Frag} {EX:EXT} {d:Mode} {e:Expr} {pos:Pos} {ma:Rho->R W}
end
end TP
namespace TP
open PySem L2
section
variable {K:Frag} {EX:EXT} {H0 G H G1 H1 F:Hp} {ρ:Rho} {σ:St} {d:Mode} {D:Ends}
end
section
variable {X:Cx} {K:Frag} {EX:EXT} {d:Mode} {e k v:Expr} {pos:Pos} {mk me:Rho->R W}
end
end TP
namespace TP
open PySem PyProof.Rows
def kk (rk:Keyed->Int) (xs:Array Keyed) (i:Nat):Int:=match xs[i]? with
 | some p=>rk p
 | none=>0
theorem sb1 {A n:Nat} (h0:0<n) (h:n<=A):A-(n-1)=A-n+1:=by
 cases n with
 | zero=>exact absurd h0 (Nat.lt_irrefl _)
 | succ m=>exact (Nat.succ_pred_eq_of_pos (Nat.sub_pos_of_lt h)).symm
theorem sb2 {A n k:Nat} (h:n<=A) (hk:k<=n):A-k=A-n+(n-k):=(Nat.sub_add_sub_cancel h hk).symm
theorem sb3 {lo x q k:Nat} (hq:q<=x) (h:lo+x-q<=k):x-q<=k-lo:=by rw [Nat.add_sub_assoc hq] at h; exact Nat.le_sub_of_add_le' h
theorem sb4 {lo x q k:Nat} (hq:q<=x) (h:lo+x-q<=k):lo+(k-lo)=k:=Nat.add_sub_cancel' (Nat.le_trans (by rw [Nat.add_sub_assoc hq]; exact Nat.le_add_right _ _) h)
theorem sb5 {lo j:Nat} (h:0<j):lo+(j-1)=lo+j-1:=(Nat.add_sub_assoc h lo).symm
section
variable {prog:Program} {w:World} {A:Around} {E:Value->Shared->Prop} {s:Shared} {a₀:Array Keyed} {κ:SortKind} {rk:Keyed->Int}
end
def upL (rk:Keyed->Int) (l:List Keyed):Prop:=l.Pairwise fun x y=>rk x<=rk y
structure Mg (rk:Keyed->Int) (t:List Keyed) (out ra rb:List Keyed):Prop where
 perm:(out++(ra++rb)).Perm t
 up:upL rk out
 le:∀ x∈out,∀ y∈ra++rb,rk x<=rk y
def Gd (rk:Keyed->Int) (t res:List Keyed):Prop:=res.Perm t/\upL rk res
section
variable {rk:Keyed->Int} {t out p ra rb:List Keyed}
end
section
variable {prog:Program} {w:World} {A:Around} {E:Value->Shared->Prop} {s:Shared} {a₀:Array Keyed} {κ:SortKind} {rk:Keyed->Int}
abbrev gS (st:SortSt) (g:Nat):SortSt:=SortSt.mk' (kindOf st) (arrOf st) (pendingOf st) g (failedOf st)
end
section
variable {prog:Program} {w:World} {A:Around} {E:Value->Shared->Prop} {s:Shared} {a₀:Array Keyed} {κ:SortKind} {rk:Keyed->Int}
abbrev rn (rk:Keyed->Int) (x:Keyed):Int:=-rk x
abbrev rv (a:Array Keyed):List Keyed:=a.toList.reverse
end
section
variable {prog:Program} {w:World} {A:Around} {E:Value->Shared->Prop} {s:Shared} {a₀:Array Keyed} {κ:SortKind} {rk:Keyed->Int}
end
section
variable {prog:Program} {w:World} {A:Around} {E:Value->Shared->Prop} {s:Shared} {a₀:Array Keyed} {κ:SortKind} {rk:Keyed->Int} {arr:Array Keyed} {pd:Array (Nat×Nat×Nat)} {g lo:Nat}
structure Rl (lo:Nat) (arr arr':Array Keyed):Prop where
 perm:arr'.toList.Perm arr.toList
 same:∀ k,k<lo->arr'[k]?=arr[k]?
end
section
variable {prog:Program} {w:World} {A:Around} {E:Value->Shared->Prop} {s:Shared} {a₀:Array Keyed} {κ:SortKind} {rk:Keyed->Int} {arr:Array Keyed} {pd:Array (Nat×Nat×Nat)} {g lo:Nat}
end
end TP
namespace TP
open PySem L2
section
open PySem.W PyProof.Rows
variable {prog:Program} {w:World} {A:Around} {E:Value->Shared->Prop} {s:Shared}
open Classical in
def rkV (vs:List Value) (ss:List (List Int)) (p:Keyed):Int:=if h:∃ i,i<vs.length/\vs.getD i Value.none=p.1 then AH ss h.choose else 0
end
section
variable {X:Cx} {K:Frag}
end
section
variable {K:Frag}
end
end TP
namespace TP
open PySem L2
section
variable {K:Frag} {EX:EXT} {H0 G H G1 H1 F:Hp} {ρ:Rho} {σ:St} {d:Mode} {D:Ends}
end
section
variable {X:Cx} {K:Frag} {d:Mode} {e:Expr} {es:List Expr} {pos:Pos} {mr:Rho->R (List W)}
end
end TP
namespace TP
open PySem L2
section
variable {K:Frag} {EX:EXT} {X:Cx} {tg e:Expr} {ma:Rho->R W}
end
end TP
namespace TP
open PySem L2
def cP (H:Hp):Prop:=∀ a vs,H a≠some (.lst vs)
def OutN (K:Frag) (d:Mode) (Hb:Hp) (r:R Fl) (D:Ends):Prop:=match r with
 | .ok (.nx ρ)=>∀ H0 G' σ' H',Same Hb H0->PIv K H0 G' ρ σ' H'->D.nx σ' H'
 | .ok (.rt w)=>∀ v G' H',Same G' H'->Same Hb H'->(∀ a o,Hb a=some o->isL o=true->G' a=none)->Md K Hb Hb G' H' v w d->D.rt v H'
 | _=>False
def tStN (K:Frag) (EX:EXT) (d:Mode) (m:Rho->R Fl):TS:=fun D σ H=>∃ Hb H0 G ρ,cP Hb/\Same Hb H0/\PIv K H0 G ρ σ H/\OutN K d Hb (m ρ) D
section
variable {K:Frag} {EX:EXT} {Hb H0 G H G1 H1 G2 H2:Hp} {ρ:Rho} {σ:St} {d:Mode} {D:Ends}
theorem Md.down {G' H':Hp} {v:V} {w:W} (hd:d=.F\/d=.V) (s:Same Hb H0) (m:Md K H0 H0 G' H' v w d):Md K Hb Hb G' H' v w d:=by
 rcases hd with rfl | rfl
 ·cases w with
  | lst ws=>obtain ⟨a,vs,e,h1,h2,h3,r⟩:=m; exact ⟨a,vs,e,h1,h2,s.free h3,r⟩
  | _=>exact m
 ·exact m
theorem tStN.toS {m:Rho->R Fl} (hd:d=.F\/d=.V) (h:tStN K EX d m D σ H):tSt K EX d m D σ H:=by
 obtain ⟨Hb,H0,G,ρ,_,s,I,o⟩:=h
 refine ⟨H0,G,ρ,I,?_⟩
 revert o
 cases m ρ with
 | stuck=>exact fun o=>o.elim
 | ex e=>exact fun o=>o.elim
 | ok f=>
  cases f with
  | nx ρ'=>exact fun o G' σ' H' _ I'=>o H0 G' σ' H' s I'
  | bk ρ'=>exact fun o=>o.elim
  | ct ρ'=>exact fun o=>o.elim
  | rt w=>exact fun o v G' H' _ s1 s2 c md=>o v G' H' s1 (s.trans s2) (fun a o e l=>c a o (s a o e) l) (md.down hd s)
theorem OutN.bind {α β:Type} {md:α->β->Hp->Hp->Prop} {m:R α} {k:α->R Fl} {Q1:β->Hp->Prop} (o:OutN K d Hb (m>>=k) D)
  (h:∀ x G1 H1 w,Ext G H G1 H1->md w x G1 H1->OutN K d Hb (k w) D->Q1 x H1):Out EX G H md m Q1:=by
 cases m with
 | ok w=>exact fun v G' H' e q=>h v G' H' w e q o
 | ex e=>exact o.elim
 | stuck=>exact o.elim
theorem zT {m n:Rho->R Fl} (h:tStN K EX d (e8 m n) D σ H):oq (tStN K EX d m) (tStN K EX d n) D σ H:=by
 obtain ⟨Hb,H0,G,ρ,nb,s,I,o⟩:=h
 refine ⟨Hb,H0,G,ρ,nb,s,I,?_⟩
 unfold e8 at o
 revert o
 cases m ρ with
 | stuck=>exact id
 | ex e=>exact id
 | ok f=>
  cases f with
  | nx ρ'=>exact fun o H0' G' σ' H' s' I'=>⟨Hb,H0',G',ρ',nb,s',I',o⟩
  | _=>exact id
theorem By {c:Rho->R Bool} {m n:Rho->R Fl} (h:tStN K EX d (mIf c m n) D σ H):ot (tT K EX c) (tStN K EX d m) (tStN K EX d n) D σ H:=by
 obtain ⟨Hb,H0,G,ρ,nb,s,I,o⟩:=h
 refine ⟨H0,G,ρ,I,OutN.bind o fun x G1 H1 w e1 m1 o1=>?_⟩
 cases m1
 cases x with
 | true=>exact ⟨Hb,H0,G1,ρ,nb,s,I.ext e1,o1⟩
 | false=>exact ⟨Hb,H0,G1,ρ,nb,s,I.ext e1,o1⟩
def jD (K:Frag) (n:Nat) (d:Mode) (f:List W->R W):Sp:=fun vs H Q E=>vs.length=n/\cP H/\spM K n d f vs H Q E
theorem vg {n:Nat} {Nl:List Str} {m:Rho->R Fl} {vs:List V} {Q:VK} {E:XK} (h:jD K n d (g7 n Nl.length m) vs H Q E):tStN K (fun _ _=>False) d m { nx:=fun _ H'=>Q .non H',rt:=Q } (L2.start Nl vs) H:=by
 obtain ⟨_,nb,hl,ws,r,o⟩:=h
 have hw:ws.length=n:=by rw [<- r.length]; exact hl
 unfold g7 at o
 rw [if_pos hw] at o
 refine ⟨H,H,ad H,_,nb,Same.refl H,PIv.begin (k:=Nl.length-n) r (by rw [hl]),?_⟩
 revert o
 cases m (ws.map Sl.par++List.replicate (Nl.length-n) Sl.un) with
 | stuck=>exact id
 | ex e=>exact fun o=>(o H (Same.refl H)).elim
 | ok f=>
  cases f with
  | nx ρ'=>exact fun o H0' G' σ' H' s I'=>o .non G' H' (s.trans I'.hh) I'.gh (fun a o e l=>I'.gl a o (s a o e) l) (Md.sca rfl (fun _=>.non) d)
  | rt w=>exact fun o v G' H' s1 s2 c md=>o v G' H' s2 s1 c md
  | bk _=>exact fun o=>o.elim
  | ct _=>exact fun o=>o.elim
def sCN (i:Nat) (f:List W->R W) (ma:Rho->R (List W)):Rho->R Fl:=fun ρ=>ma ρ>>=fun ws=>f ws>>=fun w=>.ok (.nx (ρ.set i (.hz w)))
def C6 (H0 G':Hp):Hp:=fun a=>match H0 a with
 | some o=>some o
 | none=>(match G' a with
  | some o=>if isL o then some o else none
  | none=>none)
theorem PIv.put {i:Nat} {s:Sl} {o:Option V} (I:PIv K H0 G ρ σ H) (r:SlR K H0 G H s o) (no:∀ ws,s≠.own ws):PIv K H0 G (ρ.set i s) (σ.set i o) H where
 g0:=I.g0
 gl:=I.gl
 gh:=I.gh
 hh:=I.hh
 len:=by rw [List.length_set,List.length_set]; exact I.len
 sl k x u h1 h2:=by
  by_cases e:i=k
  ·subst e
   have hi:i<ρ.length:=by
    have:=(List.getElem?_eq_some_iff.mp h1).1
    rwa [List.length_set] at this
   rw [List.getElem?_set_self hi] at h1
   rw [List.getElem?_set_self (by rw [<- I.len]; exact hi)] at h2
   cases h1; cases h2; exact r
  ·rw [List.getElem?_set_ne e] at h1 h2
   exact I.sl k x u h1 h2
 ne p q ws us a hpq h1 h2 h3 h4:=by
  have key:∀ {k:Nat} {u:List W},(ρ.set i s)[k]?=some (.own u)->i≠k/\ρ[k]?=some (.own u):=fun {k u} hk=>by
   by_cases e:i=k
   ·subst e
    have hi:i<ρ.length:=by
     have:=(List.getElem?_eq_some_iff.mp hk).1
     rwa [List.length_set] at this
    rw [List.getElem?_set_self hi] at hk
    cases hk; exact absurd rfl (no u)
   ·exact ⟨e,by rwa [List.getElem?_set_ne e] at hk⟩
  obtain ⟨n1,k1⟩:=key h1
  obtain ⟨n2,k2⟩:=key h2
  rw [List.getElem?_set_ne n1] at h3
  rw [List.getElem?_set_ne n2] at h4
  exact I.ne p q ws us a hpq k1 k2 h3 h4
theorem iS {a:Addr} {o:HO} (h:noLG G a=some o):isL o=false:=by
 unfold noLG at h
 cases q:G a with
 | none=>rw [q] at h; cases h
 | some u=>
  rw [q] at h
  dsimp only at h
  cases hl:isL u
  ·rw [hl] at h; cases h; exact hl
  ·rw [hl] at h; cases h
theorem U5 {a:Addr} {o:HO} (h:G a=some o) (hl:isL o=false):noLG G a=some o:=by
 unfold noLG; rw [h]; dsimp only; rw [hl]; rfl
theorem vf {i n:Nat} {f:List W->R W} {E:XK} {ma:Rho->R (List W)} (hf:∀ ws,f ws≠.stuck->ws.length=n) (h:tStN K EX d (sCN i f ma) D σ H) :
  P0 (jB (spM K n .V f) [] E (tA K EX .B ma)) (B4 i) D σ H:=by
 obtain ⟨Hb,H0,G,ρ,nb,s,I,o⟩:=h
 refine ⟨H0,G,ρ,I,OutN.bind o fun xs G1 H1 ws e1 m1 o1=>?_⟩
 have I1:=I.ext e1
 have r:=MdA.whole I1 m1
 rw [List.append_nil]
 refine ⟨?_,ws,r,?_⟩
 ·rw [r.length]
  refine hf ws fun z=>?_
  rw [z] at o1; exact o1
 ·revert o1
  cases f ws with
  | stuck=>exact id
  | ex e=>exact fun o1=>o1.elim
  | ok w=>
   intro o1 v G' H' sH gH cl md
   -- what stands in both is one
   have one:∀ {a:Addr} {u o:HO},H1 a=some u->G' a=some o->u=o:=fun {a u o} h1 h2=>by
    have:=sH a u h1
    rw [gH a o h2] at this; cases this; rfl
   have newL:∀ {a:Addr} {o:HO},G' a=some o->isL o=true->H1 a=none:=fun {a o} h2 hl=>by
    cases q:H1 a with
    | none=>rfl
    | some u=>
     have:=one q h2
     subst this
     rw [cl a u q hl] at h2; cases h2
   have sB:Same G1 (both G1 (noLG G')):=fun b o q=>by unfold both; rw [q]
   have sHB:Same (both G1 (noLG G')) H':=fun b o q=>by
    unfold both at q
    cases q1:G1 b with
    | none=>rw [q1] at q; exact gH b o (P6 b o q)
    | some u=>rw [q1] at q; cases q; exact sH b _ (I1.gh b _ q1)
   have pl0:Same H0 (C6 H0 G'):=fun b o q=>by unfold C6; rw [q]
   have plN:∀ {a:Addr} {o:HO},H0 a=none->G' a=some o->isL o=true->C6 H0 G' a=some o:=fun {a o} h1 h2 hl=>by unfold C6; rw [h1]; dsimp only; rw [h2]; dsimp only; rw [hl]; rfl
   have plI:∀ {a:Addr} {o:HO},C6 H0 G' a=some o->H0 a=some o\/(H0 a=none/\G' a=some o/\isL o=true):=fun {a o} q=>by
    unfold C6 at q
    cases q0:H0 a with
    | some u=>rw [q0] at q; exact .inl q
    | none=>
     rw [q0] at q
     dsimp only at q
     cases q1:G' a with
     | none=>rw [q1] at q; cases q
     | some u=>
      rw [q1] at q
      dsimp only at q
      cases hl:isL u
      ·rw [hl] at q; cases q
      ·rw [hl] at q; cases q; exact .inr ⟨rfl,rfl,hl⟩
   have plG:∀ {a:Addr} {o:HO},G1 a=some o->(∀ u,H0 a=some u->isL u=false)->∀ u,C6 H0 G' a=some u->isL u=false:=fun {a o} g1 h0 u q=>by
    rcases plI q with q | ⟨_,q,hl⟩
    ·exact h0 u q
    ·have:=newL q hl
     rw [I1.gh a o g1] at this; cases this
   have joinUp:∀ {F1 F2:Hp},Same F1 F2->Same F1 G1->Same (join H0 F1) (join (C6 H0 G') F2):=fun {F1 F2} sF s1 a o q=>by
    unfold join at q ⊢
    cases q0:H0 a with
    | some u=>
     rw [q0] at q
     rw [pl0 a u q0]
     dsimp only at q ⊢
     cases hl:isL u
     ·rw [hl] at q; exact sF a o q
     ·rw [hl] at q; exact q
    | none=>
     rw [q0] at q
     dsimp only at q
     have g1:=s1 a o q
     cases qp:C6 H0 G' a with
     | none=>exact sF a o q
     | some u=>
      dsimp only
      rw [plG g1 (fun u e=>by rw [q0] at e; cases e) u qp]
      exact sF a o q
   have I2:PIv K (C6 H0 G') (both G1 (noLG G')) ρ σ H':=by
    refine ⟨fun a o e l=>?_,fun a o e l=>?_,sHB,fun a o e=>?_,I1.len,fun j x o h1 h2=>?_,I1.ne⟩
    ·rcases plI e with e | ⟨_,_,hl⟩
     ·exact sB a o (I1.g0 a o e l)
     ·rw [l] at hl; cases hl
    ·unfold both
     rcases plI e with e | ⟨h0,g,hl⟩
     ·rw [I1.gl a o e l]
      dsimp only
      unfold noLG
      rw [cl a o (I1.hh a o e) l]
     ·have hn:=newL g hl
      rw [I1.gh.free hn]
      dsimp only
      unfold noLG
      rw [g]; dsimp only; rw [hl]; rfl
    ·rcases plI e with e | ⟨_,g,_⟩
     ·exact sH a o (I1.hh a o e)
     ·exact gH a o g
    ·have own:∀ {a:Addr} {o:HO},H1 a=some o->isL o=true->G1 a=none->H0 a=none->both G1 (noLG G') a=none/\C6 H0 G' a=none:=fun {a o} h1 hl g h0=>by
      have g':=cl a o h1 hl
      refine ⟨?_,?_⟩
      ·unfold both noLG; rw [g]; dsimp only; rw [g']
      ·unfold C6; rw [h0]; dsimp only; rw [g']
     have:=I1.sl j x o h1 h2
     cases x with
     | un=>trivial
     | val w=>obtain ⟨v,e,r⟩:=this; exact ⟨v,e,r.same sB⟩
     | par w=>obtain ⟨v,e,r⟩:=this; exact ⟨v,e,r.same (joinUp sB (Same.refl _))⟩
     | own ws=>
      obtain ⟨a,vs,e,h,g,h0,r⟩:=this
      obtain ⟨x1,x2⟩:=own h rfl g h0
      exact ⟨a,vs,e,sH a _ h,x1,x2,r.same sB⟩
     | dic ks=>
      obtain ⟨a,vs,e,h,g,h0,r⟩:=this
      obtain ⟨x1,x2⟩:=own h rfl g h0
      exact ⟨a,vs,e,sH a _ h,x1,x2,r⟩
     | dik ks=>
      obtain ⟨a,vs,e,h,g,h0,r⟩:=this
      obtain ⟨x1,x2⟩:=own h rfl g h0
      exact ⟨a,vs,e,sH a _ h,x1,x2,r⟩
     | iop p ws=>obtain ⟨e1,vs1,h1',r1⟩:=this; exact ⟨e1,vs1,pl0 _ _ h1',r1.same sB⟩
     | hz w=>obtain ⟨v,e,r⟩:=this; exact ⟨v,e,r.same (joinUp (M6 sB) P6)⟩
   have sJ:Same G' (join (C6 H0 G') (noLG (both G1 (noLG G')))):=fun a o q=>by
    unfold join
    cases hl:isL o with
    | true=>
     have hn:=newL q hl
     rw [plN (I1.hh.free hn) q hl]
     dsimp only
     rw [hl]; rfl
    | false=>
     have hB:both G1 (noLG G') a=some o:=by
      unfold both
      cases q1:G1 a with
      | none=>exact U5 q hl
      | some u=>have:=one (I1.gh a u q1) q; subst this; rfl
     have hN:=U5 hB hl
     cases qp:C6 H0 G' a with
     | none=>exact hN
     | some u=>
      dsimp only
      have:isL u=false:=by
       rcases plI qp with e | ⟨_,g,hl'⟩
       ·have:=one (I1.hh a u e) q; subst this; exact hl
       ·rw [q] at g; cases g; rw [hl] at hl'; cases hl'
      rw [this]; exact hN
   exact o1 _ _ _ _ (s.trans pl0) (I2.put (i:=i) (s:=.hz w) (o:=some v) ⟨v,rfl,Rep.same sJ md⟩ fun ws e=>by cases e)
theorem PIv.clean {p:Addr} {vs vs':List V} (I:PIv K H0 G ρ σ H) (hp:H0 p=some (.lst vs)):PIv K (upd H0 p (.lst vs')) G (ρ.map clI) σ (upd H p (.lst vs')):=by
 have gp:G p=none:=I.gl p _ hp rfl
 refine ⟨fun b o hb hl=>?_,fun b o hb hl=>?_,fun b o hb=>?_,fun b o hb=>?_,by rw [List.length_map]; exact I.len,fun k x o h1 h2=>?_,fun x y u1 u2 c hab h1 h2 h3 h4=>?_⟩
 ·by_cases e:b=p
  ·subst e; rw [Y3] at hb; cases hb; cases hl
  ·rw [c7 e] at hb; exact I.g0 b o hb hl
 ·by_cases e:b=p
  ·subst e; exact gp
  ·rw [c7 e] at hb; exact I.gl b o hb hl
 ·rw [c7 (d9 hb gp)]; exact I.gh b o hb
 ·by_cases e:b=p
  ·subst e; rw [Y3] at hb ⊢; exact hb
  ·rw [c7 e] at hb ⊢; exact I.hh b o hb
 ·rw [List.getElem?_map] at h1
  obtain ⟨s,hs,rfl⟩:=Option.map_eq_some_iff.mp h1
  have old:=I.sl k s o hs h2
  have own:∀ {b:Addr} {u:HO},H b=some u->H0 b=none->upd H p (.lst vs') b=some u/\upd H0 p (.lst vs') b=none:=fun {b u} hb h0b=>by
   have hbl:b≠p:=by rintro rfl; rw [hp] at h0b; cases h0b
   exact ⟨by rw [c7 hbl]; exact hb,by rw [c7 hbl]; exact h0b⟩
  cases s with
  | un=>trivial
  | val w=>exact old
  | par w=>
   rw [clI]
   by_cases c:noL w=true
   ·rw [if_pos c]
    obtain ⟨v,ev,r⟩:=old
    exact ⟨v,ev,Rep.clean I r c⟩
   ·rw [if_neg c]; trivial
  | own ws=>obtain ⟨b,us',eb,hb,hgb,h0b,rb⟩:=old; exact ⟨b,us',eb,(own hb h0b).1,hgb,(own hb h0b).2,rb⟩
  | dic ks=>obtain ⟨b,us',eb,hb,hgb,h0b,rb⟩:=old; exact ⟨b,us',eb,(own hb h0b).1,hgb,(own hb h0b).2,rb⟩
  | dik ks=>obtain ⟨b,us',eb,hb,hgb,h0b,rb⟩:=old; exact ⟨b,us',eb,(own hb h0b).1,hgb,(own hb h0b).2,rb⟩
  | iop q us=>trivial
  | hz _=>trivial
 ·have key:∀ {k:Nat} {u:List W},(ρ.map clI)[k]?=some (.own u)->ρ[k]?=some (.own u):=fun {k u} hk=>by
   rw [List.getElem?_map] at hk
   obtain ⟨s,hs,h⟩:=Option.map_eq_some_iff.mp hk
   rw [hs,uX h]
  exact I.ne x y u1 u2 c hab (key h1) (key h2) h3 h4
theorem mP {l:Addr} {vs':List V} {F:Hp}:join (upd H0 l (.lst vs')) F=upd (join H0 F) l (.lst vs'):=by
 funext a
 by_cases e:a=l
 ·subst e
  unfold join
  rw [Y3,Y3]; rfl
 ·unfold join
  rw [c7 e,c7 e]
theorem XD.noLG {od:Option Addr}:∀ {i:Option Int},XD G od i->XD (noLG G) od i
 | none,h=>h
 | some _,⟨d,h1,h2⟩=>⟨d,h1,U5 h2 rfl⟩
theorem Rep.noLG {v:V} {w:W} (r:Rep K G v w):noL w=true->Rep K (noLG G) v w:=
 @Rep.rec K G (fun v w _=>noL w=true->Rep K (TP.noLG G) v w) (fun vs ws _=>g4 ws=true->Reps K (TP.noLG G) vs ws) (fun _=>.non) (fun _=>.bl) (fun _=>.int) (fun _=>.str) (fun _=>.ty)
  (fun h _ r n=>.tup (U5 h rfl) (r n)) (fun _ _ _ n=>by cases n) (fun _ _ _ n=>by cases n) (fun h1 h2 h3 h4 h5 _=>.exc (U5 h1 rfl) h2 h3 h4 (XD.noLG h5)) (fun h _=>.cls h) (fun _=>.nil)
  (fun _ _ a b n=>by rw [g4,Bool.and_eq_true] at n; exact .cons (a n.1) (b n.2)) v w r
theorem PIv.noLG_join (I:PIv K H0 G ρ σ H):Same (noLG G) (join H0 (noLG G)):=fun a o e=>by
 unfold join
 cases q:H0 a with
 | none=>exact e
 | some u=>
  dsimp only
  cases hl:isL u
  ·exact e
  ·have:=I.gl a u q hl
   have:=P6 a o e
   simp_all
theorem noLs_snoc {ws:List W} {w:W}:g4 (ws ++ [w])=true↔g4 ws=true/\noL w=true:=by
 induction ws with
 | nil=>simp [g4]
 | cons x ws ih=>
  show (noL x&&g4 (ws ++ [w]))=true↔(noL x&&g4 ws)=true/\_
  rw [Bool.and_eq_true,Bool.and_eq_true,ih]
  exact ⟨fun h=>⟨⟨h.1,h.2.1⟩,h.2.2⟩,fun h=>⟨h.1.1,h.1.2,h.2⟩⟩
def oy (i j:Nat) (us ws':List W) (ρ:Rho):Rho:=(ρ.map clI).set i (.hz (.tup (us.set j (.lst ws'))))
def L4 (i j:Nat) (m:Rho->R W):Rho->R Fl:=fun ρ=>match ρ[i]? with
 | some (.hz (.tup us))=>(match us[j]? with
  | some (.lst ws)=>m ρ>>=fun w=>if bO j us (ws ++ [w])=true then .ok (.nx (oy i j us (ws ++ [w]) ρ)) else .stuck
  | _=>.stuck)
 | _=>.stuck
theorem io {i j:Nat} {m:Rho->R W} {us ws:List W} {w:W} {ρ:Rho} (h1:ρ[i]?=some (.hz (.tup us))) (h2:us[j]?=some (.lst ws)) (hm:m ρ=.ok w) (hc:bO j us (ws ++ [w])=true):L4 i j m ρ=.ok (.nx (oy i j us (ws ++ [w]) ρ)):=by
 unfold L4
 rw [h1]
 dsimp only
 rw [h2]
 dsimp only
 rw [hm,R.ok_bind,if_pos hc]
theorem nH {i j:Nat} {jI:Int} (hj:jI=(j:Int)) {m:Rho->R W} (h:tStN K EX d (L4 i j m) D σ H):jA (ou (tOp (oV K) (O9 i) (tC (.int jI))) (tM K EX .V m)) D σ H:=by
 obtain ⟨Hb,H0,G,ρ,nb,s,I,o⟩:=h
 unfold L4 at o
 split at o
 ·rename_i us e
  split at o
  ·rename_i ws eu
   have hi:i<σ.length:=by rw [<- I.len]; exact (List.getElem?_eq_some_iff.mp e).1
   have es0:σ[i]?=some σ[i]:=by simp
   obtain ⟨v,ev,r⟩:=I.sl i _ _ e es0
   have es:σ[i]?=some (some v):=by rw [es0,ev]
   cases r with
   | @tup a vs0 _ ga ra=>
   obtain ⟨vj,hvj,rj⟩:=ra.get eu
   cases rj with
   | @lst l vs _ gl rl=>
   have hl0:H0 l=some (.lst vs):=by
    unfold join at gl
    cases q:H0 l with
    | none=>rw [q] at gl; have:=iS gl; cases this
    | some u=>
     rw [q] at gl
     dsimp only at gl
     cases hl:isL u
     ·rw [hl] at gl; have:=iS gl; cases this
     ·rw [hl] at gl; exact gl
   have up:=(o6 (H0:=H0) (P6 (G:=G))).trans I.join_H
   refine ⟨.ref a,es,a,vs0,jI,.ref l,rfl,rfl,.inl (.inl (up a _ ga)),?_,l,rfl,⟨vs,I.hh l _ hl0⟩,H0,G,ρ,I,OutN.bind o fun x G1 H1 w e1 m1 o1=>?_⟩
   ·rw [hj]; exact L2.atI_nat hvj
   ·by_cases c:bO j us (ws ++ [w])=true
    ·rw [if_pos c] at o1
     have I1:=I.ext e1
     have h1:=I1.hh l _ hl0
     have c':(g4 (us.set j .non)=true/\g4 (ws ++ [w])=true)/\(ws ++ [w]).length<=1000:=by
      unfold bO at c; simpa using c
     dsimp only
     rw [h1]
     dsimp only
     have hlen:vs.length=ws.length:=rl.length
     have hl2:=c'.2
     rw [List.length_append,List.length_singleton] at hl2
     refine ⟨Nat.lt_of_lt_of_le (by omega:vs.length<1000) (by decide),?_⟩
     have sJ:=o6 (H0:=H0) (M6 e1.gg)
     have n1:noL w=true:=by
      have:=c'.1.2
      exact (noLs_snoc.mp this).2
     have rv:Reps K (join H0 (noLG G1)) (vs ++ [x]) (ws ++ [w]):=(rl.same sJ).snoc ((Rep.noLG m1 n1).same I1.noLG_join)
     have I2:=(I1.clean (vs':=vs ++ [x]) hl0).put (i:=i) (s:=.hz (.tup (us.set j (.lst (ws ++ [w]))))) (o:=some (.ref a)) ⟨_,rfl,by
      rw [mP]
      have hal:a≠l:=by
       rintro rfl
       rw [ga] at gl; cases gl
      exact .tup (by rw [c7 hal]; exact sJ a _ ga) (Reps.subst (sJ l _ gl) rv c'.1.2 (ra.same sJ) hvj c'.1.1)⟩ fun _ e=>by cases e
     have eσ:σ.set i (some (V.ref a))=σ:=by
      apply List.ext_getElem?
      intro k
      by_cases hk:i=k
      ·subst hk; rw [List.getElem?_set_self hi,es]
      ·rw [List.getElem?_set_ne hk]
     rw [eσ] at I2
     refine o1 _ _ _ _ (fun b o q=>?_) I2
     have hbl:b≠l:=by
      rintro rfl
      have:=s _ _ q
      rw [hl0] at this
      cases this
      exact nb _ _ q
     rw [c7 hbl]; exact s b o q
    ·rw [if_neg c] at o1; exact o1.elim
  ·exact o.elim
 ·exact o.elim
end
theorem noLst_of {H:Hp} (h:hZ H):cP H:=fun a vs e=>by
 rcases h a with q | ⟨_,_,q⟩ | ⟨_,q⟩ <;> rw [q] at e <;> cases e
section
variable {X:Cx} {K:Frag} {EX:EXT} {d:Mode} {e:Expr} {es:List Expr} {pos:Pos} {ma:Rho->R W} {mr:Rho->R (List W)} {m n:Rho->R Fl} {ta:Rho->R Bool} {st:Stmt} {sts:List Stmt}
theorem q_n (h:PS X st (tSt K EX d m)) (hd:d=.F\/d=.V:=by first | exact .inl rfl | exact .inr rfl):PS X st (tStN K EX d m):=h.mono fun _ _ _ q=>q.toS hd
theorem fC (hd:d=.F\/d=.V:=by first | exact .inl rfl | exact .inr rfl):PSs X [] (tStN K EX d sNx):=(m9 (EX:=EX)).mono fun _ _ _ q=>q.toS hd
theorem C0 (h1:PS X st (tStN K EX d m)) (h2:PSs X sts (tStN K EX d n)):PSs X (st::sts) (tStN K EX d (e8 m n)):=(fF h1 h2).mono fun _ _ _ q=>zT q
theorem aL (h1:PS X st (tStN K EX d m)):PSs X [st] (tStN K EX d m):=iI h1
theorem jM {c:Expr} {x y:List Stmt} (hc:PT X c (tT K EX ta)) (ha:PSs X x (tStN K EX d m)) (hb:PSs X y (tStN K EX d n)):PS X (.If c x y pos) (tStN K EX d (mIf ta m n)):=(rp hc ha hb).mono fun _ _ _ q=>By q
theorem iH {i k:Nat} {y:Str} {pos':Pos} {f:Addr} {fd:FuncData} {ps:List Str} {x:Str} {p cpos:Pos} {n N:Nat} {m:Rho->R Fl} (hN:X.N.Nodup) (hi:X.N[i]?=some y) (hy:Loc X.env.scope y)
  (F:FnOk X.prog X.w X.K X.mg X.base CX0 k f fd ps (spM K n .V (g7 n N m))) (hr:Room k X.A) (hg:Gl X x) (hm:X.mg x=some (.ref f)) (hk:PySem.W.keepIn X.K (.ref f)=true) (hb:Binds X.K fd ps [])
  (ha:PA X (e::es) (tA K (fun _ _=>False) .B mr)) (hdb:(x == ("__debug__" : Str))=false:=by decide) (he:starEach (e::es) X.env=(false,eval e X.env)::starEach es X.env:=by rfl) (hpl:(backTo cpos (starEach es X.env)).any (·.1)=false:=by rfl)
  (hs:swapsWith (.Call (.Name x p) (e::es) [] cpos) (some (.Name y pos')) pos.line X.env=pure false:=by rfl) (hf:X.fn y=true\/X.env.scope.names.lookup y=some .local:=by first | exact .inl rfl | exact .inr rfl | assumption) :
  PS X (.Assign [.Name y pos'] (.Call (.Name x p) (e::es) [] cpos) pos) (tStN K (fun _ _=>False) d (sCN i (g7 n N m) mr)):=
 (Z6 hN hi hy (iM F hr hg hm hk hb .nil rq ha hdb he hpl) hs hf).mono fun _ _ _ q=>vf (fun ws h=>fq ws h) q
theorem lH {i j:Nat} {x:Str} {jI:Int} {jt:Nat} {p p1 p2 apos cpos:Pos} (hN:X.N[i]?=some x) (hv:Vis X.env.scope x) (ha:PE X e (tM K EX .V ma)) (hj:jI=(j:Int):=by rfl) (hK:X.K=K:=by rfl) (hd:(x == ("__debug__" : Str))=false:=by decide) (hcd:(x == ("__classdict__" : Str))=false:=by decide)
  (hix:aT (.Constant (.int jI) jt p1):=by exact fun _ _=>rfl)
  (hbase:attributeBase (.Subscript (.Name x p) (.Constant (.int jI) jt p1) p2) "append" X.env (eval (.Subscript (.Name x p) (.Constant (.int jI) jt p1) p2) X.env)=eval (.Subscript (.Name x p) (.Constant (.int jI) jt p1) p2) X.env:=by rfl)
  (hfew:((backTo cpos (starEach [e] X.env)).all (fun x=>!x.1)&&(backToKw cpos (keywordEach [] X.env)).all (fun x=>x.1.isSome)
   && decide (([e]:List Expr).length+([]:List Keyword).length+(if ([]:List Keyword).isEmpty then 0 else 1)<30))=true:=by rfl)
  (hline:(apos.endLine == cpos.line)=true:=by rfl) (hs:starEach [e] X.env=(false,eval e X.env)::starEach [] X.env:=by rfl) (hsw:swapsWith (.Call (.Attribute (.Subscript (.Name x p) (.Constant (.int jI) jt p1) p2) "append" apos) [e] [] cpos) none pos.line X.env=pure false:=by rfl) :
  PS X (.Expr (.Call (.Attribute (.Subscript (.Name x p) (.Constant (.int jI) jt p1) p2) "append" apos) [e] [] cpos) pos) (tStN K EX d (L4 i j ma)):=by
 subst hK; exact (iJ (dR (jP ix_tup (P5 hN hv hd hcd) pe_int hix) ha hbase hfew hline hs) hsw).mono fun _ _ _ q=>nH hj q
end
end TP
namespace TP
open PySem L2
open PyProof.Rows (envOfC)
def XE1 (K:Frag) (E:XK):EXT:=fun e H=>∀ (C:Addr) (od:Option Addr),PySem.W.nsIn K mainGlobals e.cls=some (some (.ref C))->XD H od e.at_->E (.ref C) od H
def spR (K:Frag) (n:Nat) (d:Mode) (f:List W->R W):Sp:=fun vs H Q E=>vs.length=n/\∃ ws,Reps K H vs ws/\match f ws with
 | .ok w=>∀ v G' H',Same H H'->Same G' H'->(∀ a o,H a=some o->isL o=true->G' a=none)->Md K H H G' H' v w d->Q v H'
 | .ex e=>∀ H',Same H H'->XE1 K E e H'
 | .stuck=>False
def calm (f:List W->R W):List W->R W:=fun ws=>match f ws with
 | .ok w=>.ok w
 | _=>.stuck
section
variable {K:Frag} {EX:EXT} {H0 G H G1 H1 G2 H2:Hp} {ρ:Rho} {σ:St} {d:Mode} {D:Ends}
def flUn (j:Nat):Fl->R Fl
 | .nx ρ=>.ok (.nx (ρ.set j .un))
 | .bk ρ=>.ok (.bk (ρ.set j .un))
 | .ct ρ=>.ok (.ct (ρ.set j .un))
 | .rt w=>.ok (.rt w)
def mExc (c:Str) (j:Nat) (mb:Rho->R Fl) (e:XW) (ρ:Rho):R Fl:=if e.cls=c then mb (ρ.set j (.val (.exc e.cls e.at_)))>>=flUn j else .stuck
end
section
variable {X:Cx} {K:Frag} {EX:EXT} {d:Mode} {e:Expr} {es:List Expr} {pos:Pos} {ma:Rho->R W} {mr:Rho->R (List W)} {mb:Rho->R Fl}
end
section
variable {P:Program} {w:World} {K:Frag} {mg:Str->Option Value} {base:Heap} {N:List Str} {qual:Str} {scope:Scope} {f0:Addr} {cd:Value} {A:Around} {outer:List Env} {s0:Shared} {H0:Hp} {E:XK} {d:Mode} {e:Expr} {es:List Expr} {pos:Pos} {mr:Rho->R (List W)}
end
end TP
namespace TP
open PySem L2
def big8:Int:=2^2000
def O3 (_ j:Int):Prop:=0<j/\j<big8
instance (i j:Int):Decidable (O3 i j):=by unfold O3; infer_instance
theorem fM {X:Cx}:OpR X (binaryOp .FloorDiv) (rI O3 fun i j=>.int (i/j)):=opI fun i j _ _ _ _ _ hc q=>by
 have h1:(0:Int)<j:=hc.1
 have h2:j<big8:=hc.2
 refine PyProof.Rows.floordiv_int (by omega) (by rw [Int.fdiv_eq_ediv_of_nonneg i (by omega)]; exact q) (.inl (PyProof.noPylong_of_log2 ?_))
 have h3:j.natAbs<2^9000:=by
  have:j.natAbs<2^2000:=by
   have h4:(j.natAbs:Int)<2^2000:=by
    rw [Int.natAbs_of_nonneg (by omega)]; exact h2
   exact_mod_cast h4
  exact Nat.lt_of_lt_of_le this (Nat.pow_le_pow_right (by decide) (by decide))
 by_cases h0:j.natAbs=0
 ·omega
 ·exact (Nat.log2_lt h0).mpr h3
end TP
namespace TP
open PySem L2
section
variable {X:Cx}
end
section
variable {K:Frag} {EX:EXT} {H0 G H:Hp} {ρ:Rho} {σ:St} {d:Mode} {D:Ends} {Q:VK}
end
section
variable {X:Cx} {K:Frag} {EX:EXT} {d:Mode} {a e:Expr} {pos:Pos} {ma:Rho->R W} {mr:Rho->R (List W)}
end
end TP
namespace TP
open PySem L2
section
variable {X:Cx}
end
section
variable {K:Frag} {EX:EXT} {H0 G H:Hp} {ρ:Rho} {σ:St} {d:Mode} {D:Ends}
end
section
variable {X:Cx} {K:Frag} {EX:EXT} {d:Mode} {e1 e:Expr} {pos:Pos} {mk ma:Rho->R W}
end
end TP
namespace HT
open PySem PySem.Spec PyProof.Rows PySem.W
section
variable {prog:Program} {w:World} {A:Around} {E:Value->Shared->Prop} {s:Shared}
end
end HT
namespace TP
open PySem L2
section
open PySem.W PyProof.Rows
variable {X:Cx} {e:Expr} {te:TE} {st:Expr} {tk:TO} {pos p2:Pos}
end
section
variable {K:Frag} {EX:EXT} {σ:St} {H:Hp} {Q:VK}
end
section
variable {X:Cx} {K:Frag} {EX:EXT} {e:Expr} {pos:Pos} {ma:Rho->R W}
end
end TP
namespace TP
open PySem L2
section
variable {K:Frag} {H0 G H G1 H1:Hp} {ρ:Rho} {σ:St} {d:Mode} {D:Ends}
end
section
variable {X:Cx} {K:Frag} {d:Mode} {e:Expr} {es:List Expr} {pos:Pos} {mr:Rho->R (List W)} {mt:Rho->R Bool}
end
end TP
namespace TP
open PySem L2
theorem bC (c:Str->NameKind->Bool) (hc:∀ n k,c n k=true->k=.free) (y:Str):∀ ns:List (Str×NameKind),ns.lookup y=some .cell\/ns.lookup y=some .free->(ns.map fun (n,k)=>if c n k then (n,NameKind.cell) else (n,k)).lookup y=some .cell\/(ns.map fun (n,k)=>if c n k then (n,NameKind.cell) else (n,k)).lookup y=some .free
 | [],h=>h
 | (n,k)::ns,h=>by
  rw [List.map_cons]
  dsimp only
  rw [List.lookup_cons] at h
  by_cases q:c n k=true
  ·rw [if_pos q,List.lookup_cons]
   cases e:y == n with
   | true=>exact .inl rfl
   | false=>
    rw [e] at h
    exact bC c hc y ns h
  ·rw [if_neg q,List.lookup_cons]
   cases e:y == n with
   | true=>rw [e] at h; exact h
   | false=>
    rw [e] at h
    exact bC c hc y ns h
section
variable {K:Frag} {EX:EXT} {D:Ends} {d:Mode} {σ:St} {H:Hp}
end
section
variable {X:Cx} {K:Frag} {EX:EXT} {d:Mode} {e k v:Expr} {pos:Pos} {mk me:Rho->R W}
end
end TP
namespace TP
open PySem L2
section
variable {K:Frag} {EX:EXT} {Hb H0 G H G1 H1 G2 H2:Hp} {ρ:Rho} {σ:St} {d:Mode} {D:Ends}
end
section
variable {X:Cx} {K:Frag} {EX:EXT} {d:Mode} {e:Expr} {pos:Pos} {ma:Rho->R W}
end
theorem pL {P:Program} {w:World} {K:Frag} {mg:Str->Option Value} {base:Heap} {k:Nat} {f:Addr} {fd:FuncData} {ps:List Str} {d:Mode} {F:List W->R W} (G:FnOk P w K mg base CX0 k f fd ps (jD K 1 d F))
  (h:∀ ns:List Int,ns.length<=63->(∀ x∈ns,Builtin.Int.intBits x<=1048576)->F [.scr (ns.map W.int)]=.ok (.bl true)):FnOk P w K mg base CX0 k f fd ps (fun vs H Q _=>∃ (a:Addr) (ns:List Int),vs = [.ref a]/\SqL K H a (ns.map V.int)/\ns.length<=63/\(∀ x∈ns,Builtin.Int.intBits x<=1048576)/\cP H/\∀ H',Q (.bl true) H'):=
 G.imp fun vs H Q E zz85=>by
  obtain ⟨a,ns,e,hs,hl,hi,hb,q⟩:=zz85
  subst e
  refine ⟨rfl,hb,rfl,[.scr (ns.map W.int)],.cons (.scr hs ?_) .nil,?_⟩
  ·clear hs hl hi
   induction ns with
   | nil=>exact .nil
   | cons n ns ih=>exact .cons .int ih
  ·rw [h ns hl hi]
   intro v G' H' _ _ _ m
   have e:v=.bl true:=by
    cases d <;> first | (cases m; rfl) | (rcases m with m | ⟨_,_,_,_,z,_⟩ <;> first | (cases m; rfl) | cases z)
   subst e
   exact q H'
end TP
namespace L2
open PySem PySem.Spec PyProof.Rows
structure B7 (sc cs:Scope) (N N':List Str) (y:Str):Prop where
 kind:cs.kind=.function
 lay:(∀ n cl,cellsFrom n cs.names cl=(y,n)::cl)/\∀ h:Heap,pushCells h cs.names=h.push { cls:=.type "cell",data:=.cell none }
 cellY:∀ x∈cs.names,x.2=.cell->x.1=y
 isY:cs.names.lookup y=some .cell
 loc:∀ x∈cs.names,x.2=.local->cs.names.lookup x.1=some .local
 free:∀ x∈cs.names,x.2=.free->sc.names.lookup x.1=some .cell\/sc.names.lookup x.1=some .free
 nd:N'.Nodup
 len:N.length<=N'.length
 same:∀ i∈List.range N.length,N'[i]?=N[i]?\/∀ x∈N'[i]?,cs.names.lookup x=none
 out:∀ x∈N'.take N.length,cs.names.lookup x≠some .local/\cs.names.lookup x≠some .cell
abbrev i8 (X:Cx) (cs:Scope) (y:Str) (cl:List (Str×Addr)) (N':List Str) (ex:List Addr) (s:Shared) (H:Hp):Cx:=
 { X with N:=N',s₀:=s,H₀:=H,env:=compEnvC cs ((y,s.heap.objs.size+1)::cl) s.heap.objs.size X.env,outer:=X.stack,stack:=X.stack,ex:=ex,fn:=fun x=>x == y,pn:=[],xe:=fun _ _=>False }
theorem W8 {y x:Str} {c d:Addr} {cl:List (Str×Addr)} (h:((y,c)::cl).lookup x=some d):(x=y/\d=c)\/(x≠y/\cl.lookup x=some d):=by
 rw [List.lookup_cons] at h
 split at h
 ·rename_i hb
  cases h
  exact .inl ⟨by simpa using hb,rfl⟩
 ·rename_i hb
  exact .inr ⟨by simpa using hb,h⟩
theorem nB {X:Cx} {pins:List (Addr×Obj)} {σ:St} {H:Hp} {s3 s4:Shared} {cs:Scope} {cl:List (Str×Addr)} {N':List Str} {y:Str} {fp:List Addr} {m:Str->Option Value} (S:B7 X.env.scope cs X.N N' y) (I:Inv X pins σ H s3)
  (hcl1:∀ x c,cl.lookup x=some c->X.env.cells.lookup x=some c) (hcl2:∀ x,(x,NameKind.free)∈cs.names->∃ c,cl.lookup x=some c) (hf:∀ b∈fp,v6 X pins H b) (hlt:∀ b∈fp,b<s3.heap.objs.size)
  (kp:∀ b o,s3.heap.get? b=some o->s4.heap.get? b=some o) (hn:s4.heap.Ns s3.heap.objs.size m) (hce:s4.heap.IsCell (s3.heap.objs.size+1) none) (hos:s4.os=s3.os) (hg:s4.gens=s3.gens):Inv (i8 X cs y cl N' fp s3 H) [] (inner N' σ) H s4:=by
 have kcell:∀ {c:Addr} {v:Option Value},s3.heap.IsCell c v->s4.heap.IsCell c v:=fun {c v} z=>by obtain ⟨o,e,d⟩:=z; exact ⟨o,kp c o e,d⟩
 have lt3:∀ x c,cl.lookup x=some c->c<s3.heap.objs.size:=fun x c e=>by
  obtain ⟨v,z⟩:=I.cell x c (hcl1 x c e)
  exact z.lt
 have hasY:∃ c,((y,s3.heap.objs.size+1)::cl).lookup y=some c:=⟨s3.heap.objs.size+1,by rw [List.lookup_cons]; simp⟩
 refine ⟨⟨I.ok.mod,S.kind,I.ok.glob,I.ok.blt,Nat.le_refl _,fun x z c h1 h2=>?_,fun x hx=>?_,fun x c h e=>?_,I.ok.hd,I.ok.frames,.inl rfl,fun b hb=>⟨?_,fun x c e=>?_⟩,I.bs,Nat.le_trans I.ok.bsz I.sz,fun b o e hb=>?_,fun b hb hfs=>?_,I.stack,I.stkFree,I.tab⟩,
  hos,by rw [hg]; exact I.bare,Un.kept kp,⟨m,hn,fun i x v e1 e2 e3=>?_⟩,fun x c e=>?_,I.hok.fresh (Nat.le_refl _),fun x c e=>?_,fun p hp=>absurd (show p∈([]:List (Addr×Obj)) from hp) (by simp),I.hok.kept kp,?_⟩
 ·rcases W8 h1 with ⟨a1,a2⟩ | ⟨a1,a2⟩ <;> rcases W8 h2 with ⟨b1,b2⟩ | ⟨b1,b2⟩
  ·rw [a1,b1]
  ·have:=lt3 _ _ b2; rw [a2] at this; exact absurd this (Nat.not_lt.mpr (Nat.le_succ _))
  ·have:=lt3 _ _ a2; rw [b2] at this; exact absurd this (Nat.not_lt.mpr (Nat.le_succ _))
  ·exact I.ok.inj x z c (hcl1 x c a2) (hcl1 z c b2)
 ·have hx':(relabel cs X.env).names.lookup x=some .cell\/(relabel cs X.env).names.lookup x=some .free:=hx
  rw [o0] at hx'
  show ∃ c,((y,s3.heap.objs.size+1)::cl).lookup x=some c
  by_cases hxy:x=y
  ·rw [hxy]; exact hasY
  ·have hb:(x == y)=false:=by simpa using hxy
   rw [List.lookup_cons,hb]
   cases hl:cs.names.lookup x with
   | none=>rw [hl] at hx'; rcases hx' with h | h <;> cases h
   | some k=>
    have hm:=PySem.mem_of_lookup hl
    by_cases hk:k=.free
    ·subst hk; exact hcl2 x hm
    ·exfalso
     have hb:(k == NameKind.free)=false:=by simpa using hk
     rw [hl] at hx'
     simp only [Option.map_some,hb,Bool.false_and,Bool.false_eq_true,if_false] at hx'
     rcases hx' with h | h
     ·cases h; exact hxy (S.cellY _ hm rfl)
     ·cases h; exact hk rfl
 ·have hxy:x=y:=by simpa using h
  rcases W8 e with ⟨_,a2⟩ | ⟨a1,_⟩
  ·rw [a2]; exact Nat.le_succ _
  ·exact absurd hxy a1
 ·intro q
  have hb':b=s3.heap.objs.size:=q
  exact absurd (hlt b hb) (by rw [hb']; exact Nat.lt_irrefl _)
 ·rcases W8 e with ⟨_,a2⟩ | ⟨_,a2⟩
  ·intro z
   rw [a2] at z
   have:=hlt b hb
   rw [<- z] at this
   exact absurd this (Nat.not_lt.mpr (Nat.le_succ _))
  ·exact (hf b hb).2.2.2.2.1 x c (hcl1 x c a2)
 ·obtain ⟨f0,f1,f2,f3,f4,f5⟩:=hf b hb
  rcases f3 with z | z
  ·exact I.ok.noex b o e z
  ·exact absurd (Nat.lt_of_lt_of_le (Heap.lt_size (I.ok.bs b o e).1) z) (Nat.lt_irrefl _)
 ·have hfs':b∈frs X.stack:=hfs
  rcases List.mem_cons.mp (I.stkSub b hfs') with z | z
  ·exact (hf b hb).2.1 z
  ·exact (hf b hb).2.2.1 z
 ·have e2':=S4 e2
  have hi:i<X.N.length:=by rw [<- I.len]; exact (List.getElem?_eq_some_iff.mp e2').1
  have e1':N'[i]?=some x:=e1
  have e3':Vis (relabel cs X.env) x:=e3
  have hv:∃ k,cs.names.lookup x=some k:=by
   unfold Vis at e3'
   rw [o0] at e3'
   cases hl:cs.names.lookup x with
   | none=>rw [hl] at e3'; rcases e3' with h | h | h <;> cases h
   | some k=>exact ⟨k,rfl⟩
  obtain ⟨k,hk⟩:=hv
  have hN:X.N[i]?=some x:=by
   rcases S.same i (List.mem_range.mpr hi) with q | q
   ·rw [<- q]; exact e1'
   ·have:=q x (by rw [e1']; rfl)
    rw [hk] at this; cases this
  have ho:=S.out x (List.mem_of_getElem? (i:=i) (by rw [List.getElem?_take_of_lt hi]; exact e1'))
  have hnl:k≠.local:=fun q=>by subst q; exact ho.1 hk
  have hnc:k≠.cell:=fun q=>by subst q; exact ho.2 hk
  have hm:=PySem.mem_of_lookup hk
  have hfree:k=.free:=by
   unfold Vis at e3'
   rw [o0,hk] at e3'
   by_cases hkf:k=.free
   ·exact hkf
   ·exfalso
    have hb:(k == NameKind.free)=false:=by simpa using hkf
    simp only [Option.map_some,hb,Bool.false_and,Bool.false_eq_true,if_false] at e3'
    rcases e3' with h | h | h
    ·exact hnl (Option.some.inj h)
    ·exact hnc (Option.some.inj h)
    ·exact hkf (Option.some.inj h)
  subst hfree
  obtain ⟨m0,hn0,hl0⟩:=I.loc
  have hvis:Vis X.env.scope x:=by
   rcases S.free _ hm rfl with h | h
   ·exact .inr (.inl h)
   ·exact .inr (.inr h)
  obtain ⟨u,r,l⟩:=hl0 i x v hN e2' hvis
  refine ⟨u,r,.inr ⟨?_,?_⟩⟩
  ·show (relabel cs X.env).names.lookup x=some .cell\/(relabel cs X.env).names.lookup x=some .free
   rw [o0,hk]
   show some (if _ then _ else _)=_\/some (if _ then _ else _)=_
   split
   ·exact .inl rfl
   ·exact .inr rfl
  ·obtain ⟨c,hc⟩:=hcl2 x hm
   have hc':=hcl1 x c hc
   have hxy:x≠y:=by
    rintro rfl
    rw [S.isY] at hk; cases hk
   rcases l with ⟨q,_⟩ | ⟨_,c',e,z⟩
   ·exfalso
    have q':X.env.scope.names.lookup x=some .local:=q
    rcases S.free _ hm rfl with h | h <;> (rw [q'] at h; cases h)
   ·rw [hc'] at e; cases e
    exact ⟨c,by
     have hb:(x == y)=false:=by simpa using hxy
     show ((y,s3.heap.objs.size+1)::cl).lookup x=some c
     rw [List.lookup_cons,hb]; exact hc,kcell z⟩
 ·rcases W8 e with ⟨_,a2⟩ | ⟨_,a2⟩
  ·rw [a2]; exact ⟨none,hce⟩
  ·obtain ⟨v,z⟩:=I.cell x c (hcl1 x c a2)
   exact ⟨v,kcell z⟩
 ·rcases W8 e with ⟨_,a2⟩ | ⟨_,a2⟩
  ·rw [a2]; exact I.hok.fresh (Nat.le_succ _)
  ·exact I.freeC x c (hcl1 x c a2)
 ·unfold inner
  rw [List.length_append,List.length_replicate,I.len]
  have:=S.len
  show _=N'.length
  omega
section
variable {X:Cx} {cs:Scope} {N':List Str} {y:Str} {tg iter elt:Expr} {ifs:List Expr} {wi:TI} {g:TG} {tc:TT} {te:TE} {pos:Pos}
theorem ju {A:Around} {cl:List (Str×Addr)} {s:Shared} {M:Model} {E:Value->Shared->Prop} {Q:Env->Shared->Prop} (S:B7 X.env.scope cs X.N N' y)
  (h:Q { compEnvC cs ((y,s.heap.objs.size+1)::cl) s.heap.objs.size X.env with scope:=cs } { s with heap:=(s.heap.push { cls:=.type "dict",data:=.dict #[] }).push { cls:=.type "cell",data:=.cell none } }) :
  wpAny M A (newFunctionEnv cs X.env.globals cl [] X.env.qual none .none (some X.env)) Q E s:=by
 simp only [newFunctionEnv,Option.isSome_some,if_true]
 refine wpAny_bind (wpAny_alloc ?_)
 refine wpAny_bind (wpAny_layCells _ (fun name kind cells=>by cases hkc:kind == NameKind.cell <;> simp [hkc]) _ _ _ _ ?_)
 rw [S.lay.1,S.lay.2,show ({ s with heap:=s.heap.push { cls:=.type "dict",data:=.dict #[] } }:Shared).heap.objs.size=s.heap.objs.size+1 from Heap.size_push ..]
 rw [List.forIn_nil]
 exact wpAny_bind (wpAny_pure (wpAny_pure h))
theorem yU {cl:List (Str×Addr)} {pins:List (Addr×Obj)} {fp:List Addr} {H3 H':Hp} {s3:Shared} (hcl1:∀ x c,cl.lookup x=some c->X.env.cells.lookup x=some c) (stk:∀ b∈frs X.stack,b∈X.env.locals::X.fs)
  (hf3:∀ b∈fp,v6 X pins H3 b) (hlt:∀ b∈fp,b<s3.heap.objs.size) (hn:∀ b∈fp,H' b=none):∀ b∈fp,v6 (i8 X cs y cl N' fp s3 H3) [] H' b:=fun b hb=>by
 obtain ⟨f0,f1,f2,f3,f4,f5⟩:=hf3 b hb
 refine ⟨hn b hb,Nat.ne_of_lt (hlt b hb),fun hfs=>?_,.inl hb,fun x c e=>?_,fun p hp=>absurd (show p∈([]:List (Addr×Obj)) from hp) (by simp)⟩
 ·have hfs':b∈frs X.stack:=hfs
  rcases List.mem_cons.mp (stk b hfs') with z | z
  ·exact f1 z
  ·exact f2 z
 ·rcases W8 e with ⟨_,a2⟩ | ⟨_,a2⟩
  ·intro z
   rw [a2] at z
   have:=hlt b hb
   rw [<- z] at this
   exact absurd this (Nat.not_lt.mpr (Nat.le_succ _))
  ·exact f4 x c (hcl1 x c a2)
theorem kz {cl:List (Str×Addr)} {pins:List (Addr×Obj)} {σ:St} {R:Result->Shared->Prop} {Q:Hp->Prop} {s3 s4:Shared} {H3:Hp} {it D:Addr} {fp:List Addr} {tn:Nat->Heap->Prop} {J:It} {W:Nat->Nat->Hp->Prop} {m0:Nat}
  (hc:X.calm=true) (hg:PG (i8 X cs y cl N' fp s3 H3) tg g) (hk:B6 X.N.length g) (ht:PIf (i8 X cs y cl N' fp s3 H3) ifs tc) (he:PE (i8 X cs y cl N' fp s3 H3) elt te)
  (hcl1:∀ x c,cl.lookup x=some c->X.env.cells.lookup x=some c)
  (I3:Inv X pins σ H3 s3) (I4:Inv (i8 X cs y cl N' fp s3 H3) [] (inner N' σ) H3 s4) (T:Turn X.prog X.w X.K tg J fp it tn) (st:tn 0 s4.heap) (hf3:∀ b∈fp,v6 X pins H3 b) (hlt:∀ b∈fp,b<s3.heap.objs.size)
  (w0:W 0 m0 H3)
  (turn:∀ i m H2,W i m H2->(J.stop i H2/\Q H2)\/(J.go i H2/\∀ x H3,J.yld i H2 x H3->g x (inner N' σ) H3 fun σ4 H4=>tc σ4 H4 fun b H5=>
   if b=true then te σ4 H5 fun y H6=>∃ ys,H6 D=some (.lst ys)/\ys.length<sizeLine/\∃ m',m'<m/\W (i+1) m' (upd H6 D (.lst (ys ++ [y])))
   else ∃ m',m'<m/\W (i+1) m' H5))
  (hR:∀ (H':Hp) (s':Shared),Inv X pins σ H' s'->Q H'->(∃ m,s'.heap.Ns s3.heap.objs.size m)->v6 X pins H' s3.heap.objs.size->R (.ok .next) s') :
  codeAny (model X.prog X.w) X.A (.compLoop (.ListComp elt [⟨tg,iter,ifs,0⟩] cs pos) 0 (.ref it) (.ref D) (i8 X cs y cl N' fp s3 H3).env) R s4:=by
 have fpx:∀ {H':Hp},(∀ b∈fp,H' b=none)->∀ b∈fp,v6 (i8 X cs y cl N' fp s3 H3) [] H' b:=fun hn=>yU hcl1 I3.stkSub hf3 hlt hn
 have lσ:(inner N' σ).length=N'.length:=I4.len
 refine codeAny_loop rfl (fun n s'=>∃ i H',Inv (i8 X cs y cl N' fp s3 H3) [] (inner N' σ) H' s'/\tn i s'.heap/\(∀ b∈fp,H' b=none)/\W i n H') (fun n s5 hI=>?_) m0 ⟨0,H3,I4,st,fun b hb=>(hf3 b hb).1,w0⟩
 obtain ⟨i,H5,I5,st5,fr5,w5⟩:=hI
 show wpAny _ _ ((compTurn (.ListComp elt [⟨tg,iter,ifs,0⟩] cs pos) 0 (.ref it) (.ref D) (i8 X cs y cl N' fp s3 H3).env).onRaise _) _ _ s5
 refine wpAny_noted ?_
 rw [compTurn_list]
 refine wpAny_bind (wpAny_standAt (wpAny_bind ?_))
 have cvt:∀ {α:Type} {t:Sem α} {P:α->Shared->Prop} {E':Value->Shared->Prop} {s:Shared},wpAny (model X.prog X.w) X.A t P (fun _ _=>False) s->wpAny (model X.prog X.w) X.A t P E' s:=fun h=>wpAny_mono h (fun _ _ q=>q) fun _ _ q=>q.elim
 rcases turn i n H5 w5 with ⟨stop,q⟩ | ⟨go,step⟩
 ·refine thn (T.done (i8 X cs y cl N' fp s3 H3) rfl rfl rfl hc i [] s5 _ H5 _ I5 (fpx fr5) st5 stop) fun r s6 ⟨hr,I6⟩=>?_
  subst hr
  refine wpAny_pure ?_
  have J6:Inv X pins σ H5 s6:=I3.call' (H':=H5) (ch:=fp) I6.os I6.base I6.hok I6.bare fun b hb=>by
   obtain ⟨f0,f1,f2,f3,f4,f5⟩:=hf3 b hb
   exact ⟨f3,f1,f4,f5⟩
  obtain ⟨m,hn,_⟩:=I6.loc
  exact hR H5 s6 J6 q ⟨m,hn⟩ (I3.fpOk (Nat.le_refl _) I6.free)
 ·refine thn (T.item (i8 X cs y cl N' fp s3 H3) rfl rfl rfl hc i [] s5 _ H5 _ I5 (fpx fr5) st5 go) fun r s6 ⟨u,hr,h6⟩=>?_
  subst hr
  refine wpAny_bind (thn h6 fun _ s7 zz88=>?_)
  obtain ⟨x,H7,I7,r7,y7,st7,fr7⟩:=zz88
  have I7':=I7.pinned (fpx fr7) (T.obj _ _ st7)
  refine wpAny_bind (cvt (thn (hg _ s7 _ H7 x u _ I7' r7 (hk x _ H7 _ (step x H7 y7))) fun _ s8 zz89=>?_))
  obtain ⟨σ8,H8,I8,q8,l8,k8⟩:=zz89
  refine wpAny_bind (cvt (thn (ht _ s8 σ8 H8 _ I8 q8) fun b s9 zz90=>?_))
  obtain ⟨H9,I9,q9⟩:=zz90
  have again:∀ {s':Shared} {H':Hp},Inv (i8 X cs y cl N' fp s3 H3) ([]++U2 fp s7.heap) σ8 H' s'->(∃ m',m'<n/\W (i+1) m' H') ->
    ∃ m',m'<n/\∃ i H',Inv (i8 X cs y cl N' fp s3 H3) [] (inner N' σ) H' s'/\tn i s'.heap/\(∀ b∈fp,H' b=none)/\W i m' H':=fun {s' H'} I' zz91=>by
   obtain ⟨m',hm,w'⟩:=zz91
   refine ⟨m',hm,i+1,H',(I'.unpinned).weak (by rw [l8]) (fun j v e=>?_),T.keep _ _ _ st7 fun b hb o e=>(I'.pin (b,o) (List.mem_append_right _ (List.mem_append_right _ (D9 hb e)))).1,fun b hb=>?_,w'⟩
   ·have hj:j<X.N.length:=by rw [<- I3.len]; exact (List.getElem?_eq_some_iff.mp (S4 e)).1
    rw [k8 j hj]; exact e
   ·obtain ⟨o,e,d⟩:=T.obj _ _ st7 b hb
    exact (I'.pin (b,o) (List.mem_append_right _ (List.mem_append_right _ (D9 hb e)))).2.1
  cases b with
  | false=>
   have q9':∃ m',m'<n/\W (i+1) m' H9:=q9
   exact wpAny_pure ⟨rfl,again I9 q9'⟩
  | true=>
   have q9':te σ8 H9 _:=q9
   refine wpAny_bind (wpAny_bind (cvt (thn (he _ s9 σ8 H9 _ I9 q9') fun v s10 zz92=>?_)))
   obtain ⟨y,H10,I10,r10,ys,hD,hy,q10⟩:=zz92
   refine wpAny_bind (cvt (thn (ae _ s10 σ8 H10 (.ref D) [y] (.ref D) [v] (fun _ H'=>∃ m',m'<n/\W (i+1) m' H') I10 rfl (.cons r10 .nil) ⟨D,ys,y,rfl,rfl,hD,hy,q10⟩) fun _ s11 zz93=>?_))
   obtain ⟨_,H11,I11,_,q11⟩:=zz93
   exact wpAny_pure (wpAny_pure ⟨rfl,again I11 q11⟩)
theorem kA {cl:List (Str×Addr)} {pins:List (Addr×Obj)} {σ:St} {R:Value->Addr->Result->Shared->Prop} {Q:V->Hp->Prop} {s2:Shared} {itv:Value} (S:B7 X.env.scope cs X.N N' y) (hc:X.calm=true)
  (hg:∀ cl ex s H,PG (i8 X cs y cl N' ex s H) tg g) (hk:B6 X.N.length g) (ht:∀ cl ex s H,PIf (i8 X cs y cl N' ex s H) ifs tc) (he:∀ cl ex s H,PE (i8 X cs y cl N' ex s H) elt te)
  (hcl1:∀ x c,cl.lookup x=some c->X.env.cells.lookup x=some c) (hcl2:∀ x,(x,NameKind.free)∈cs.names->∃ c,cl.lookup x=some c)
  (h:PIE X pins σ tg (fun J H1=>∀ D,H1 D=none->kM J D g tc te (inner N' σ) H1 (Q (.ref D))) itv s2)
  (hR:∀ (D C:Addr) (H':Hp) (s':Shared),Inv X pins σ H' s'->Q (.ref D) H'->(∃ m,s'.heap.Ns C m)->v6 X pins H' C->R (.ref D) C (.ok .next) s') :
  wpAny (model X.prog X.w) X.A (newList []) (fun acc s₃=>wpAny (model X.prog X.w) X.A (newFunctionEnv cs X.env.globals cl [] X.env.qual none .none (some X.env)) (fun cenv s₄=>
   codeAny (model X.prog X.w) X.A (.compStart (.ListComp elt [⟨tg,iter,ifs,0⟩] cs pos) 0 itv acc { cenv with scope:=relabel cs X.env }) (R acc cenv.locals) s₄) X.xe s₃) X.xe s2:=by
 obtain ⟨it,fp,tn,J,H2,e,I2,T,st2,f2,hw⟩:=h
 subst e
 refine wpAny_newObj_type (ju S ?_)
 have hD:=I2.hok.fresh (Nat.le_refl _)
 obtain ⟨W,⟨m0,w0⟩,turn⟩:=hw s2.heap.objs.size hD
 have I3:Inv X pins σ (upd H2 s2.heap.objs.size (.lst [])) { s2 with heap:=s2.heap.push { cls:=.type "list",dict:=none,data:=.seq ([]:List Value).toArray } }:=I2.lnew (t':=s2.toks) .nil (Nat.zero_le _)
 have hfp3:∀ b∈fp,b<s2.heap.objs.size:=fun b hb=>by
  obtain ⟨o,e,_⟩:=T.obj 0 _ st2 b hb
  exact Heap.lt_size e
 have hf3:∀ b∈fp,v6 X pins (upd H2 s2.heap.objs.size (.lst [])) b:=fun b hb=>by
  obtain ⟨f0,r⟩:=f2 b hb
  exact ⟨by rw [c7 (Nat.ne_of_lt (hfp3 b hb))]; exact f0,r⟩
 have hlt:∀ b∈fp,b<(s2.heap.push { cls:=.type "list",dict:=none,data:=.seq ([]:List Value).toArray }).objs.size:=fun b hb=>by rw [Heap.size_push]; exact Nat.lt_succ_of_lt (hfp3 b hb)
 have kp:∀ b o,(s2.heap.push { cls:=.type "list",dict:=none,data:=.seq ([]:List Value).toArray }).get? b=some o->(((s2.heap.push { cls:=.type "list",dict:=none,data:=.seq ([]:List Value).toArray }).push { cls:=.type "dict",data:=.dict #[] }).push { cls:=.type "cell",data:=.cell none }).get? b=some o:=fun b o e=>Heap.get?_push_of_some _ (Heap.get?_push_of_some _ e)
 have I4:=nB (cs:=cs) (cl:=cl) (N':=N') (fp:=fp) (s4:={ s2 with heap:=((s2.heap.push { cls:=.type "list",dict:=none,data:=.seq ([]:List Value).toArray }).push { cls:=.type "dict",data:=.dict #[] }).push { cls:=.type "cell",data:=.cell none } }) S I3 hcl1 hcl2 hf3 hlt kp ((Heap.Ns.new _ (.type "dict")).keeps fun b o e=>Heap.get?_push_of_some _ e) ⟨_,by rw [<- Heap.size_push]; exact Heap.get?_push_size _ rfl,rfl⟩ rfl rfl
 have st4:tn 0 (((s2.heap.push { cls:=.type "list",dict:=none,data:=.seq ([]:List Value).toArray }).push { cls:=.type "dict",data:=.dict #[] }).push { cls:=.type "cell",data:=.cell none }):=T.keep 0 _ _ st2 fun b hb o e=>kp b o (Heap.get?_push_of_some _ e)
 have loop:=kz (R:=R (.ref s2.heap.objs.size) (s2.heap.push { cls:=.type "list",dict:=none,data:=.seq ([]:List Value).toArray }).objs.size) (D:=s2.heap.objs.size) (iter:=iter) (pos:=pos) (it:=it) (Q:=Q (.ref s2.heap.objs.size)) hc (hg cl fp _ _) hk (ht cl fp _ _) (he cl fp _ _) hcl1 I3 I4 T st4 hf3 hlt w0 turn fun H' s' I' q n f=>hR _ _ H' s' I' q n f
 exact codeAny_compStart_list loop (T.self _ 0 _ _ _ st4 loop)
end
end L2
namespace TP
open PySem L2
section
variable {X:Cx} {K:Frag} {EX:EXT} {pos:Pos} {ma:Rho->R W} {ta:Rho->R Bool}
end
end TP
namespace TP
open PySem L2
theorem nC {X:Cx} {cs sc2:Scope} {y:Str} {cl:List (Str×Addr)} {N' N2:List Str} {ex:List Addr} {s:Shared} {H:Hp} (h:g3 cs sc2 N' N2):g3 (i8 X cs y cl N' ex s H).env.scope sc2 (i8 X cs y cl N' ex s H).N N2:=
 ⟨h.kind,h.ncell,h.loc,fun x hx e=>bC (fun n k=>k == NameKind.free&&X.env.scope.kind == .function&&X.env.kindOf n == some .cell) (fun n k q=>by
  simp only [Bool.and_eq_true,beq_iff_eq] at q
  exact q.1.1) x.1 cs.names (h.free x hx e),h.nd,h.len,h.same,h.out⟩
end TP
namespace L2
open PySem PySem.Spec PyProof.Rows
section
variable {X:Cx} {cs:Scope} {N':List Str} {yc:Str} {tg iter elt:Expr} {ifs:List Expr} {wi:TI} {g:TG} {tc:TT} {te:TE} {pos:Pos}
theorem pj {i:Nat} {y:Str} {py spos:Pos} (S:B7 X.env.scope cs X.N N' yc) (hc:X.calm=true) (hi:PI X tg iter wi)
  (hg:∀ cl ex s H,PG (i8 X cs yc cl N' ex s H) tg g) (hk:B6 X.N.length g) (ht:∀ cl ex s H,PIf (i8 X cs yc cl N' ex s H) ifs tc) (he:∀ cl ex s H,PE (i8 X cs yc cl N' ex s H) elt te)
  (hN:X.N.Nodup) (hy:X.N[i]?=some y) (hl:Loc X.env.scope y)
  (hsw:swapsWith (.ListComp elt [⟨tg,iter,ifs,0⟩] cs pos) (some (.Name y py)) spos.line X.env=pure true:=by rfl) (hf:X.fn y=true\/X.env.scope.names.lookup y=some .local:=by first | exact .inl rfl | exact .inr rfl | assumption)
  (hs:∀ x,foldedSetIterable iter X.env x=pure x:=by intro _; rfl):PS X (.Assign [.Name y py] (.ListComp elt [⟨tg,iter,ifs,0⟩] cs pos) spos) (P0 (eK N' wi g tc te) (B4 i)):=by
 intro pins s σ H Q I h
 obtain ⟨cl,e,h1,h2,_⟩:=O2 (env:=X.env) cs.names [] (fun x hx hk=>I.ok.has x.1 (S.free x hx hk)) (fun _ _ z=>nomatch z)
 have hclos:closureFor cs X.env=pure cl:=by
  simp only [closureFor]
  rw [e]; rfl
 rw [exec_Assign_Name_used _ _ _ _ hsw]
 refine wpAny_bind (wpAny_standAt (wpAny_bind ?_))
 show wpAny _ _ (comprehension (.ListComp elt [⟨tg,iter,ifs,0⟩] cs pos) cs X.env _ (newList []) false (eval iter X.env) (some (assign (.Name y py) X.env))>>=_) _ _ s
 refine wpAny_bind (thn (wpAny_comprehension_free (use:=some (assign (.Name y py) X.env)) (Q:=fun _ s'=>SP X pins Q .next s') rfl hs hclos S.kind S.loc (thn (hi pins s σ H _ I h) fun v s1 q1=>thn q1 fun itv s2 q2=>?_)) fun _ s' q=>wpAny_pure (wpAny_pure q))
 refine kA (R:=fun acc C=>compPost (model X.prog X.w) X.A X.xe (some (assign (.Name y py) X.env)) (fun _ s'=>SP X pins Q .next s') acc C) (Q:=fun x H1=>B4 i x σ H1 Q.nx) S hc hg hk ht he h1 h2 q2 fun D C H' s' I' q n f=>?_
 obtain ⟨m,hn⟩:=n
 obtain ⟨f0,f1,f2,f3,f4,f5⟩:=f
 show wpAny _ _ (assign (.Name y py) X.env (.ref D)) _ _ _
 refine wpAny_assign_Name (Y8 (v:=.ref D) (u:=.ref D) I' hN hy hl rfl (fun s'' I'' zz94=>?_) hf)
 obtain ⟨a,sb,ha⟩:=zz94
 have hCa:C≠a:=by
  rcases ha with rfl | ha
  ·exact f1
  ·exact fun q=>f4 _ _ ha q.symm
 refine ⟨m,hn.sameBut sb hCa,fun h' sb'=>?_⟩
 exact ⟨_,H',I''.turned (t':=s''.toks) (fun b o hb e=>sb'.extBut b o hb e) f0 f1 f3 f4 f5,q⟩
end
end L2
namespace TP
open PySem L2
section
variable {X:Cx} {K:Frag} {EX:EXT} {d:Mode} {pos:Pos} {ma:Rho->R W} {ta:Rho->R Bool}
theorem tf {i:Nat} {y:Str} {py:Pos} {cs:Scope} {N':List Str} {yc:Str} {tg iter elt:Expr} {ifs:List Expr} {dd:Mode} {g:TG} {mg:W->Rho->Option Rho} {mi:Rho->R (List W)} {cpos:Pos} (S:B7 X.env.scope cs X.N N' yc) (hc:X.calm=true) (hi:PI X tg iter (tIt K EX false dd mi))
  (hg:∀ cl ex s H,PG (i8 X cs yc cl N' ex s H) tg g) (hgt:Gt K dd g mg) (hk:B6 X.N.length g) (ht:∀ cl ex s H,PIf (i8 X cs yc cl N' ex s H) ifs (tT K EX ta)) (he:∀ cl ex s H,PE (i8 X cs yc cl N' ex s H) elt (tM K EX .V ma))
  (hN:X.N.Nodup) (hy:X.N[i]?=some y) (hl:Loc X.env.scope y)
  (hsw:swapsWith (.ListComp elt [⟨tg,iter,ifs,0⟩] cs cpos) (some (.Name y py)) pos.line X.env=pure true:=by rfl) (hf:X.fn y=true\/X.env.scope.names.lookup y=some .local:=by first | exact .inl rfl | exact .inr rfl | assumption)
  (hs:∀ x,foldedSetIterable iter X.env x=pure x:=by intro _; rfl):PS X (.Assign [.Name y py] (.ListComp elt [⟨tg,iter,ifs,0⟩] cs cpos) pos) (tSt K EX d (sF i (l6 N'.length mi mg ta ma))):=
 (pj S hc hi hg hk ht he hN hy hl hsw hf hs).mono fun D σ H q=>by
  have:=gQ (m:=l6 N'.length mi mg ta ma) q
  exact gU hgt this
end
end TP
namespace L2
open PySem PySem.Spec PyProof.Rows
abbrev E4 (pa:Pos):Arguments:={ posonlyargs:=[],args:=[{ arg := "one",annotation:=none,pos:=pa }],vararg:=none,kwonlyargs:=[],kw_defaults:=[],kwarg:=none,defaults:=[] }
abbrev lamS:Scope:={ kind:=.function,names:=[("one",.local),("held",.free)],isGenerator:=false,isCoroutine:=false }
abbrev D3 (p1 p2 p3:Pos):Expr:=.Subscript (.Name "held" p1) (.Name "one" p2) p3
def Kp (h h':Heap):Prop:=∀ b o,h.get? b=some o->h'.get? b=some o
section
variable {prog:Program} {w:World} {A:Around} {E:Value->Shared->Prop} {s:Shared}
def ia (s:Shared) (k:Int) (v:Value) (s':Shared):Prop:=∃ h' tk t,v=.int k t/\s'={ s with heap:=h',toks:=tk }/\Kp s.heap h'
theorem qG {f c' c b:Addr} {qual:Str} {pa p1 p2 p3:Pos} {pm ctv:Value} {cl:List (Str×Addr)} {its:Array Value} {i k:Int} {t t':Tok}
  (hroom:A.depth<recursionLimit) (ho:s.heap.get? f=some (PySem.W.kla_obj "<lambda>" qual (E4 pa) (D3 p1 p2 p3) lamS cl pm c' ctv)) (hcd:s.heap.CodeRec (.ref c') qual) (lim:s.heap.NoLimit)
  (hcl:cl.lookup (Str.ofString "held")=some c) (hc:s.heap.IsCell c (some (.ref b))) (hl:s.heap.IsList b its) (h0:0<=i) (hfit:i<2^63) (hx:its[i.toNat]?=some (.int k t')) :
  wpAny (model prog w) A (call (.ref f) [.int i t]) (ia s k) (fun _ _=>False) s:=by
 refine wpAny_call (PySem.W.kla_callFunE hroom ho rfl rfl rfl rfl hcd ?_)
 rw [show bindArgs (PySem.W.kla_fn "<lambda>" qual (E4 pa) (D3 p1 p2 p3) lamS cl pm (.ref c') ctv) ⟨[Value.int i t],[]⟩=(pure [(Str.ofString "one",Value.int i t)]:Sem (List (Str×Value))) from rfl]
 refine wpAny_pure (wpAny_newFunctionEnv (show ∀ x∈lamS.names,x.2≠.cell by decide) (fun x hx=>?_) (fun h1 hns hsb=>⟨lim.fresh _ hsb,?_⟩) rfl)
 ·have e:x=(Str.ofString "one",Value.int i t):=by simpa using hx
  rw [e]; rfl
 have hk:Kp s.heap h1:=fun b o e=>hsb.extBut b o (Nat.ne_of_lt (Heap.lt_size e)) (Heap.get?_push_of_some _ e)
 show codeAny _ _ (.expr (D3 p1 p2 p3) (PySem.W.envX qual lamS s.heap.objs.size f (.ref c') cl)) _ _
 refine PySem.W.kla_codeExpr (Subscript_ (wpAny_Name (wpAny_loadName_free rfl rfl hcl (hc.keeps hk) (wpAny_Name (wpAny_loadName_local rfl rfl hns rfl (item_listR (let ⟨o,e,q⟩:=hl; ⟨o,hk _ _ e,q⟩) h0 hfit hx ?_))))))
 exact ⟨h1,_,t',rfl,rfl,hk⟩
theorem mF (a v:Value):argsOk "min" ⟨[a],[(Str.ofString "key",v),(Str.ofString "default",.none)]⟩:=by unfold argsOk; kernel_rfl
structure kN (vs:List Value) (kf:Nat->Int) (j i:Nat) (v:Value):Prop where
 at_:vs[i]?=some v
 lt:i<j
 least:∀ n,n<j->kf i<=kf n/\(n<i->kf i<kf n)
def KpB (S I:Addr) (g h:Heap):Prop:=∀ b o,b≠S->b≠I->g.get? b=some o->h.get? b=some o
abbrev iV (I f S:Addr):Args:=⟨[.ref I,.ref f,.ref S],[(Str.ofString "default",.none)]⟩
section
variable {vs:List Value} {kf:Nat->Int} {l f I S:Addr} {R:Result->Shared->Prop}
theorem xQ (hh:A.handled=none) (hl:s.heap.IsList l vs.toArray) (hlI:l≠I) (hlS:l≠S) (hSI:S≠I)
  (turn:∀ i v,vs[i]?=some v->∀ (h:Heap) (tk:Nat),KpB S I s.heap h->wpAny (model prog w) A.in1 (call (.ref f) [v]) (ia { s with heap:=h,toks:=tk } (kf i)) (fun _ _=>False) { s with heap:=h,toks:=tk })
  (hR:∀ v h tk,KpB S I s.heap h->((vs = []/\v=.none)\/∃ i,kN vs kf vs.length i v)->R (.ok (.ret v)) { s with heap:=h,toks:=tk }) :
  ∀ (r j:Nat) (h:Heap) (tk:Nat) (its:Array Value) (c:Nat),vs.length-j=r->j<=vs.length->KpB S I s.heap h->h.get? S=some (seqObj "list" its c)->h.IsListIter I l j ->
   ((j=0/\its=#[])\/∃ i vb tb,its=#[vb,.int (kf i) tb]/\kN vs kf j i vb) ->
   codeAny (model prog w) A (.builtin "min.loop" (iV I f S)) R { s with heap:=h,toks:=tk }:=by
 have nm:(toString "min" ++ toString ".loop" : String) = "min.loop" := by decide
 have Wk:=Walks.list (prog:=prog) (w:=w) (A:=A.in1) hh I l hlI vs.toArray
 have sz:vs.toArray.size=vs.length:=List.size_toArray ..
 intro r
 induction r with
 | zero=>
  intro j h tk its c hr hj kp gS gI st
  have ej:j=vs.length:=by omega
  have gl:h.IsList l vs.toArray:=by
   obtain ⟨o,e,q⟩:=hl
   exact ⟨o,kp l o hlS hlI e,q⟩
  refine codeAny_builtin PySem.F.entry_min_loop ?_
  rw [Around.under_plainId PySem.F.plain_min_loop _]
  show wpAny _ A.in1 (seqItems? (.ref S)>>=_) _ _ _
  refine wpAny_bind (wpAny_seqItems gS rfl ?_)
  show wpAny _ A.in1 (tryCatch (pyNext (.ref I)) _>>=_) _ _ _
  refine wpAny_bind (wpAny_tryCatch (Wk.done _ _ _ ⟨by rw [sz,<- ej]; exact gI,gl⟩ fun h' tk' k'=>?_))
  have kp':KpB S I s.heap h':=fun b o n1 n2 e=>k' b o (by simpa using n2) (kp b o n1 n2 e)
  have gS':=k' S _ (by simpa using hSI) gS
  rcases st with ⟨e0,e1⟩ | ⟨i,vb,tb,e1,bst⟩
  ·subst e1
   refine wpAny_bind (wpAny_rule (wpAny_pure ?_))
   exact hR _ _ _ kp' (.inl ⟨List.eq_nil_of_length_eq_zero (by omega),rfl⟩)
  ·subst e1
   have s1:=Heap.SameBut.update h' S (Obj.mapSeq fun _=>(#[]:Array Value))
   show wpAny _ A.in1 (updateSeq S (fun _=>#[])>>=_) _ _ _
   refine wpAny_bind (wpAny_updateSeq gS' rfl (wpAny_bind (wpAny_letGo (wpAny_pure ?_))))
   exact hR _ _ _ (fun b o n1 n2 e=>(s1.2 b n1).trans (kp' b o n1 n2 e)) (.inr ⟨i,by rw [<- ej]; exact bst⟩)
 | succ r ih=>
  intro j h tk its c hr hj kp gS gI st
  have lt:j<vs.length:=by omega
  have gl:h.IsList l vs.toArray:=by
   obtain ⟨o,e,q⟩:=hl
   exact ⟨o,kp l o hlS hlI e,q⟩
  refine codeAny_builtin PySem.F.entry_min_loop ?_
  rw [Around.under_plainId PySem.F.plain_min_loop _]
  show wpAny _ A.in1 (seqItems? (.ref S)>>=_) _ _ _
  refine wpAny_bind (wpAny_seqItems gS rfl ?_)
  show wpAny _ A.in1 (tryCatch (pyNext (.ref I)) _>>=_) _ _ _
  refine wpAny_bind (wpAny_tryCatch (Wk.item j _ _ _ (by rw [sz]; exact lt) ⟨gI,gl⟩ fun v h' tk' hP st' k'=>?_))
  have hv:vs[j]?=some v:=by simpa using hP
  have kp':KpB S I s.heap h':=fun b o n1 n2 e=>k' b o (by simpa using n2) (kp b o n1 n2 e)
  have gS':=k' S _ (by simpa using hSI) gS
  have gI':=st'.1
  show wpAny _ A.in1 (tryCatch (holding [v] (call (.ref f) [v])) _>>=_) _ _ _
  refine wpAny_bind (wpAny_tryCatch (wpAny_holding (wpAny_mono (turn j v hv h' tk' kp') (fun x s2 q2=>?_) fun _ _ q=>q.elim)))
  obtain ⟨h2,tk2,t2,rfl,rfl,k2⟩:=q2
  have kp2:KpB S I s.heap h2:=fun b o n1 n2 e=>k2 b o (kp' b o n1 n2 e)
  have gS2:=k2 S _ gS'
  have gI2:h2.IsListIter I l (j+1):=by
   obtain ⟨o,e,q⟩:=gI'
   exact ⟨o,k2 _ _ e,q⟩
  -- the new one is put
  have put:∀ (h3:Heap) (tk3:Nat),h3=h2.update S (Obj.mapSeq fun _=>#[v,.int (kf j) t2])->kN vs kf (j+1) j v->codeAny (model prog w) A (.builtin "min.loop" (iV I f S)) R { s with heap:=h3,toks:=tk3 }:=fun h3 tk3 e3 bst=>by
   subst e3
   have s1:=Heap.SameBut.update h2 S (Obj.mapSeq fun _=>#[v,.int (kf j) t2])
   obtain ⟨c2,hc2⟩:∃ c2,(h2.update S (Obj.mapSeq fun _=>#[v,.int (kf j) t2])).get? S=some (seqObj "list" #[v,.int (kf j) t2] c2):=⟨_,get?_update_seq gS2 fun _=>#[v,.int (kf j) t2]⟩
   refine ih (j+1) _ tk3 _ c2 (by omega) (by omega) (fun b o n1 n2 e=>(s1.2 b n1).trans (kp2 b o n1 n2 e)) hc2 ?_ (.inr ⟨j,v,t2,rfl,bst⟩)
   obtain ⟨o,e,q⟩:=gI2
   exact ⟨o,(s1.2 I hSI.symm).trans e,q⟩
  rcases st with ⟨e0,e1⟩ | ⟨i,vb,tb,e1,bst⟩
  ·subst e1 e0
   show wpAny _ A.in1 (updateSeq S (fun _=>#[v,.int (kf 0) t2])>>=_) _ _ _
   refine wpAny_bind (wpAny_updateSeq gS2 rfl ?_)
   rw [nm]
   exact wpAny_pure ⟨plainId_quiet PySem.F.plain_min_loop _,put _ _ rfl ⟨hv,Nat.lt_succ_self _,fun n hn=>by
    have:n=0:=by omega
    subst this
    exact ⟨Int.le_refl _,fun q=>absurd q (Nat.lt_irrefl _)⟩⟩⟩
  ·subst e1
   show wpAny _ A.in1 (tryCatch (holding [v,.int (kf j) t2] (richCompare .Lt (.int (kf j) t2) (.int (kf i) tb)>>=_)) _>>=_) _ _ _
   refine wpAny_bind (wpAny_tryCatch (wpAny_holding (wpAny_bind (CmpOf.ints_lt (prog:=prog) (w:=w) (A:=A.in1) (P:=fun i v=>∃ t,v=.int (kf i) t) kf (fun _ _ q=>q) j i _ _ _ _ _ ⟨t2,rfl⟩ ⟨tb,rfl⟩ ?_))))
   refine wpAny_bind (wpAny_holding (wpAny_truthy_bool ?_))
   refine wpAny_bind (wpAny_letGo (wpAny_pure ?_))
   by_cases lt2:kf j<kf i
   ·simp only [lt2,decide_true,if_true]
    refine wpAny_bind (wpAny_updateSeq gS2 rfl (wpAny_bind (wpAny_letGo ?_)))
    rw [nm]
    exact wpAny_pure ⟨plainId_quiet PySem.F.plain_min_loop _,put _ _ rfl ⟨hv,Nat.lt_succ_self _,fun n hn=>by
     by_cases e:n=j
     ·subst e; exact ⟨Int.le_refl _,fun q=>absurd q (Nat.lt_irrefl _)⟩
     ·have b1:=bst.least n (by omega)
      exact ⟨by have:=b1.1; omega,fun _=>by have:=b1.1; omega⟩⟩⟩
   ·simp only [lt2,decide_false,Bool.false_eq_true,if_false]
    refine wpAny_bind (wpAny_letGo ?_)
    rw [nm]
    refine wpAny_pure ⟨plainId_quiet PySem.F.plain_min_loop _,ih (j+1) _ _ _ c (by omega) (by omega) kp2 gS2 gI2 (.inr ⟨i,vb,tb,rfl,bst.at_,by have:=bst.lt; omega,fun n hn=>?_⟩)⟩
    by_cases e:n=j
    ·subst e
     exact ⟨by omega,fun q=>absurd q (by have:=bst.lt; omega)⟩
    ·exact bst.least n (by omega)
theorem pH {Q:Value->Shared->Prop} (hh:A.handled=none) (hl:s.heap.IsList l vs.toArray)
  (turn:∀ i v,vs[i]?=some v->∀ (h:Heap) (tk:Nat),Kp s.heap h->wpAny (model prog w) A.in1 (call (.ref f) [v]) (ia { s with heap:=h,toks:=tk } (kf i)) (fun _ _=>False) { s with heap:=h,toks:=tk })
  (hQ:∀ v h tk,Kp s.heap h->((vs = []/\v=.none)\/∃ i,kN vs kf vs.length i v)->Q v { s with heap:=h,toks:=tk }) :
  wpAny (model prog w) A (call (.builtin "min") [.ref l] [(Str.ofString "key",.ref f),(Str.ofString "default",.none)]) Q E s:=by
 have nm:(toString "min" ++ toString ".loop" : String) = "min.loop" := by decide
 obtain ⟨ol,hol,_⟩:=id hl
 have hll:l<s.heap.objs.size:=Heap.lt_size hol
 refine kmk_tree PySem.F.kind_min PySem.F.plain_min PySem.F.entry_min (mF _ _) ?_
 show wpAny _ A.in1 (Builtin.Builtins.bindParams "min" ["key", "default"] 0 ⟨[],[(Str.ofString "key",.ref f),(Str.ofString "default",.none)]⟩>>=_) _ _ s
 refine wpAny_bind (wpAny_of_eq (show Builtin.Builtins.bindParams "min" ["key", "default"] 0 ⟨[],[(Str.ofString "key",.ref f),(Str.ofString "default",.none)]⟩=pure [some (.ref f),some .none] from rfl) ?_)
 refine wpAny_bind (wpAny_pure (wpAny_bind (wpAny_pyIter_list hl (wpAny_bind (wpAny_newList ?_ (Nat.zero_le _))))))
 rw [nm]
 have zI:(s.heap.push { cls:=.type "list_iterator",data:=.fields #[.ref l,.int 0 0] }).objs.size=s.heap.objs.size+1:=Heap.size_push ..
 have kp:∀ h,KpB (s.heap.push { cls:=.type "list_iterator",data:=.fields #[.ref l,.int 0 0] }).objs.size s.heap.objs.size s.heap h->Kp s.heap h:=fun h q b o e=>q b o (by rw [zI]; exact Nat.ne_of_lt (Nat.lt_succ_of_lt (Heap.lt_size e))) (Nat.ne_of_lt (Heap.lt_size e)) e
 refine wpAny_pure ⟨plainId_quiet PySem.F.plain_min_loop _,xQ (vs:=vs) (kf:=kf) (l:=l) hh hl (Nat.ne_of_lt hll) (by rw [zI]; exact Nat.ne_of_lt (Nat.lt_succ_of_lt hll)) (by rw [zI]; exact Nat.ne_of_gt (Nat.lt_succ_self _))
  (fun i v e h tk q=>turn i v e h tk (kp h q)) (fun v h tk q d=>hQ v h tk (kp h q) d) _ 0 _ _ #[] 0 rfl (Nat.zero_le _) (fun b o _ _ e=>Heap.get?_push_of_some _ (Heap.get?_push_of_some _ e)) (Heap.get?_push_size _ rfl) ⟨_,Heap.get?_push_of_some _ (Heap.get?_push_size _ rfl),rfl,rfl⟩ (.inl ⟨rfl,rfl⟩)⟩
end
end
section
variable {X:Cx} {pins:List (Addr×Obj)} {σ:St} {H:Hp} {s:Shared} {tb c:Addr} {k:Nat×Nat×Str} {pa p1 p2 p3 lpos:Pos}
theorem pO {Q:Value->Shared->Prop} (I:Inv X pins σ H s) (hT:(tb,k)∈lamT) (hC:PySem.W.codeHdIn X.K c tb=true) (hcode:X.env.code=.ref c) (hq:X.env.qual++Str.ofString "<lambda>" = k.2.2) (hl1:lpos.line=k.1) (hl2:lpos.col=k.2.1)
  (hz:X.env.scope.names.lookup (Str.ofString "held")=some .cell)
  (h:∀ (f c':Addr) (cl:List (Str×Addr)) (pm ctv:Value) (H':Hp) (s':Shared),Inv X pins σ H' s'->(∀ a o,H a=some o->H' a=some o)->s'.heap.get? f=some (PySem.W.kla_obj (Str.ofString "<lambda>") (X.env.qual++Str.ofString "<lambda>") (E4 pa) (D3 p1 p2 p3) lamS cl pm c' ctv) ->
   s'.heap.CodeRec (.ref c') (X.env.qual++Str.ofString "<lambda>")->(∀ x d,cl.lookup x=some d->X.env.cells.lookup x=some d)->(∃ d,cl.lookup (Str.ofString "held")=some d)->Q (.ref f) s') :
  wpAny (model X.prog X.w) X.A (eval (.Lambda (E4 pa) (D3 p1 p2 p3) lamS lpos) X.env) Q X.xe s:=by
 have tbH:=I.tab _ hT
 obtain ⟨ps,gP,st⟩:=I.hok _ _ tbH
 have gP:s.heap.get? tb=some (PySem.W.tabObj ps):=gP
 have C:PySem.W.CodeHd s.heap c tb:=PySem.W.codeHd_of_K I.kIn hC
 have hns:s.heap.Ns mainGlobals X.mg:=I.mod.glob.keeps I.bk
 obtain ⟨bm,ob,b1,b2,b3,b4,b5,b6⟩:=I.mod.bmain
 have b3:=I.bk _ _ b3
 have hgP:mainGlobals≠tb:=fun q=>by
  obtain ⟨o,es,ep,e,d,_⟩:=hns
  rw [q,gP] at e; cases e; cases d
 have hbP:bm≠tb:=fun q=>by rw [q,gP] at b3; cases b3; cases b4
 have hbG:bm≠mainGlobals:=fun q=>by
  obtain ⟨o,es,ep,e,d,_⟩:=hns
  rw [q,e] at b3; cases b3; rw [d] at b6; cases b6
 have hB:s.heap.BuiltinsAt X.mg tb:=⟨bm,ob,b1,b2,hbG,hbP,b3,b4,b5,b6⟩
 obtain ⟨cl,e,h1,h2,_⟩:=O2 (env:=X.env) lamS.names [] (fun x hx hk=>by
  rcases List.mem_cons.mp hx with rfl | hx
  ·cases hk
  ·rw [List.mem_singleton.mp hx]
   exact I.ok.has _ (.inl hz)) (fun _ _ z=>nomatch z)
 have hclos:closureFor lamS X.env=pure cl:=by
  simp only [closureFor]
  rw [e]; rfl
 have hheld:∃ d,cl.lookup (Str.ofString "held")=some d:=h2 _ (List.mem_cons_of_mem _ List.mem_cons_self)
 have tb0:tb<s.heap.objs.size:=Heap.lt_size gP
 refine PySem.W.kla_eval rfl ?_
 rcases st with e0 | ⟨c',oc,e0,hown,hne,goc,lc⟩
 ·subst e0
  refine PySem.W.kla_makeFunction hclos I.ok.glob hns hcode C gP trivial rfl hgP hB fun c' ctv h' tk hx hge hlt hrec htb=>?_
  obtain ⟨c2,oc,vs,t,e2,hoc,hd,hv⟩:=id hrec
  cases e2
  have hnc:H c'=none:=I.hok.fresh hge
  have kp:∀ b o,b≠tb->s.heap.get? b=some o->(h'.push (PySem.W.kla_obj (Str.ofString "<lambda>") (X.env.qual++Str.ofString "<lambda>") (E4 pa) (D3 p1 p2 p3) lamS cl ((X.mg "__name__").getD .none) c' ctv)).get? b=some o:=fun b o n e=>Heap.get?_push_of_some _ (hx b o n e)
  have same:∀ a o,H a=some o->upd H c' (.own tb) a=some o:=fun a o e=>by rw [c7 (d9 e hnc)]; exact e
  have ntb:∀ b,H b=none->b≠tb:=fun b n z=>by rw [z,tbH] at n; cases n
  have I':Inv X pins σ (upd H c' (.own tb)) { s with heap:=h'.push (PySem.W.kla_obj (Str.ofString "<lambda>") (X.env.qual++Str.ofString "<lambda>") (E4 pa) (D3 p1 p2 p3) lamS cl ((X.mg "__name__").getD .none) c' ctv),toks:=tk }:=by
   refine I.un ⟨fun b o e n _ _=>kp b o (ntb b n) e,fun b o e n _ _=>⟨o.slots,kp b o (ntb b n) e⟩,fun b o e n _=>?_,fun b o e _=>?_,fun b xs q=>same _ _ q,fun b o u q=>same _ _ q,fun b y q=>same _ _ q⟩ fun b u q=>?_
   ·rw [c7 (Nat.ne_of_lt (Nat.lt_of_lt_of_le (Heap.lt_size e) hge))]; exact n
   ·by_cases z:b=tb
    ·rw [z]; exact ⟨_,Heap.get?_push_of_some _ htb⟩
    ·exact ⟨o,kp b o z e⟩
   ·by_cases z:b=c'
    ·subst z
     rw [g8] at q; cases q
     exact ⟨oc,Heap.get?_push_of_some _ hoc⟩
    ·rw [c7 z] at q
     by_cases y:b=tb
     ·subst y
      rw [tbH] at q; cases q
      refine ⟨_,Heap.get?_push_of_some _ htb,.inr ⟨c',oc,?_,g8,Nat.ne_of_gt (Nat.lt_of_lt_of_le tb0 hge),Heap.get?_push_of_some _ hoc,vs,t,hd,by rw [<- hq]; exact hv⟩⟩
      rw [hl1,hl2]; simp
     ·refine (I.hok b u q).stay (fun d v hd' e'=>kp d v ?_ e') (fun d q'=>same _ _ q') fun d xs q'=>same _ _ q'
      rcases hd' with rfl | hd'
      ·exact y
      ·rintro rfl; rw [tbH] at hd'; cases hd'
  exact h _ c' cl _ ctv _ _ I' same (Heap.get?_push_size _ rfl) (hrec.push _) h1 hheld
 ·subst e0
  refine PySem.W.kla_makeFunctionHit hclos I.ok.glob hns hcode C gP ?_ (cv:=.ref c') ?_ hB fun ctv h' tk hk hsz=>?_
  ·exact trivial
  ·rw [<- hl1,<- hl2]
   exact codeAmong_snoc [] trivial rfl
  ·have kp:Kp s.heap (h'.push { cls:=.type "function",data:=.func (PySem.W.kla_fn (Str.ofString "<lambda>") (X.env.qual++Str.ofString "<lambda>") (E4 pa) (D3 p1 p2 p3) lamS cl ((X.mg "__name__").getD .none) (.ref c') ctv) }):=fun b o e=>Heap.get?_push_of_some _ (hk b o e)
   refine h _ c' cl _ ctv H _ (I.un (Un.kept kp) (I.hok.kept kp)) (fun _ _ e=>e) (Heap.get?_push_size _ rfl) ?_ h1 hheld
   obtain ⟨vs,t,d1,d2⟩:=lc
   exact ⟨c',oc,vs,t,rfl,kp _ _ goc,d1,by rw [hq]; exact d2⟩
end
def W6 (key:Int->Int) (is:List Int):Option Int:=is.find? fun i=>is.all fun x=>decide (key i<=key x)
theorem mE {key:Int->Int} {is:List Int} {n:Nat} {i:Int} (h:is[n]?=some i) (hb:∀ m j,is[m]?=some j->key i<=key j/\(m<n->key i<key j)):W6 key is=some i:=by
 unfold W6
 rw [List.find?_eq_some_iff_append]
 obtain ⟨hn,e⟩:=List.getElem?_eq_some_iff.mp h
 refine ⟨?_,is.take n,is.drop (n+1),?_,fun a ha=>?_⟩
 ·rw [List.all_eq_true]
  intro x hx
  obtain ⟨m,hm,ex⟩:=List.mem_iff_getElem.mp hx
  exact decide_eq_true (hb m x (by rw [List.getElem?_eq_getElem hm,ex])).1
 ·rw [<- e,List.getElem_cons_drop,List.take_append_drop]
 ·obtain ⟨m,hm,ea⟩:=List.mem_iff_getElem.mp ha
  rw [List.length_take] at hm
  rw [List.getElem_take] at ea
  have q:=(hb m a (by rw [List.getElem?_eq_getElem (by omega),ea])).2 (by omega)
  rw [Bool.not_eq_true',List.all_eq_false]
  exact ⟨i,List.mem_of_getElem? h,by simp; omega⟩
def vO:Option Int->V
 | none=>.non
 | some i=>.int i
def qU (K:Frag) (j:Nat) (ta:TA):TE:=fun σ H Q=>ta σ H fun vs H1=>∃ (l b:Addr) (is ks:List Int),vs = [.ref l]/\SqL K H1 l (is.map V.int)/\σ[j]?=some (some (.ref b))/\SqL K H1 b (ks.map V.int)/\(∀ i∈is,0<=i/\i<(ks.length:Int)) /\
 ∀ H2:Hp,(∀ a o,H1 a=some o->H2 a=some o)->Q (vO (W6 (fun i=>ks.getD i.toNat 0) is)) H2
theorem SqL.more {K:Frag} {H1 H2:Hp} {a:Addr} {xs:List V} (h:SqL K H1 a xs) (sm:∀ a o,H1 a=some o->H2 a=some o):SqL K H2 a xs:=by
 rcases h with (h | ⟨o,h⟩) | h
 ·exact .inl (.inl (sm _ _ h))
 ·exact .inl (.inr ⟨o,sm _ _ h⟩)
 ·exact .inr h
theorem Y2 {is:List Int} {its:List Value} (r:Vals (is.map V.int) its) {n:Nat} {i:Int} (h:is[n]?=some i):∃ t,its[n]?=some (.int i t):=by
 obtain ⟨w,e,rw'⟩:=r.get (i:=n) (x:=V.int i) (by rw [List.getElem?_map,h]; rfl)
 obtain ⟨t,rfl⟩:=rw'
 exact ⟨t,e⟩
section
variable {X:Cx} {tb c:Addr} {k:Nat×Nat×Str} {pa p1 p2 p3 lpos p p4 pos kp1 kp2:Pos} {a:Expr} {ta:TA} {j kt:Nat}
theorem tH (hT:(tb,k)∈lamT) (hC:PySem.W.codeHdIn X.K c tb=true) (hcode:X.env.code=.ref c) (hq:X.env.qual++Str.ofString "<lambda>" = k.2.2) (hl1:lpos.line=k.1) (hl2:lpos.col=k.2.1)
  (hz:X.env.scope.names.lookup (Str.ofString "held")=some .cell) (hN:X.N[j]?=some (Str.ofString "held")) (hcalm:X.calm=true) {kr:Nat} (hr:Room (kr+2) X.A)
  (hg:Gl X "min") (hm:X.mg "min" = none) (ha:PA X [a] ta)
  (he:backTo pos (starEach [a] X.env)=(false,eval a X.env)::backTo pos (starEach [] X.env):=by rfl) (hplain:(backTo pos (starEach [a] X.env)).any (·.1)=false:=by rfl)
  (hall:(backToKw pos (keywordEach [⟨some "key",.Lambda (E4 pa) (D3 p1 p2 p3) lamS lpos,kp1⟩,⟨some "default",.Constant .none kt p4,kp2⟩] X.env)).all (·.1.isSome)=true:=by rfl)
  (hkw:(backToKw pos (keywordEach [⟨some "key",.Lambda (E4 pa) (D3 p1 p2 p3) lamS lpos,kp1⟩,⟨some "default",.Constant .none kt p4,kp2⟩] X.env)).any (·.1.isNone)=false:=by rfl)
  (hks:(backToKw pos (keywordEach [⟨some "key",.Lambda (E4 pa) (D3 p1 p2 p3) lamS lpos,kp1⟩,⟨some "default",.Constant .none kt p4,kp2⟩] X.env)).filterMap (·.1) = [Str.ofString "key",Str.ofString "default"]:=by rfl) :
  PE X (.Call (.Name "min" p) [a] [⟨some "key",.Lambda (E4 pa) (D3 p1 p2 p3) lamS lpos,kp1⟩,⟨some "default",.Constant .none kt p4,kp2⟩] pos) (qU X.K j ta):=by
 intro pins s σ H Q I h
 refine wpAny_Call_Name_kw (J5 I hg hm (u:=.builtin "min") rfl ?_)
 refine PyProof.Rows.callWith_kw (thn (ha pos pins s σ H _ I h) fun us s1 zz95=>?_) he hplain hall hkw
 obtain ⟨vs,H1,I1,r1,l,b,is,ks,e1,hl,hj,hb,hrg,hQ⟩:=zz95
 subst e1
 cases r1 with
 | cons ru rt=>
 cases rt
 cases ru
 rw [hks]
 show wpAny _ _ (evalAll ((do let v <- eval (.Lambda (E4 pa) (D3 p1 p2 p3) lamS lpos) X.env; standAt pos; pure v)::(do let v <- eval (.Constant .none kt p4) X.env; standAt pos; pure v) :: [])) _ _ s1
 refine wpAny_evalAll_cons (wpAny_bind (pO I1 hT hC hcode hq hl1 hl2 hz fun f c' cl pm ctv H2 s2 I2 sm go hrec hc1 hc2=>wpAny_bind (wpAny_standAt (wpAny_pure ?_))))
 refine wpAny_evalAll_cons (wpAny_bind (Constant_none (wpAny_bind (wpAny_standAt (wpAny_pure (wpAny_evalAll_nil ?_))))))
 obtain ⟨its,rI,pl,hsz⟩:=I2.list (hl.more sm)
 obtain ⟨jts,rJ,plJ,hsJ⟩:=I2.list (hb.more sm)
 have hil:is.length=its.length:=by have:=rI.length; rwa [List.length_map] at this
 have hjl:ks.length=jts.length:=by have:=rJ.length; rwa [List.length_map] at this
 obtain ⟨d,hd⟩:=hc2
 have hcell:s2.heap.IsCell d (some (.ref b)):=by
  obtain ⟨m0,_,hl0⟩:=I2.loc
  obtain ⟨u,ru,lk⟩:=hl0 j _ _ hN hj (.inr (.inl hz))
  cases ru
  rcases lk with ⟨q,_⟩ | ⟨_,d',e',z⟩
  ·have q':X.env.scope.names.lookup (Str.ofString "held")=some .local:=q
   rw [hz] at q'; cases q'
  ·rw [hc1 _ _ hd] at e'; cases e'
   exact z
 refine pH (vs:=its) (kf:=fun n=>ks.getD (is.getD n 0).toNat 0) (I2.ok.hd hcalm) pl.isList (fun n v hv h tk kp=>?_) fun v h tk kp best=>?_
 ·have hn:n<is.length:=by rw [hil]; exact (List.getElem?_eq_some_iff.mp hv).1
  have ei:is[n]?=some (is.getD n 0):=by rw [List.getD_eq_getElem?_getD,List.getElem?_eq_getElem hn]; rfl
  obtain ⟨t,et⟩:=Y2 rI ei
  rw [et] at hv; cases hv
  have rg:=hrg _ (List.mem_of_getElem? ei)
  generalize is.getD n 0=i at rg
  have ek:ks[i.toNat]?=some (ks.getD i.toNat 0):=by rw [List.getD_eq_getElem?_getD,List.getElem?_eq_getElem (by omega)]; rfl
  obtain ⟨t',et'⟩:=Y2 rJ ek
  have l63:=U8
  have lj:=hsJ
  rw [List.length_map] at lj
  exact qG (s:={ s2 with heap:=h,toks:=tk }) hr.in1.depth (kp _ _ go) (hrec.keeps kp) (I2.nolimit.keeps kp) hd (hcell.keeps kp) (let ⟨o,e,q⟩:=plJ.isList; ⟨o,kp _ _ e,q⟩) rg.1 (by omega) (by simpa using et')
 ·have I3:Inv X pins σ H2 { s2 with heap:=h,toks:=tk }:=I2.un (Un.kept kp) (I2.hok.kept kp)
  rcases best with ⟨e0,rfl⟩ | ⟨n,bst⟩
  ·have:is = []:=List.eq_nil_of_length_eq_zero (by rw [hil,e0]; rfl)
   subst this
   exact ⟨.non,H2,I3,rfl,hQ H2 sm⟩
  ·have hn:n<is.length:=by rw [hil]; exact bst.lt
   have ei:is[n]?=some (is.getD n 0):=by rw [List.getD_eq_getElem?_getD,List.getElem?_eq_getElem hn]; rfl
   obtain ⟨t,et⟩:=Y2 rI ei
   have hv:=bst.at_
   rw [et] at hv; cases hv
   have em:W6 (fun i=>ks.getD i.toNat 0) is=some (is.getD n 0):=mE ei fun m y hy=>by
    have hm':m<its.length:=by rw [<- hil]; exact (List.getElem?_eq_some_iff.mp hy).1
    have:=bst.least m hm'
    have ey:is.getD m 0=y:=by rw [List.getD_eq_getElem?_getD,hy]; rfl
    rw [ey] at this
    exact this
   have hQ2:=hQ H2 sm
   rw [em] at hQ2
   exact ⟨.int (is.getD n 0),H2,I3,⟨t,rfl⟩,hQ2⟩
end
end L2
namespace L2
open PySem PySem.Spec PyProof.Rows
theorem Fun.okC {P:Program} {w:World} {K:Frag} {mg:Str->Option Value} {base:Heap} {x qual:Str} {st:Stmt} {f:Addr} {fd:FuncData} {N ps:List Str} {k:Nat} {sp:Sp} (F:Fun K x qual st f fd) (S:f8 N ps (c6 st)) (len:∀ vs H Q E,sp vs H Q E->vs.length=ps.length)
  (hbody:∀ (A:Around) (outer:List Env) (s:Shared) (H:Hp) (vs:List V) (Q:VK) (E:XK),Room k (A.deeper (envOfC qual (c6 st) s.heap.objs.size f fd.code))->sp vs H Q E ->
   ∃ t,PSs (T6 CX0 P w K mg base N qual (c6 st) f fd.code A outer s H E).nox (y9 st) t/\t { nx:=fun _ H'=>Q .non H',rt:=Q } (start N vs) H):FnOk P w K mg base CX0 (k+1) f fd ps sp:=by
 obtain ⟨oc,od,kV,doc,pm,an,cdv,ct,osl,rfl,lk,hcd⟩:=F.ex
 refine rG lk hcd S len fun A outer s H vs Q E hr hsp=>?_
 obtain ⟨t,h,q⟩:=hbody A outer s H vs Q E hr hsp
 exact ⟨t,h.nox,q⟩
end L2
namespace TP
open PySem L2
def vW:Option Int->W
 | none=>.non
 | some i=>.int i
def bz (is ks:List Int):R W:=if is.all (fun i=>decide (0<=i)&&decide (i<(ks.length:Int)))=true then .ok (vW (W6 (fun i=>ks.getD i.toNat 0) is)) else .stuck
def km:W->W->R W
 | .lst ws,.lst us=>toR (r9 ws)>>=fun is=>toR (r9 us)>>=fun ks=>bz is ks
 | _,_=>.stuck
def mML (j:Nat) (ρ:Rho):List W->R W
 | [w]=>b8 .B j ρ>>=fun u=>km w u
 | _=>.stuck
def cN (j:Nat) (ma:Rho->R (List W)):Rho->R W:=fun ρ=>ma ρ>>=mML j ρ
section
variable {K:Frag} {EX:EXT} {H0 G H:Hp} {ρ:Rho} {σ:L2.St} {Q:VK}
theorem zY {j:Nat} {ma:Rho->R (List W)} (h:tM K EX .F (cN j ma) σ H Q):qU K j (tA K EX .B ma) σ H Q:=by
 obtain ⟨H0,G,ρ,I,o⟩:=h
 unfold cN at o
 refine ⟨H0,G,ρ,I,Out.bind o fun xs G1 H1 ws e1 m1 o1=>?_⟩
 have I1:=I.ext e1
 unfold mML at o1
 split at o1
 ·rename_i w
  have hx:∃ x,xs = [x]/\Md K H0 H G1 H1 x w .B:=by
   cases m1 with
   | cons a t=>cases t; exact ⟨_,rfl,a⟩
  obtain ⟨x,rfl,a⟩:=hx
  have key:O9 j σ H1 (fun v H2=>∃ (l b:Addr) (is ks:List Int),x=V.ref l/\SqL K H2 l (is.map V.int)/\v=V.ref b/\SqL K H2 b (ks.map V.int)/\(∀ i∈is,0<=i/\i<(ks.length:Int))/\∀ H3:Hp,(∀ a o,H2 a=some o->H3 a=some o)->Q (vO (W6 (fun i=>ks.getD i.toNat 0) is)) H3):=by
   refine eU (d:=.B) (EX:=EX) ⟨H0,G1,ρ,I1,Out.bind o1 fun v G2 H2 u e2 m2 o2=>?_⟩
   have I2:=I1.ext e2
   have a2:=a.move e2
   cases w <;> first | exact o2.elim | skip
   cases u <;> first | exact o2.elim | skip
   rename_i ws us
   replace o2:Out EX G2 H2 (mdW K .F H0 H) (toR (r9 ws)>>=fun is=>toR (r9 us)>>=fun ks=>bz is ks) Q:=o2
   cases q1:r9 ws with
   | none=>rw [q1] at o2; exact o2.elim
   | some is=>
    cases q2:r9 us with
    | none=>rw [q1,q2] at o2; exact o2.elim
    | some ks=>
     rw [q1,q2] at o2
     replace o2:Out EX G2 H2 (mdW K .F H0 H) (bz is ks) Q:=o2
     unfold bz at o2
     by_cases hc:is.all (fun i=>decide (0<=i)&&decide (i<(ks.length:Int)))=true
     ·rw [if_pos hc] at o2
      obtain ⟨p,ys,e3,hs,r⟩:=a2.lstB I2
      obtain ⟨p',ys',e4,hs',r'⟩:=m2.lstB I2
      rw [Reps.ints r q1] at hs
      rw [Reps.ints r' q2] at hs'
      refine ⟨p,p',is,ks,e3,.inl (.inl hs),e4,.inl (.inl hs'),fun i hi=>?_,fun H3 sm=>?_⟩
      ·have:=List.all_eq_true.mp hc i hi
       rw [Bool.and_eq_true] at this
       exact ⟨of_decide_eq_true this.1,of_decide_eq_true this.2⟩
      ·refine o2 _ G2 H3 ⟨Same.refl _,sm,I2.gh.trans sm,fun _ _ _ _ e=>e⟩ ?_
       cases W6 (fun i=>ks.getD i.toNat 0) is with
       | none=>exact Md.sca rfl (fun _=>.non) .F
       | some i=>exact Md.sca rfl (fun _=>.int) .F
     ·rw [if_neg hc] at o2; exact o2.elim
  obtain ⟨v,es,l,b,is,ks,e1',h1,e2',h2,h3,h4⟩:=key
  subst e1' e2'
  exact ⟨l,b,is,ks,rfl,h1,es,h2,h3,h4⟩
 ·exact o1.elim
end
section
variable {X:Cx} {K:Frag} {EX:EXT} {tb c:Addr} {k:Nat×Nat×Str} {pa p1 p2 p3 lpos p p4 pos kp1 kp2:Pos} {a:Expr} {ma:Rho->R (List W)} {j kt:Nat}
theorem xa (hT:(tb,k)∈lamT) (hC:PySem.W.codeHdIn X.K c tb=true) (hcode:X.env.code=.ref c) (hq:X.env.qual++Str.ofString "<lambda>" = k.2.2) (hl1:lpos.line=k.1) (hl2:lpos.col=k.2.1)
  (hz:X.env.scope.names.lookup (Str.ofString "held")=some .cell) (hN:X.N[j]?=some (Str.ofString "held")) (hcalm:X.calm=true) {kr:Nat} (hr:Room (kr+2) X.A)
  (hg:Gl X "min") (hm:X.mg "min" = none) (ha:PA X [a] (tA K EX .B ma)) (hK:X.K=K:=by rfl)
  (he:backTo pos (starEach [a] X.env)=(false,eval a X.env)::backTo pos (starEach [] X.env):=by rfl) (hplain:(backTo pos (starEach [a] X.env)).any (·.1)=false:=by rfl)
  (hall:(backToKw pos (keywordEach [⟨some "key",.Lambda (E4 pa) (D3 p1 p2 p3) lamS lpos,kp1⟩,⟨some "default",.Constant .none kt p4,kp2⟩] X.env)).all (·.1.isSome)=true:=by rfl)
  (hkw:(backToKw pos (keywordEach [⟨some "key",.Lambda (E4 pa) (D3 p1 p2 p3) lamS lpos,kp1⟩,⟨some "default",.Constant .none kt p4,kp2⟩] X.env)).any (·.1.isNone)=false:=by rfl)
  (hks:(backToKw pos (keywordEach [⟨some "key",.Lambda (E4 pa) (D3 p1 p2 p3) lamS lpos,kp1⟩,⟨some "default",.Constant .none kt p4,kp2⟩] X.env)).filterMap (·.1) = [Str.ofString "key",Str.ofString "default"]:=by rfl) :
  PE X (.Call (.Name "min" p) [a] [⟨some "key",.Lambda (E4 pa) (D3 p1 p2 p3) lamS lpos,kp1⟩,⟨some "default",.Constant .none kt p4,kp2⟩] pos) (tM K EX .F (cN j ma)):=by
 subst hK
 exact (tH hT hC hcode hq hl1 hl2 hz hN hcalm hr hg hm ha he hplain hall hkw hks).mono fun _ _ _ q=>zY q
end
theorem gX (j:Nat) (ma:Rho->R (List W)) (ρ:Rho):cN j ma ρ=ma ρ>>=mML j ρ:=rfl
theorem mJ (j:Nat) (ρ:Rho) (w:W):mML j ρ [w]=b8 .B j ρ>>=fun u=>km w u:=rfl
theorem jd (is ks:List Int):km (.lst (is.map W.int)) (.lst (ks.map W.int))=bz is ks:=by
 show toR (r9 (is.map W.int))>>=_=_
 rw [ints_map,ints_map]; rfl
section
variable {K:Frag} {EX:EXT} {H:Hp} {σ:St} {d:Mode} {D:Ends}
end
section
variable {X:Cx} {K:Frag} {EX:EXT} {d:Mode} {m1 m2:Rho->R W} {e1 e2:Expr}
end
end TP
namespace L2
open PySem
theorem codeTab {h:Heap} {c P:Addr} (C:PySem.W.CodeHd h c P):isCodeTable h P:=by
 obtain ⟨o,vs,_,_,_,_,_,_,_,e1,e2,e3,e4,_⟩:=C
 exact ⟨c,o,vs,e1,e2,e3,e4⟩
end L2
namespace TP
open PySem L2
abbrev tI (ns:List Int):W:=.tup (ns.map W.int)
abbrev lI (ns:List Int):W:=.lst (ns.map W.int)
theorem v4 (ns:List Int):g4 (ns.map W.int)=true:=by
 induction ns with
 | nil=>rfl
 | cons n ns ih=>rw [List.map_cons]; simp only [g4,noL,ih,Bool.and_self]
theorem uO (n:Bool) (i j:Int):j6 n (.int i) (.int j)=.ok (.bl (if n then !decide (i=j) else decide (i=j))):=by
 show R.ok (W.bl (if n then !decide (V.int i=V.int j) else decide (V.int i=V.int j)))=_
 rw [show decide (V.int i=V.int j)=decide (i=j) from decide_eq_decide.mpr ⟨V.int.inj,congrArg _⟩]
theorem uP (n:Bool) (i j:Bool):j6 n (.bl i) (.bl j)=.ok (.bl (if n then !decide (i=j) else decide (i=j))):=by
 show R.ok (W.bl (if n then !decide (V.bl i=V.bl j) else decide (V.bl i=V.bl j)))=_
 rw [show decide (V.bl i=V.bl j)=decide (i=j) from decide_eq_decide.mpr ⟨V.bl.inj,congrArg _⟩]
theorem uK (n:Bool) (i j:Str):j6 n (.str i) (.str j)=.ok (.bl (if n then !decide (i=j) else decide (i=j))):=by
 show R.ok (W.bl (if n then !decide (V.str i=V.str j) else decide (V.str i=V.str j)))=_
 rw [show decide (V.str i=V.str j)=decide (i=j) from decide_eq_decide.mpr ⟨V.str.inj,congrArg _⟩]
theorem uL (n:Bool):j6 n .non .non=.ok (.bl (!n)):=by cases n <;> rfl
theorem uM (n:Bool) (i:Int):j6 n .non (.int i)=.ok (.bl n):=by cases n <;> rfl
theorem uN (n:Bool) (i:Int):j6 n (.int i) .non=.ok (.bl n):=by cases n <;> rfl
theorem atW {ns:List Int} {i:Int} (h0:0<=i) (h1:i<ns.length):L2.atI (ns.map W.int) i=some (.int (ns.getD i.toNat 0)):=by
 unfold L2.atI
 rw [List.length_map,aP h0 h1]
 show (ns.map W.int)[i.toNat]?=_
 rw [List.getElem?_map,Y9 (by omega)]; rfl
theorem D8 {ws:List W} {k:Nat} {w:W} (h:ws[k]?=some w):L2.atI ws (k:Int)=some w:=by
 have hk:=(List.getElem?_eq_some_iff.mp h).1
 unfold L2.atI
 rw [aP (by omega) (by omega),Int.toNat_natCast]
 exact h
def andThen (r:R Fl) (n:Rho->R Fl):R Fl:=r>>=fun f=>match f with
 | .nx ρ'=>n ρ'
 | .rt w=>.ok (.rt w)
 | .bk ρ'=>.ok (.bk ρ')
 | .ct ρ'=>.ok (.ct ρ')
theorem ui (m n:Rho->R Fl) (ρ:Rho):e8 m n ρ=andThen (m ρ) n:=rfl
theorem kG (ρ:Rho) (n:Rho->R Fl):andThen (.ok (.nx ρ)) n=n ρ:=rfl
theorem kF (w:W) (n:Rho->R Fl):andThen (.ok (.rt w)) n=.ok (.rt w):=rfl
theorem kI (ρ:Rho) (n:Rho->R Fl):andThen (.ok (.bk ρ)) n=.ok (.bk ρ):=rfl
theorem kH (ρ:Rho) (n:Rho->R Fl):andThen (.ok (.ct ρ)) n=.ok (.ct ρ):=rfl
theorem AZ (w:W) (ρ:Rho):mC w ρ=.ok w:=rfl
theorem BM (f:W->R W) (ma:Rho->R W) (ρ:Rho):b1 f ma ρ=(ma ρ>>=f):=rfl
def R2b (a b:R W) (f:W->W->R W):R W:=a>>=fun x=>b>>=fun y=>f x y
theorem BL (f:W->W->R W) (ma mb:Rho->R W) (ρ:Rho):b2 f ma mb ρ=R2b (ma ρ) (mb ρ) f:=rfl
theorem Ax (x y:W) (f:W->W->R W):R2b (.ok x) (.ok y) f=f x y:=rfl
theorem BK (f:List W->R W) (ma:Rho->R (List W)) (ρ:Rho):bA f ma ρ=(ma ρ>>=f):=rfl
theorem BJ (f:List W->R (List W)) (ma:Rho->R (List W)) (ρ:Rho):bI f ma ρ=(ma ρ>>=f):=rfl
theorem BI (ma:Rho->R W) (ρ:Rho):bS ma ρ=(ma ρ>>=A3):=rfl
theorem BQ (ρ:Rho):aN ρ=.ok []:=rfl
def rR (a:R W) (b:R (List W)):R (List W):=a>>=fun x=>b>>=fun xs=>.ok (x::xs)
theorem BR (ma:Rho->R W) (mr:Rho->R (List W)) (ρ:Rho):aC ma mr ρ=rR (ma ρ) (mr ρ):=rfl
theorem qP (x:W) (xs:List W):rR (.ok x) (.ok xs)=.ok (x::xs):=rfl
theorem vm (ma:Rho->R W) (ρ:Rho):az ma ρ=(ma ρ>>=chk):=rfl
theorem qL (ma:Rho->R W) (ρ:Rho):g6 ma ρ=(ma ρ>>=toB):=rfl
theorem sj (a b:Rho->R Bool) (ρ:Rho):jC a b ρ=cY (a ρ) (b ρ):=rfl
theorem vL (a b:Rho->R Bool) (ρ:Rho):Y6 a b ρ=rOr (a ρ) (b ρ):=rfl
theorem si (a:Rho->R Bool) (ρ:Rho):G8 a ρ=jG (a ρ):=rfl
theorem sX (x y:Bool):cY (.ok x) (.ok y)=.ok (x&&y):=by cases x <;> rfl
theorem sY (r:R Bool):cY (.ok false) r=.ok false:=rfl
theorem sW (r:R Bool):cY (.ok true) r=r:=rfl
theorem wU (x y:Bool):rOr (.ok x) (.ok y)=.ok (x||y):=by cases x <;> rfl
theorem wT (r:R Bool):rOr (.ok true) r=.ok true:=rfl
theorem wV (r:R Bool):rOr (.ok false) r=r:=rfl
theorem sQ (x:Bool):jG (.ok x)=.ok (!x):=rfl
theorem se (a b:Rho->R W) (ρ:Rho):V7 a b ρ=aI (a ρ) (b ρ):=rfl
theorem vE (a b:Rho->R W) (ρ:Rho):vOr a b ρ=fx (a ρ) (b ρ):=rfl
theorem rZ (a:Rho->R W) (ρ:Rho):eY a ρ=eL (a ρ):=rfl
theorem oZ (x y:Bool):aI (.ok (.bl x)) (.ok (.bl y))=.ok (.bl (x&&y)):=by cases x <;> rfl
theorem pb (r:R W):aI (.ok (.bl false)) r=.ok (.bl false):=rfl
theorem oY (r:R W):aI (.ok (.bl true)) r=r:=rfl
theorem sO (x y:Bool):fx (.ok (.bl x)) (.ok (.bl y))=.ok (.bl (x||y)):=by cases x <;> rfl
theorem sN (r:R W):fx (.ok (.bl true)) r=.ok (.bl true):=rfl
theorem sP (r:R W):fx (.ok (.bl false)) r=r:=rfl
theorem oU (x:Bool):eL (.ok (.bl x))=.ok (.bl (!x)):=rfl
def jH (c:R Bool) (a b:R W):R W:=c>>=fun t=>if t then a else b
theorem vF (c:Rho->R Bool) (a b:Rho->R W) (ρ:Rho):vIf c a b ρ=jH (c ρ) (a ρ) (b ρ):=rfl
theorem sR (a b:R W):jH (.ok true) a b=a:=rfl
theorem sT (a b:R W):jH (.ok false) a b=b:=rfl
theorem sS (t:Bool) (x y:W):jH (.ok t) (.ok x) (.ok y)=.ok (if t then x else y):=by cases t <;> rfl
def hU (f f':W->W->R W) (a b c:R W):R W:=a>>=fun x=>b>>=fun y=>f x y>>=fun z=>toB z>>=fun t=>if t then c>>=fun u=>f' y u else .ok (.bl false)
theorem kR (f f':W->W->R W) (ma mb mc:Rho->R W) (ρ:Rho):vG f f' ma mb mc ρ=hU f f' (ma ρ) (mb ρ) (mc ρ):=rfl
theorem nT (g g':Int->Int->Bool) (i j k:Int):hU (fI0 fun i j=>.bl (g i j)) (fI0 fun i j=>.bl (g' i j)) (.ok (.int i)) (.ok (.int j)) (.ok (.int k))=.ok (.bl (g i j&&g' j k)):=by
 unfold hU
 show (if g i j=true then _ else _)=_
 cases h:g i j <;> simp [fI0]
def jU (ws:List W):R W:=lim ws.length (.tup ws)
def jV (ws:List W):R W:=lim ws.length (.lst ws)
theorem rY (ma:Rho->R (List W)) (ρ:Rho):x9 ma ρ=(ma ρ>>=jU):=rfl
theorem sd (ma:Rho->R (List W)) (ρ:Rho):E2 ma ρ=(ma ρ>>=jV):=rfl
theorem AU (ρ:Rho):pN ρ=.ok none:=rfl
theorem AT (m:Rho->R W) (ρ:Rho):pS m ρ=(m ρ>>=eM):=rfl
theorem lW (i:Int):eM (.int i)=.ok (some i):=rfl
def Rsl (c:Bool) (x:R W) (l u:R (Option Int)):R W:=x>>=fun x=>l>>=fun l=>u>>=fun u=>toR (lstOf x)>>=fun ws=>chks c (D6 ws l u)
theorem vD (c:Bool) (m:Rho->R W) (ml mh:Rho->R (Option Int)) (ρ:Rho):vSl c m ml mh ρ=Rsl c (m ρ) (ml ρ) (mh ρ):=rfl
theorem vw (c:Bool) (ws:List W) (l u:Option Int):Rsl c (.ok (.lst ws)) (.ok l) (.ok u)=chks c (D6 ws l u):=rfl
theorem vv (c:Bool) (ws:List W) (l u:Option Int):Rsl c (.ok (.scr ws)) (.ok l) (.ok u)=chks c (D6 ws l u):=rfl
def rS (r:R (List W)) (n:Nat) (mg:W->Rho->Option Rho) (mc:Rho->R Bool) (me:Rho->R W) (ρ:Rho):R W:=r>>=fun ws=>k4 n mg mc me ws ρ
theorem oa (n:Nat) (mi:Rho->R (List W)) (mg:W->Rho->Option Rho) (mc:Rho->R Bool) (me:Rho->R W) (ρ:Rho):l6 n mi mg mc me ρ=rS (mi ρ) n mg mc me ρ:=rfl
theorem qQ (ws:List W) (n:Nat) (mg:W->Rho->Option Rho) (mc:Rho->R Bool) (me:Rho->R W) (ρ:Rho):rS (.ok ws) n mg mc me ρ=k4 n mg mc me ws ρ:=rfl
theorem we (ρ:Rho):sNx ρ=.ok (.nx ρ):=rfl
theorem wk (ρ:Rho):sBk ρ=.ok (.bk ρ):=rfl
theorem wg (ρ:Rho):sCt ρ=.ok (.ct ρ):=rfl
def rQ (r:R W) (ρ:Rho):R Fl:=r>>=fun _=>.ok (.nx ρ)
theorem oG (m:Rho->R W) (ρ:Rho):AF m ρ=rQ (m ρ) ρ:=rfl
theorem qO (w:W) (ρ:Rho):rQ (.ok w) ρ=.ok (.nx ρ):=rfl
def fv (w:W):R Fl:=.ok (.rt w)
theorem sC (m:Rho->R W) (ρ:Rho):i3 m ρ=(m ρ>>=fv):=rfl
theorem sM (w:W):fv w=.ok (.rt w):=rfl
theorem oF (ρ:Rho):AC ρ=.ok (.rt .non):=rfl
def kK (r:R W) (f:W->Sl) (i:Nat) (ρ:Rho):R Fl:=r>>=fun w=>.ok (.nx (ρ.set i (f w)))
theorem AA (i:Nat) (m:Rho->R W) (ρ:Rho):sV i m ρ=kK (m ρ) Sl.val i ρ:=rfl
theorem AB (i:Nat) (m:Rho->R W) (ρ:Rho):sU i m ρ=kK (m ρ) Sl.par i ρ:=rfl
theorem AE (i:Nat) (m:Rho->R W) (ρ:Rho):sF i m ρ=kK (m ρ) G9 i ρ:=rfl
theorem vx (w:W) (f:W->Sl) (i:Nat) (ρ:Rho):kK (.ok w) f i ρ=.ok (.nx (ρ.set i (f w))):=rfl
theorem lg (ws:List W):G9 (.lst ws)=.own ws:=rfl
theorem kZ (ws:List W):G9 (.tup ws)=.val (.tup ws):=rfl
theorem lh (i:Int):G9 (.int i)=.val (.int i):=rfl
theorem oB (i:Bool):G9 (.bl i)=.val (.bl i):=rfl
theorem lf:G9 .non=.val .non:=rfl
theorem ld (i:Str):G9 (.str i)=.val (.str i):=rfl
def vJ:Option Rho->R Fl
 | some ρ=>.ok (.nx ρ)
 | none=>.stuck
def Aw (r:R W) (mg:W->Rho->Option Rho) (ρ:Rho):R Fl:=r>>=fun w=>toR (mg w ρ)>>=fun ρ'=>.ok (.nx ρ')
theorem AD (mg:W->Rho->Option Rho) (m:Rho->R W) (ρ:Rho):sG mg m ρ=Aw (m ρ) mg ρ:=rfl
theorem vA (w:W) (mg:W->Rho->Option Rho) (ρ:Rho):Aw (.ok w) mg ρ=vJ (mg w ρ):=by
 show (toR (mg w ρ)>>=_)=_
 cases mg w ρ <;> rfl
theorem kW (ρ:Rho):vJ (some ρ)=.ok (.nx ρ):=rfl
def As (r:R (List W)) (mg:W->Rho->Option Rho) (mb:Rho->R Fl) (ρ:Rho):R Fl:=r>>=fun ws=>A4 mg mb ws ρ
theorem sE (mi:Rho->R (List W)) (mg:W->Rho->Option Rho) (mb:Rho->R Fl) (ρ:Rho):J1 mi mg mb ρ=As (mi ρ) mg mb ρ:=rfl
theorem vy (ws:List W) (mg:W->Rho->Option Rho) (mb:Rho->R Fl) (ρ:Rho):As (.ok ws) mg mb ρ=A4 mg mb ws ρ:=rfl
theorem sD (i:Nat) (m:Rho->R Fl) (ρ:Rho):Z3 i m ρ=m (frz i ρ):=rfl
def dw:Option Sl->Nat->Rho->Rho
 | some (.own ws),i,ρ=>ρ.set i (.val (.lst ws))
 | _,_,ρ=>ρ
theorem yT (i:Nat) (ρ:Rho):frz i ρ=dw (ρ[i]?) i ρ:=by
 unfold frz dw
 rcases h:ρ[i]? with _ | s
 ·rfl
 ·cases s <;> rfl
theorem qk (ws:List W) (i:Nat) (ρ:Rho):dw (some (.own ws)) i ρ=ρ.set i (.val (.lst ws)):=rfl
theorem qi (w:W) (i:Nat) (ρ:Rho):dw (some (.val w)) i ρ=ρ:=rfl
theorem qj (w:W) (i:Nat) (ρ:Rho):dw (some (.par w)) i ρ=ρ:=rfl
theorem uE (i:Nat) (ρ:Rho):dw (some .un) i ρ=ρ:=rfl
def rdS (d:Mode):Option Sl->R W
 | some (.val w)=>(match d with | .F=>chk w | _=>.ok w)
 | some (.par w)=>(match d with | .F=>chk w | .V=>chk w | .C=>chk w | _=>.ok w)
 | some (.own ws)=>(match d with | .C=>.ok (.lst ws) | .B=>.ok (.lst ws) | _=>.stuck)
 | some (.iop _ ws)=>(match d with | .B=>.ok (.lst ws) | .U=>.ok (.lst ws) | _=>.stuck)
 | some (.hz w)=>(match d with | .B=>.ok w | .U=>.ok w | _=>.stuck)
 | _=>.stuck
theorem dn (d:Mode) (i:Nat) (ρ:Rho):b8 d i ρ=rdS d (ρ[i]?):=by
 unfold b8 rdS
 rfl
theorem wG (w:W):rdS .F (some (.val w))=chk w:=rfl
theorem wE (w:W):rdS .V (some (.val w))=.ok w:=rfl
theorem wF (w:W):rdS .U (some (.val w))=.ok w:=rfl
theorem wH (w:W):rdS .C (some (.val w))=.ok w:=rfl
theorem wI (w:W):rdS .B (some (.val w))=.ok w:=rfl
theorem wL (w:W):rdS .F (some (.par w))=chk w:=rfl
theorem wJ (w:W):rdS .V (some (.par w))=chk w:=rfl
theorem wK (w:W):rdS .U (some (.par w))=.ok w:=rfl
theorem wM (w:W):rdS .C (some (.par w))=chk w:=rfl
theorem wN (w:W):rdS .B (some (.par w))=.ok w:=rfl
theorem wO (ws:List W):rdS .C (some (.own ws))=.ok (.lst ws):=rfl
theorem wP (ws:List W):rdS .B (some (.own ws))=.ok (.lst ws):=rfl
def retS (d:Mode):Option Sl->R Fl
 | some (.own ws)=>.ok (.rt (.lst ws))
 | o=>rdS d o>>=fv
theorem jX (d:Mode) (i:Nat) (ρ:Rho):E1 d i ρ=retS d (ρ[i]?):=by
 unfold E1 retS
 rw [dn]
 rcases h:ρ[i]? with _ | s
 ·rfl
 ·cases s <;> rfl
theorem oQ (d:Mode) (ws:List W):retS d (some (.own ws))=.ok (.rt (.lst ws)):=rfl
theorem oO (d:Mode) (w:W):retS d (some (.val w))=(rdS d (some (.val w))>>=fv):=rfl
theorem oP (d:Mode) (w:W):retS d (some (.par w))=(rdS d (some (.par w))>>=fv):=rfl
def qM (o:Option Sl) (r:R W) (i:Nat) (ρ:Rho):R Fl:=match o with
 | some (.own ws)=>r>>=fun w=>if ws.length<1000 then .ok (.nx (ρ.set i (.own (ws ++ [w])))) else .stuck
 | _=>.stuck
theorem um (i:Nat) (m:Rho->R W) (ρ:Rho):W7 i m ρ=qM (ρ[i]?) (m ρ) i ρ:=rfl
theorem vq (ws:List W) (w:W) (i:Nat) (ρ:Rho):qM (some (.own ws)) (.ok w) i ρ=if ws.length<1000 then .ok (.nx (ρ.set i (.own (ws ++ [w])))) else .stuck:=rfl
def vX (o:Option Sl) (a b:R W) (i:Nat) (ρ:Rho):R Fl:=match o with
 | some (.own ws)=>b>>=fun w=>a>>=fun k=>(match k with
  | .int k=>(match ixN ws.length k with
   | some j=>.ok (.nx (ρ.set i (.own (ws.set j w))))
   | none=>.stuck)
  | _=>.stuck)
 | _=>.stuck
theorem uh (i:Nat) (mk me:Rho->R W) (ρ:Rho):bB i mk me ρ=vX (ρ[i]?) (mk ρ) (me ρ) i ρ:=rfl
def vY (o:Option Nat) (ws:List W) (w:W) (i:Nat) (ρ:Rho):R Fl:=match o with
 | some j=>.ok (.nx (ρ.set i (.own (ws.set j w))))
 | none=>.stuck
theorem sx (ws:List W) (w:W) (k:Int) (i:Nat) (ρ:Rho):vX (some (.own ws)) (.ok (.int k)) (.ok w) i ρ=vY (ixN ws.length k) ws w i ρ:=rfl
theorem lw (j:Nat) (ws:List W) (w:W) (i:Nat) (ρ:Rho):vY (some j) ws w i ρ=.ok (.nx (ρ.set i (.own (ws.set j w)))):=rfl
def Am (f:Int->Int->Int) (a b:R W) (i:Nat) (ρ:Rho):R Fl:=a>>=fun x=>b>>=fun y=>match x,y with
 | .int a,.int b=>.ok (.nx (ρ.set i (.val (.int (f a b)))))
 | _,_=>.stuck
theorem ul (i:Nat) (f:Int->Int->Int) (m:Rho->R W) (ρ:Rho):gq i f m ρ=Am f (rdS .B (ρ[i]?)) (m ρ) i ρ:=by
 rw [<- dn]; rfl
theorem vn (f:Int->Int->Int) (a b:Int) (i:Nat) (ρ:Rho):Am f (.ok (.int a)) (.ok (.int b)) i ρ=.ok (.nx (ρ.set i (.val (.int (f a b))))):=rfl
def ifS (c:R Bool) (m n:Rho->R Fl) (ρ:Rho):R Fl:=c>>=fun b=>if b then m ρ else n ρ
theorem xS (c:Rho->R Bool) (m n:Rho->R Fl) (ρ:Rho):mIf c m n ρ=ifS (c ρ) m n ρ:=rfl
theorem yF (m n:Rho->R Fl) (ρ:Rho):ifS (.ok true) m n ρ=m ρ:=rfl
theorem yG (m n:Rho->R Fl) (ρ:Rho):ifS (.ok false) m n ρ=n ρ:=rfl
def X3 (r:R Fl):R W:=r>>=fun f=>match f with
 | .rt w=>.ok w
 | .nx _=>.ok .non
 | _=>.stuck
theorem U1 {n N:Nat} {m:Rho->R Fl} {ws:List W} (h:ws.length=n):g7 n N m ws=X3 (m (ws.map Sl.par++List.replicate (N-n) Sl.un)):=by unfold g7; rw [if_pos h]; rfl
theorem wv {N:Nat} {m:Rho->R Fl} (a:W):g7 1 N m [a]=X3 (m (Sl.par a::List.replicate (N-1) Sl.un)):=U1 rfl
theorem wu {N:Nat} {m:Rho->R Fl} (a b:W):g7 2 N m [a,b]=X3 (m (Sl.par a::Sl.par b::List.replicate (N-2) Sl.un)):=U1 rfl
theorem wq {N:Nat} {m:Rho->R Fl} (a b c:W):g7 3 N m [a,b,c]=X3 (m (Sl.par a::Sl.par b::Sl.par c::List.replicate (N-3) Sl.un)):=U1 rfl
theorem wo {N:Nat} {m:Rho->R Fl} (a b c d:W):g7 4 N m [a,b,c,d]=X3 (m (Sl.par a::Sl.par b::Sl.par c::Sl.par d::List.replicate (N-4) Sl.un)):=U1 rfl
theorem wn {N:Nat} {m:Rho->R Fl} (a b c d e:W):g7 5 N m [a,b,c,d,e]=X3 (m (Sl.par a::Sl.par b::Sl.par c::Sl.par d::Sl.par e::List.replicate (N-5) Sl.un)):=U1 rfl
theorem uV (w:W):X3 (.ok (.rt w))=.ok w:=rfl
theorem uW (ρ:Rho):X3 (.ok (.nx ρ))=.ok .non:=rfl
theorem zg (g:Int->Int->W) (i j:Int):fI0 g (.int i) (.int j)=.ok (g i j):=rfl
theorem fU_i (g:Int->W) (i:Int):fU g (.int i)=.ok (g i):=rfl
theorem Bi (ws:List W) (i:Int):fIx (.lst ws) (.int i)=toR (L2.atI ws i):=rfl
theorem Bg (ws:List W) (i:Int):fIx (.tup ws) (.int i)=toR (L2.atI ws i):=rfl
theorem Bh (ws:List W) (i:Int):fIx (.scr ws) (.int i)=toR (L2.atI ws i):=rfl
theorem om {α:Type} (a:α):toR (some a)=.ok a:=rfl
theorem vK (b:Bool):toB (.bl b)=.ok b:=rfl
theorem za (ws:List W):fLen [.lst ws]=.ok (.int ws.length):=rfl
theorem yY (ws:List W):fLen [.tup ws]=.ok (.int ws.length):=rfl
theorem yZ (ws:List W):fLen [.scr ws]=.ok (.int ws.length):=rfl
theorem uH (c:Bool) (ws:List W):rH c [.lst ws]=chks c ws:=rfl
theorem uG (c:Bool) (ws:List W):rH c [.tup ws]=chks c ws:=rfl
theorem yW (c:Bool) (ws:List W):K1 c [.lst ws]=Q8 c ws:=rfl
theorem yV (c:Bool) (ws:List W):K1 c [.tup ws]=Q8 c ws:=rfl
theorem zC (ws:List W):chks true ws=.ok (.lst ws):=rfl
theorem zK (ws:List W):Q8 true ws=.ok (.tup ws):=rfl
theorem dH {c:Bool} {ws:List W} (h:g4 ws=true):chks c ws=.ok (.lst ws):=by unfold chks; rw [h,Bool.or_true,if_pos rfl]
theorem aS {c:Bool} {ws:List W} (h:g4 ws=true):Q8 c ws=.ok (.tup ws):=by unfold Q8; rw [h,Bool.or_true,if_pos rfl]
theorem zF (c:Bool) (ns:List Int):chks c (ns.map W.int)=.ok (.lst (ns.map W.int)):=dH (v4 ns)
theorem zN (c:Bool) (ns:List Int):Q8 c (ns.map W.int)=.ok (.tup (ns.map W.int)):=aS (v4 ns)
theorem Q7 {w:W} (h:noL w=true):chk w=.ok w:=by unfold chk; rw [if_pos h]
theorem va (i:Int):chk (.int i)=.ok (.int i):=rfl
theorem zJ (i:Bool):chk (.bl i)=.ok (.bl i):=rfl
theorem uY (i:Str):chk (.str i)=.ok (.str i):=rfl
theorem uZ:chk .non=.ok .non:=rfl
theorem zG (ns:List Int):chk (.tup (ns.map W.int))=.ok (.tup (ns.map W.int)):=Q7 (v4 ns)
theorem Bj (g:Int->Int->Int) (i j:Int):f2 g [.int i,.int j]=.ok (.int (g i j)):=rfl
theorem wb (ws:List W):A3 (.lst ws)=.ok ws:=rfl
theorem vZ (ws:List W):A3 (.tup ws)=.ok ws:=rfl
theorem wa (ws:List W):A3 (.scr ws)=.ok ws:=rfl
theorem wA (j:Int):P2 [.int j]=J2 0 j:=rfl
theorem wz (i j:Int):rng2 [.int i,.int j]=J2 i j:=rfl
theorem gN_U (i:Nat) (w:W) (ρ:Rho):gN .U i w ρ=some (ρ.set i (.par w)):=rfl
theorem gN_V (i:Nat) (w:W) (ρ:Rho):gN .V i w ρ=some (ρ.set i (.val w)):=rfl
theorem gT_t (n:Nat) (g:List W->Rho->Option Rho) (ws:List W) (ρ:Rho):gT n g (.tup ws) ρ=if ws.length=n then g ws ρ else none:=rfl
theorem qd (f:W->Rho->Option Rho) (g:List W->Rho->Option Rho) (w:W) (ws:List W) (ρ:Rho):j0 f g (w::ws) ρ=(f w ρ).bind (g ws):=rfl
theorem uA (ρ:Rho):gsNil [] ρ=some ρ:=rfl
theorem pF (ws:List W):jU ws=if ws.length<=1000 then .ok (.tup ws) else .stuck:=rfl
theorem pG (ws:List W):jV ws=if ws.length<=1000 then .ok (.lst ws) else .stuck:=rfl
theorem uI (x:W) (T:String):fIsi [x,.ty T]=(toR ((tyW x).bind fun A=>t5 A T)>>=fun b=>.ok (.bl b)):=rfl
theorem yh:t5 "NoneType" "tuple" = some false:=by decide
theorem yi:t5 "NoneType" "list" = some false:=by decide
theorem yl:t5 "list" "tuple" = some false:=by decide
theorem yb:t5 "tuple" "list" = some false:=by decide
theorem zb (n:Bool) (u:W):bJ n u .non=.ok (.bl (if n then !isN u else isN u)):=rfl
theorem pI {f:W->R (Option W)} {α:Type} (g:α->W) (s:α->W):∀ (as:List α),(∀ a∈as,f (s a)=.ok (some (g a)))->mapR f (as.map s)=.ok (as.map g):=by
 intro as
 induction as with
 | nil=>exact fun _=>rfl
 | cons a as ih=>
  intro h
  rw [List.map_cons,mapR,h a List.mem_cons_self,ih fun b hb=>h b (List.mem_cons_of_mem _ hb)]
  rfl
theorem im {f:W->R (Option W)} {α:Type} (g:α->W) (s:α->W) (c:α->Bool):∀ (as:List α),(∀ a∈as,f (s a)=.ok (if c a then some (g a) else none))->mapR f (as.map s)=.ok ((as.filter c).map g):=by
 intro as
 induction as with
 | nil=>exact fun _=>rfl
 | cons a as ih=>
  intro h
  rw [List.map_cons,mapR,h a List.mem_cons_self,ih fun b hb=>h b (List.mem_cons_of_mem _ hb),List.filter_cons]
  cases c a <;> rfl
theorem j7 {N':Nat} {mg:W->Rho->Option Rho} {me:Rho->R W} {α:Type} (g:α->W) (s:α->W) (as:List α) (ρ:Rho) (hl:as.length<=1000)
  (h:∀ a∈as,∃ ρ1,mg (s a) (ρ++List.replicate (N'-ρ.length) Sl.un)=some ρ1/\me ρ1=.ok (g a)):k4 N' mg yes me (as.map s) ρ=.ok (.lst (as.map g)):=by
 unfold k4
 rw [List.length_map,if_pos hl,pI g s as]
 intro a ha
 obtain ⟨ρ1,e1,e2⟩:=h a ha
 unfold elR
 rw [e1]
 have hy:yes ρ1=.ok true:=rfl
 dsimp only
 rw [hy]
 dsimp only
 rw [e2]
theorem ak {N':Nat} {mg:W->Rho->Option Rho} {mc:Rho->R Bool} {me:Rho->R W} {α:Type} (g:α->W) (s:α->W) (c:α->Bool) (as:List α) (ρ:Rho) (hl:as.length<=1000)
  (h:∀ a∈as,∃ ρ1,mg (s a) (ρ++List.replicate (N'-ρ.length) Sl.un)=some ρ1/\mc ρ1=.ok (c a)/\(c a=true->me ρ1=.ok (g a))):k4 N' mg mc me (as.map s) ρ=.ok (.lst ((as.filter c).map g)):=by
 unfold k4
 rw [List.length_map,if_pos hl,im g s c as]
 intro a ha
 obtain ⟨ρ1,e1,e2,e3⟩:=h a ha
 unfold elR
 rw [e1]
 dsimp only
 rw [e2]
 cases hc:c a with
 | false=>rfl
 | true=>dsimp only; rw [e3 hc]; rfl
theorem oM {z:Int} (h0:-1000000<=z) (h:z<=1000000):J2 0 z=.ok ((List.range z.toNat).map fun k=>W.int (k:Nat)):=by
 unfold J2
 rw [if_pos (by omega)]
 simp
theorem fu {n i:Nat} {w:W} (h:((List.range n).map fun k=>W.int (k:Nat))[i]?=some w):i<n/\w=.int (i:Nat):=by
 rw [List.getElem?_map] at h
 cases q:(List.range n)[i]? with
 | none=>rw [q] at h; cases h
 | some k=>
  rw [q] at h
  obtain ⟨h1,h2⟩:=List.getElem?_eq_some_iff.mp q
  simp at h1 h2
  subst h2
  cases h
  exact ⟨h1,rfl⟩
def D7 (xs:List Int) (lo hi:Option Int):List Int:=(xs.drop (HT.sIx xs.length 0 lo)).take (HT.sIx xs.length xs.length hi-HT.sIx xs.length 0 lo)
theorem zB (ns:List Int) (lo hi:Option Int):D6 (ns.map W.int) lo hi=(D7 ns lo hi).map W.int:=by
 unfold D6 D7
 rw [List.length_map,<- List.map_drop,<- List.map_take]
theorem X5 {ns:List Int} {lo hi:Option Int} {P:Int->Prop} (h:∀ x∈ns,P x):∀ x∈D7 ns lo hi,P x:=fun x hx=>by
 unfold D7 at hx
 exact h x (List.mem_of_mem_drop (List.mem_of_mem_take hx))
theorem vV (ns:List Int) (j:Nat) (z:Int):(ns.map W.int).set j (.int z)=(ns.set j z).map W.int:=by rw [List.map_set]
theorem Ap (ns:List Int) (z:Int):ns.map W.int ++ [.int z]=(ns ++ [z]).map W.int:=by rw [List.map_append]; rfl
theorem wD (k:Nat) (z:Int):(List.replicate k [W.int z]).flatten=(List.replicate k z).map W.int:=by
 induction k with
 | zero=>rfl
 | succ k ih=>rw [List.replicate_succ,List.flatten_cons,ih,List.replicate_succ,List.map_cons]; rfl
theorem J4 {α:Type} (as:List α) (f:α->Int):(as.map fun a=>W.int (f a))=(as.map f).map W.int:=by rw [List.map_map]; rfl
theorem k7 {n k:Nat} {f:Nat->Int} (h:k<n):((List.range n).map f).getD k 0=f k:=by
 rw [List.getD_eq_getElem?_getD,List.getElem?_map]
 simp [h]
theorem O4 {a b:List Int} (h:b.length=a.length):(cR [a.map W.int,b.map W.int]).map W.tup=(List.range a.length).map fun k=>W.tup [.int (a.getD k 0),.int (b.getD k 0)]:=by
 apply List.ext_getElem?
 intro i
 simp only [cR,List.getElem?_map,List.getElem?_zipWith]
 by_cases hi:i<a.length
 ·rw [Y9 hi,Y9 (ns:=b) (by omega)]; simp [hi]
 ·simp [hi]
theorem O6 (x y:W) (xs ys:List W) (hx:A3 x=.ok xs) (hy:A3 y=.ok ys):G7 [x,y]=.ok ((cR [xs,ys]).map W.tup):=by
 unfold G7
 simp only [List.length_cons,List.length_nil,R4,hx,hy,Nat.reduceAdd,true_or,if_true]
theorem AY {i j:Int} (h:-18446744073709551616<i/\i<18446744073709551616):fI CMul m4 (.int i) (.int j)=.ok (.int (i*j)):=by
 show (if CMul i j then _ else _)=_
 rw [if_pos (.inl (by simpa using h))]
theorem AX {i j:Int} (h:-18446744073709551616<j/\j<18446744073709551616):fI CMul m4 (.int i) (.int j)=.ok (.int (i*j)):=by
 show (if CMul i j then _ else _)=_
 rw [if_pos (.inr (by simpa using h))]
theorem xP {i j:Int} (h:0<j):fI K3 L5 (.int i) (.int j)=.ok (.int (i%j)):=by
 show (if K3 i j then _ else _)=_
 rw [if_pos h]
theorem div_ii {i j:Int} (h:0<j/\j<1073741824):fI aD ao (.int i) (.int j)=.ok (.int (i/j)):=by
 show (if aD i j then _ else _)=_
 rw [if_pos (show aD i j from h)]
theorem xt {i j:Int} (h:0<=j/\j<=1000000 /\ -18446744073709551616<i/\i<18446744073709551616):fI R0 bF (.int i) (.int j)=.ok (.int (i^j.toNat)):=by
 show (if R0 i j then _ else _)=_
 rw [if_pos ⟨h.1,h.2.1,by omega⟩]
theorem Aq {ws:List W} {w:W} {i:Nat} {ρ:Rho} (h:ws.length<1000):qM (some (.own ws)) (.ok w) i ρ=.ok (.nx (ρ.set i (.own (ws ++ [w])))):=by rw [vq,if_pos h]
theorem ud {ws:List W} (h:ws.length<=1000):jU ws=.ok (.tup ws):=by rw [pF,if_pos h]
theorem ue {ws:List W} (h:ws.length<=1000):jV ws=.ok (.lst ws):=by rw [pG,if_pos h]
theorem zp {c:Bool} {us vs:List W} (h:us.length+vs.length<=1000):fCat c (.lst us) (.lst vs)=chks c (us++vs):=by
 show (if us.length+vs.length<=1000 then _ else _)=_
 rw [if_pos h]
theorem nq {c:Bool} {z:W} {k:Int} (h:0<=k/\k<=1000):kl c (.lst [z]) (.int k)=chks c (List.replicate k.toNat [z]).flatten:=by
 show (if [z].length*k.toNat<=1000 /\ -1000<=k/\k<=1000 then _ else _)=_
 rw [if_pos ⟨by simp only [List.length_cons,List.length_nil]; omega,by omega,h.2⟩]
theorem BN {ns:List Int} {i:Int} (h:0<=i/\i<ns.length):L2.atI (ns.map W.int) i=some (.int (ns.getD i.toNat 0)):=atW h.1 h.2
theorem Bb {n:Nat} {i:Int} (h:0<=i/\i<n):ixN n i=some i.toNat:=aP h.1 h.2
theorem wx {z:Int} (h:-1000000<=z/\z<=1000000):J2 0 z=.ok ((List.range z.toNat).map fun k=>W.int (k:Nat)):=oM h.1 h.2
def Ok (r:R W) (P:W->Prop):Prop:=∃ w,r=.ok w/\P w
def Po (r:R Fl) (Jn:Rho->Prop) (Jr:W->Prop):Prop:=match r with
 | .ok (.nx ρ)=>Jn ρ
 | .ok (.rt w)=>Jr w
 | _=>False
theorem w9 {r:R Fl} {P:W->Prop} (h:Po r (fun _=>P .non) P):Ok (X3 r) P:=by
 cases r with
 | ex _=>exact h.elim
 | stuck=>exact h.elim
 | ok f=>cases f with
  | nx ρ=>exact ⟨_,rfl,h⟩
  | rt w=>exact ⟨_,rfl,h⟩
  | bk _=>exact h.elim
  | ct _=>exact h.elim
theorem P4 {r:R Fl} {n:Rho->R Fl} {Jn:Rho->Prop} {Jr:W->Prop} (h:Po r (fun ρ=>Po (n ρ) Jn Jr) Jr):Po (andThen r n) Jn Jr:=by
 cases r with
 | ex _=>exact h.elim
 | stuck=>exact h.elim
 | ok f=>cases f with
  | nx ρ=>exact h
  | rt w=>exact h
  | bk _=>exact h.elim
  | ct _=>exact h.elim
theorem AN {ρ:Rho} {Jn:Rho->Prop} {Jr:W->Prop}:Po (.ok (.nx ρ)) Jn Jr=Jn ρ:=rfl
theorem AM {w:W} {Jn:Rho->Prop} {Jr:W->Prop}:Po (.ok (.rt w)) Jn Jr=Jr w:=rfl
theorem cf {b:Bool} {m n:Rho->R Fl} {ρ:Rho} {Jn:Rho->Prop} {Jr:W->Prop} (h1:b=true->Po (m ρ) Jn Jr) (h2:b=false->Po (n ρ) Jn Jr):Po (ifS (.ok b) m n ρ) Jn Jr:=by
 cases b with
 | true=>exact h1 rfl
 | false=>exact h2 rfl
theorem fG {b:Bool} {m n:Rho->R Fl} {ρ:Rho} {k:Rho->R Fl} {Jn:Rho->Prop} {Jr:W->Prop} (h1:b=true->Po (andThen (m ρ) k) Jn Jr) (h2:b=false->Po (andThen (n ρ) k) Jn Jr):Po (andThen (ifS (.ok b) m n ρ) k) Jn Jr:=by
 cases b with
 | true=>exact h1 rfl
 | false=>exact h2 rfl
theorem Po.mono {r:R Fl} {Jn Jn':Rho->Prop} {Jr Jr':W->Prop} (h:Po r Jn Jr) (h1:∀ ρ,Jn ρ->Jn' ρ) (h2:∀ w,Jr w->Jr' w):Po r Jn' Jr':=by
 cases r with
 | ex _=>exact h
 | stuck=>exact h
 | ok f=>cases f with
  | nx ρ=>exact h1 ρ h
  | rt w=>exact h2 w h
  | bk _=>exact h
  | ct _=>exact h
theorem lO {mg:W->Rho->Option Rho} {mb:Rho->R Fl} {Jr:W->Prop} (I:Nat->Rho->Prop):∀ (ws:List W) (k:Nat) (ρ:Rho),I k ρ ->
  (∀ (i:Nat) (w:W) (ρ:Rho),ws[i]?=some w->I (k+i) ρ->∃ ρ1,mg w ρ=some ρ1/\Po (mb ρ1) (I (k+i+1)) Jr)->Po (A4 mg mb ws ρ) (I (k+ws.length)) Jr:=by
 intro ws
 induction ws with
 | nil=>exact fun k ρ h _=>h
 | cons w ws ih=>
  intro k ρ h st
  obtain ⟨ρ1,e1,p⟩:=st 0 w ρ rfl h
  unfold A4
  rw [e1]
  show Po (mb ρ1>>=_) _ _
  revert p
  cases mb ρ1 with
  | ex _=>exact fun p=>p.elim
  | stuck=>exact fun p=>p.elim
  | ok f=>cases f with
   | bk _=>exact fun p=>p.elim
   | ct _=>exact fun p=>p.elim
   | rt w=>exact fun p=>p
   | nx ρ2=>
    intro p
    have:=ih (k+1) ρ2 p fun i w ρ hw hp=>by
     have:=st (i+1) w ρ hw (by rw [<- Nat.succ_add_eq_add_succ k i]; exact hp)
     rw [<- Nat.succ_add_eq_add_succ k i] at this
     exact this
    rw [List.length_cons,<- Nat.succ_add_eq_add_succ k ws.length]
    exact this
theorem lP {mg:W->Rho->Option Rho} {mb:Rho->R Fl} {ws:List W} {ρ:Rho} {Jn:Rho->Prop} {Jr:W->Prop} (I:Nat->Rho->Prop) (h0:I 0 ρ)
  (st:∀ (i:Nat) (w:W) (ρ:Rho),ws[i]?=some w->I i ρ->∃ ρ1,mg w ρ=some ρ1/\Po (mb ρ1) (I (i+1)) Jr) (hn:∀ ρ,I ws.length ρ->Jn ρ):Po (A4 mg mb ws ρ) Jn Jr:=by
 have:=lO (mg:=mg) (mb:=mb) (Jr:=Jr) I ws 0 ρ h0 fun i w ρ hw hp=>by rw [Nat.zero_add] at hp ⊢; exact st i w ρ hw hp
 rw [Nat.zero_add] at this
 exact this.mono hn fun _ h=>h
theorem C1 {mg:W->Rho->Option Rho} {mb n:Rho->R Fl} {ws:List W} {ρ:Rho} {Jn:Rho->Prop} {Jr:W->Prop} (I:Nat->Rho->Prop) (h0:I 0 ρ)
  (st:∀ (i:Nat) (w:W) (ρ:Rho),ws[i]?=some w->I i ρ->∃ ρ1,mg w ρ=some ρ1/\Po (mb ρ1) (I (i+1)) Jr) (hn:∀ ρ,I ws.length ρ->Po (n ρ) Jn Jr):Po (andThen (A4 mg mb ws ρ) n) Jn Jr:=P4 (lP I h0 st hn)
theorem W3 {c:Rho->R Bool} {b:Rho->R Fl} {Jn:Rho->Prop} {Jr:W->Prop} (I:Nat->Rho->Prop)
  (st:∀ m ρ,I m ρ->∃ t,c ρ=.ok t/\if t=true then Po (b ρ) (fun ρ'=>∃ m',m'<m/\I m' ρ') Jr else Jn ρ):∀ (m:Nat) (ρ:Rho),I m ρ->Po (E9 c b ρ) Jn Jr:=by
 have key:∀ (m:Nat) (ρ:Rho),I m ρ->∃ r,C7 c b (m+1) ρ=some r/\Po r Jn Jr:=by
  intro m
  induction m using Nat.strongRecOn with
  | ind m ih=>
   intro ρ h
   obtain ⟨t,e,q⟩:=st m ρ h
   unfold C7
   rw [e]
   cases t with
   | false=>rw [if_neg Bool.false_ne_true] at q; exact ⟨_,rfl,q⟩
   | true=>
    rw [if_pos rfl] at q
    dsimp only
    revert q
    cases b ρ with
    | ex _=>exact fun q=>q.elim
    | stuck=>exact fun q=>q.elim
    | ok f=>cases f with
     | bk _=>exact fun q=>q.elim
     | ct _=>exact fun q=>q.elim
     | rt w=>exact fun q=>⟨_,rfl,q⟩
     | nx ρ'=>
      intro ⟨m',hm,h'⟩
      obtain ⟨r,e',q'⟩:=ih m' hm ρ' h'
      exact ⟨r,W9 (m'+1) ρ' r e' m (by omega),q'⟩
 intro m ρ h
 obtain ⟨r,e,q⟩:=key m ρ h
 rw [ee e]
 exact q
theorem qg (i j:Int):yN i j=max i j:=by unfold yN; omega
theorem qf (i j:Int):yM i j=min i j:=by unfold yM; omega
def oW:Option Int->W
 | none=>.non
 | some i=>.int i
theorem oW_n:oW none=.non:=rfl
theorem oW_s (i:Int):oW (some i)=.int i:=rfl
theorem mz (o:Option Int):noL (oW o)=true:=by cases o <;> rfl
theorem zH (o:Option Int):chk (oW o)=.ok (oW o):=Q7 (mz o)
theorem bv {α:Type} (f:α->W) (h:∀ a,noL (f a)=true) (as:List α):g4 (as.map f)=true:=by
 induction as with
 | nil=>rfl
 | cons a as ih=>rw [List.map_cons]; simp only [g4,h,ih,Bool.and_self]
theorem di (cs:List (Option Int)):g4 (cs.map oW)=true:=bv oW mz cs
theorem zE (c:Bool) (cs:List (Option Int)):chks c (cs.map oW)=.ok (.lst (cs.map oW)):=dH (di cs)
theorem zM (c:Bool) (cs:List (Option Int)):Q8 c (cs.map oW)=.ok (.tup (cs.map oW)):=aS (di cs)
theorem yw (o:Option Int):isN (oW o)=o.isNone:=by cases o <;> rfl
theorem oA (o:Option Int):G9 (oW o)=.val (oW o):=by cases o <;> rfl
theorem nQ {α:Type} (f:α->W) {as:List α} {d:α} {i:Int} (h:0<=i/\i<as.length):L2.atI (as.map f) i=some (f (as.getD i.toNat d)):=by
 unfold L2.atI
 rw [List.length_map,aP h.1 h.2]
 show (as.map f)[i.toNat]?=_
 have hi:i.toNat<as.length:=by omega
 rw [List.getElem?_map,List.getD_eq_getElem?_getD]
 simp [hi]
theorem BP {cs:List (Option Int)} {i:Int} (h:0<=i/\i<cs.length):L2.atI (cs.map oW) i=some (oW (cs.getD i.toNat none)):=nQ oW h
theorem appO (cs:List (Option Int)) (o:Option Int):cs.map oW ++ [oW o]=(cs ++ [o]).map oW:=by rw [List.map_append]; rfl
theorem rX {α β:Type} (f:α->W) (g:β->W) {a:List α} {b:List β} (h:b.length=a.length) (x:α) (y:β):(cR [a.map f,b.map g]).map W.tup=(List.range a.length).map fun k=>W.tup [f (a.getD k x),g (b.getD k y)]:=by
 apply List.ext_getElem?
 intro i
 simp only [cR,List.getElem?_map,List.getElem?_zipWith]
 by_cases hi:i<a.length
 ·have hb:i<b.length:=by omega
  simp [hi,hb]
 ·simp [hi]
theorem fw {n i:Nat} {f:Nat->W} {w:W} (h:((List.range n).map f)[i]?=some w):i<n/\w=f i:=by
 rw [List.getElem?_map] at h
 cases q:(List.range n)[i]? with
 | none=>rw [q] at h; cases h
 | some k=>
  rw [q] at h
  obtain ⟨h1,h2⟩:=List.getElem?_eq_some_iff.mp q
  simp at h1 h2
  subst h2
  cases h
  exact ⟨h1,rfl⟩
theorem U4 (ns:List Int):noL (tI ns)=true:=v4 ns
theorem cq (ss:List (List Int)):g4 (ss.map tI)=true:=bv tI U4 ss
theorem zD (c:Bool) (ss:List (List Int)):chks c (ss.map tI)=.ok (.lst (ss.map tI)):=dH (cq ss)
theorem zL (c:Bool) (ss:List (List Int)):Q8 c (ss.map tI)=.ok (.tup (ss.map tI)):=aS (cq ss)
theorem BO {ss:List (List Int)} {i:Int} (h:0<=i/\i<ss.length):L2.atI (ss.map tI) i=some (tI (ss.getD i.toNat [])):=nQ tI h
theorem Ao (ss:List (List Int)) (s:List Int):ss.map tI ++ [tI s]=(ss ++ [s]).map tI:=by rw [List.map_append]; rfl
def qD {α:Type} (xs:List α) (lo hi:Option Int):List α:=(xs.drop (HT.sIx xs.length 0 lo)).take (HT.sIx xs.length xs.length hi-HT.sIx xs.length 0 lo)
theorem qB {α:Type} (f:α->W) (as:List α) (lo hi:Option Int):D6 (as.map f) lo hi=(qD as lo hi).map f:=by
 unfold D6 qD
 rw [List.length_map,<- List.map_drop,<- List.map_take]
theorem zA (ss:List (List Int)) (lo hi:Option Int):D6 (ss.map tI) lo hi=(qD ss lo hi).map tI:=qB tI ss lo hi
theorem zO (ss ts:List (List Int)):ss.map tI++ts.map tI=(ss++ts).map tI:=by rw [List.map_append]
theorem zP (ss ts:List Int):ss.map W.int++ts.map W.int=(ss++ts).map W.int:=by rw [List.map_append]
theorem wy {lo hi:Int} (h:-1000000<=lo/\lo<=1000000 /\ -1000000<=hi/\hi<=1000000):J2 lo hi=.ok ((List.range (hi-lo).toNat).map fun k=>W.int (lo+(k:Nat))):=by
 unfold J2
 rw [if_pos h]
theorem eqv_refl:∀ w:W,PyData.eqv (pd w) (pd w)=true:=by
 intro w
 refine W.rec (motive_1:=fun w=>PyData.eqv (pd w) (pd w)=true) (motive_2:=fun ws=>PyData.eqvAll (pds ws) (pds ws)=true) ?_ ?_ ?_ ?_ ?_ ?_ ?_ ?_ ?_ ?_ ?_ ?_ w
 ·rfl
 ·intro b; cases b <;> rfl
 ·intro b; exact beq_self_eq_true b
 ·intro b; exact beq_self_eq_true b
 ·intro b; rfl
 ·exact fun ws h=>h
 ·exact fun ws h=>h
 ·exact fun ws h=>h
 ·intro b c; rfl
 ·intro b; rfl
 ·rfl
 ·intro w ws h1 h2; exact (Bool.and_eq_true _ _).mpr ⟨h1,h2⟩
theorem qu (w:W):eqW w w=true:=eqv_refl w
theorem bp {α:Type} (f:α->W) (n:Nat) (h:∀ a,shp n (f a)=true) (as:List α):K9 n (as.map f)=true:=by
 induction as with
 | nil=>rfl
 | cons a as ih=>rw [List.map_cons]; simp only [K9,h,ih,Bool.and_self]
theorem T9 (n:Nat) (i:Int):shp n (.int i)=true:=by cases n <;> rfl
theorem lq (n:Nat) (b:Bool):shp n (.bl b)=true:=by cases n <;> rfl
theorem fg (n:Nat) (ns:List Int):shp (n+1) (tI ns)=true:=bp W.int n (T9 n) ns
theorem fj (n:Nat) (ns:List Int):shp (n+1) (lI ns)=true:=bp W.int n (T9 n) ns
theorem ln (n:Nat) (ss:List (List Int)):shp (n+2) (.lst (ss.map tI))=true:=bp tI (n+1) (fg n) ss
theorem qr {neg:Bool} {w:W} (h:shp 8 w=true):fEq neg w w=.ok (.bl (!neg)):=by
 unfold fEq
 rw [h,qu]
 cases neg <;> rfl
theorem eqI:∀ (a b:List Int),PyData.eqvAll (pds (a.map W.int)) (pds (b.map W.int))=decide (a=b)
 | [],[]=>by simp [pds,PyData.eqvAll]
 | [],_::_=>by simp [pds,PyData.eqvAll]
 | _::_,[]=>by simp [pds,PyData.eqvAll]
 | x::a,y::b=>by
  simp only [List.map_cons,pds,pd,PyData.eqvAll,PyData.eqv,eqI a b]
  by_cases h:x=y <;> by_cases h':a=b <;> simp [h,h']
theorem nr (neg:Bool) (a b:List Int):fEq neg (tI a) (tI b)=.ok (.bl (if neg then !decide (a=b) else decide (a=b))):=by
 unfold fEq
 rw [fg,fg]
 have:eqW (tI a) (tI b)=decide (a=b):=eqI a b
 rw [this]; rfl
theorem zl (neg:Bool) (a b:List Int):fEq neg (lI a) (lI b)=.ok (.bl (if neg then !decide (a=b) else decide (a=b))):=by
 unfold fEq
 rw [fj,fj]
 have:eqW (lI a) (lI b)=decide (a=b):=eqI a b
 rw [this]; rfl
theorem zu:∀ (a b:List (List Int)),PyData.eqvAll (pds (a.map tI)) (pds (b.map tI))=decide (a=b)
 | [],[]=>by simp [pds,PyData.eqvAll]
 | [],_::_=>by simp [pds,PyData.eqvAll]
 | _::_,[]=>by simp [pds,PyData.eqvAll]
 | x::a,y::b=>by
  simp only [List.map_cons,pds,pd,PyData.eqvAll,PyData.eqv,zu a b,eqI]
  by_cases h:x=y <;> by_cases h':a=b <;> simp [h,h']
theorem zk (neg:Bool) (a b:List (List Int)):fEq neg (.lst (a.map tI)) (.lst (b.map tI))=.ok (.bl (if neg then !decide (a=b) else decide (a=b))):=by
 unfold fEq
 rw [ln,ln]
 have:eqW (.lst (a.map tI)) (.lst (b.map tI))=decide (a=b):=zu a b
 rw [this]; rfl
theorem V3 (neg:Bool) (i j:Int):fEq neg (.int i) (.int j)=.ok (.bl (if neg then !decide (i=j) else decide (i=j))):=by
 unfold fEq
 rw [T9,T9]
 have:eqW (.int i) (.int j)=decide (i=j):=by
  by_cases h:i=j <;> simp [eqW,pd,PyData.eqv,h]
 rw [this]; rfl
theorem zo (neg:Bool) (i j:Bool):fEq neg (.bl i) (.bl j)=.ok (.bl (if neg then !decide (i=j) else decide (i=j))):=by
 unfold fEq
 rw [lq,lq]
 have:eqW (.bl i) (.bl j)=decide (i=j):=by cases i <;> cases j <;> rfl
 rw [this]; rfl
theorem zj (neg:Bool) (j:Int):fEq neg .non (.int j)=.ok (.bl neg):=by cases neg <;> rfl
theorem zn (neg:Bool) (j:Int):fEq neg (.int j) .non=.ok (.bl neg):=by cases neg <;> rfl
theorem zh (neg:Bool):fEq neg .non .non=.ok (.bl (!neg)):=by cases neg <;> rfl
theorem qt (g:List Bool->Bool) (bs:List Bool):cJ g [.lst (bs.map W.bl)]=.ok (.bl (g bs)):=by
 show (toR (Q9 (bs.map W.bl))>>=_)=_
 rw [vi]; rfl
theorem uJ (g:List Int->Int) (ns:List Int):kn g [.lst (ns.map W.int)]=.ok (.int (g ns)):=by
 show (toR (r9 (ns.map W.int))>>=_)=_
 rw [ints_map]; rfl
theorem zd (i:Int):zf [.int i]=.ok (.int i):=rfl
theorem ze (b:Bool):zf [.bl b]=.ok (.int (if b then 1 else 0)):=rfl
theorem zq (i:Int):fAbs [.int i]=.ok (.int (if i<0 then -i else i)):=rfl
def zt (o:Option Sl) (r:R W) (c:Bool) (i:Nat) (ρ:Rho):R Fl:=match o with
 | some (.own ws)=>r>>=fun w=>(match w with
  | .lst us=>if ws.length+us.length<=1000 then (if c||g4 us then .ok (.nx (ρ.set i (.own (ws++us)))) else .stuck) else .stuck
  | _=>.stuck)
 | _=>.stuck
theorem uk (i:Nat) (c:Bool) (m:Rho->R W) (ρ:Rho):mExt i c m ρ=zt (ρ[i]?) (m ρ) c i ρ:=rfl
theorem zr {ws us:List W} {c:Bool} {i:Nat} {ρ:Rho} (h:ws.length+us.length<=1000):zt (some (.own ws)) (.ok (.lst us)) c i ρ=if c||g4 us then .ok (.nx (ρ.set i (.own (ws++us)))) else .stuck:=by
 show (if ws.length+us.length<=1000 then _ else _)=_
 rw [if_pos h]
def wC (o:Option Sl) (i:Nat) (ρ:Rho):R Fl:=match o with
 | some (.own ws)=>.ok (.nx (ρ.set i (.own ws.reverse)))
 | _=>.stuck
theorem uj (i:Nat) (ρ:Rho):mRev i ρ=wC (ρ[i]?) i ρ:=rfl
theorem sL (ws:List W) (i:Nat) (ρ:Rho):wC (some (.own ws)) i ρ=.ok (.nx (ρ.set i (.own ws.reverse))):=rfl
theorem lQ {r:R Fl} {n:Rho->R Fl} {Jn:Rho->Prop} {Jr:W->Prop} (J:Rho->Prop) (h1:Po r J Jr) (h2:∀ ρ,J ρ->Po (n ρ) Jn Jr):Po (andThen r n) Jn Jr:=P4 (h1.mono h2 fun _ h=>h)
theorem uD (i j:Int):B5 i j=.int (i+j):=rfl
theorem uB (i j:Int):TP.gSub i j=.int (i-j):=rfl
theorem yO (i j:Int):gLt i j=.bl (decide (i<j)):=rfl
theorem yP (i j:Int):gLe i j=.bl (decide (i<=j)):=rfl
theorem yQ (i j:Int):gGt i j=.bl (decide (j<i)):=rfl
theorem yR (i j:Int):gGe i j=.bl (decide (j<=i)):=rfl
theorem uC (i:Int):P8 i=.int (-i):=rfl
theorem qh (i j:Int):rF i j=i+j:=rfl
theorem qe (i j:Int):Be i j=i-j:=rfl
theorem yX {i:Int} (h:0<=i/\i<1000):fStr [.int i]=.ok (.str (toString i)):=by
 show (if i.natAbs.log2<1920 then _ else _)=_
 rw [if_pos]
 refine Nat.lt_of_le_of_lt (Nat.log2_le_self _) ?_
 omega
theorem zc (neg:Bool) (u:W) (b:Bool):fIsB neg u (.bl b)=.ok (.bl (if neg then !S7 u b else S7 u b)):=rfl
theorem yB (i:Int) (b:Bool):S7 (.int i) b=false:=rfl
theorem yz (b:Bool):S7 .non b=false:=rfl
theorem yy (x:Str) (b:Bool):S7 (.str x) b=false:=rfl
theorem yx (x:List W) (b:Bool):S7 (.tup x) b=false:=rfl
theorem yA (x:List W) (b:Bool):S7 (.lst x) b=false:=rfl
theorem yC (a b:Bool):S7 (.bl a) b=(a == b):=rfl
def Rcu (c:Bool) (r:R (List W)) (f:List W->R W) (i:Nat) (ρ:Rho):R Fl:=if c then (r>>=fun ws=>f ws>>=fun w=>.ok (.nx (ρ.set i (.par w)))) else .stuck
theorem wj (i:Nat) (f:List W->R W) (ma:Rho->R (List W)) (ρ:Rho):sCU i f ma ρ=Rcu (noOwn ρ) (ma ρ) f i ρ:=rfl
def Av (r:R W) (i:Nat) (ρ:Rho):R Fl:=r>>=fun w=>.ok (.nx (ρ.set i (.par w)))
theorem BS (ws:List W) (f:List W->R W) (i:Nat) (ρ:Rho):Rcu true (.ok ws) f i ρ=Av (f ws) i ρ:=rfl
theorem vz (w:W) (i:Nat) (ρ:Rho):Av (.ok w) i ρ=.ok (.nx (ρ.set i (.par w))):=rfl
theorem mw:noOwn []=true:=rfl
theorem tS (w:W) (ρ:Rho):noOwn (.val w::ρ)=noOwn ρ:=rfl
theorem tV (w:W) (ρ:Rho):noOwn (.par w::ρ)=noOwn ρ:=rfl
theorem tU (ρ:Rho):noOwn (.un::ρ)=noOwn ρ:=rfl
theorem uR {g:List Int->Int} {ns:List Int} (h:0<ns.length):rK g [tI ns]=.ok (.int (g ns)):=by
 show (toR (r9 (ns.map W.int))>>=_)=_
 rw [ints_map]
 show (if 0<ns.length then _ else _)=_
 rw [if_pos h]
theorem uS {g:List Int->Int} {ns:List Int} (h:0<ns.length):rK g [lI ns]=.ok (.int (g ns)):=by
 show (toR (r9 (ns.map W.int))>>=_)=_
 rw [ints_map]
 show (if 0<ns.length then _ else _)=_
 rw [if_pos h]
theorem wB (ws:List W):revW [.lst ws]=.ok ws.reverse:=rfl
def rp0:=Z1 (@qg) (Z1 (@qf) (Z1 (@AN) (Z1 (@AM) (Z1 (@AY) (Z1 (@AX) (Z1 (@xP) (Z1 (@div_ii) (Z1 (@xt) (Z1 (@Aq) (Z1 (@ud) (Z1 (@ue) (Z1 (@zp) (Z1 (@nq) (Z1 (@BN) (Z1 (@Bb) (Z1 (@wx) (Z1 (@zB) (Z1 (@vV) (Z1 (@Ap) (Z1 (@wD) (Z1 (@ui) (Z1 (@kG) (Z1 (@kF) (@kI))))))))))))))))))))))))
def rp1:=Z1 (@kH) (Z1 (@AZ) (Z1 (@BM) (Z1 (@BL) (Z1 (@Ax) (Z1 (@BK) (Z1 (@BJ) (Z1 (@BI) (Z1 (@BQ) (Z1 (@BR) (Z1 (@qP) (Z1 (@vm) (Z1 (@qL) (Z1 (@sj) (Z1 (@vL) (Z1 (@si) (Z1 (@sX) (Z1 (@sY) (Z1 (@sW) (Z1 (@wU) (Z1 (@wT) (Z1 (@wV) (Z1 (@sQ) (Z1 (@se) (@vE))))))))))))))))))))))))
def rp2:=Z1 (@rZ) (Z1 (@oZ) (Z1 (@pb) (Z1 (@oY) (Z1 (@sO) (Z1 (@sN) (Z1 (@sP) (Z1 (@oU) (Z1 (@vF) (Z1 (@sR) (Z1 (@sT) (Z1 (@sS) (Z1 (@kR) (Z1 (@nT) (Z1 (@rY) (Z1 (@sd) (Z1 (@AU) (Z1 (@AT) (Z1 (@lW) (Z1 (@vD) (Z1 (@vw) (Z1 (@vv) (Z1 (@oa) (Z1 (@qQ) (@we))))))))))))))))))))))))
def rp3:=Z1 (@wk) (Z1 (@wg) (Z1 (@oG) (Z1 (@qO) (Z1 (@sC) (Z1 (@sM) (Z1 (@oF) (Z1 (@AA) (Z1 (@AB) (Z1 (@AE) (Z1 (@vx) (Z1 (@lg) (Z1 (@kZ) (Z1 (@lh) (Z1 (@oB) (Z1 (@lf) (Z1 (@ld) (Z1 (@AD) (Z1 (@vA) (Z1 (@kW) (Z1 (@sE) (Z1 (@vy) (Z1 (@sD) (Z1 (@yT) (@qk))))))))))))))))))))))))
def rp4:=Z1 (@qi) (Z1 (@qj) (Z1 (@uE) (Z1 (@dn) (Z1 (@wG) (Z1 (@wE) (Z1 (@wF) (Z1 (@wH) (Z1 (@wI) (Z1 (@wL) (Z1 (@wJ) (Z1 (@wK) (Z1 (@wM) (Z1 (@wN) (Z1 (@wO) (Z1 (@wP) (Z1 (@jX) (Z1 (@oQ) (Z1 (@oO) (Z1 (@oP) (Z1 (@um) (Z1 (@uh) (Z1 (@sx) (Z1 (@lw) (@ul))))))))))))))))))))))))
def rp5:=Z1 (@vn) (Z1 (@xS) (Z1 (@yF) (Z1 (@yG) ((((((Z1 (@uV) (Z1 (@uW) (Z1 (@zg) (Z1 (@fU_i) (Z1 (@Bi) (Z1 (@Bg) (Z1 (@Bh) (Z1 (@om) (Z1 (@vK) (Z1 (@za) (Z1 (@yY) (Z1 (@yZ) (Z1 (@uH) (Z1 (@uG) (Z1 (@yW) (@yV))))))))))))))))))))))))
def rp6:=Z1 (@zC) (Z1 (@zK) (Z1 (@zF) (Z1 (@zN) (Z1 (@va) (Z1 (@zJ) (Z1 (@uY) (Z1 (@uZ) (Z1 (@zG) (Z1 (@Bj) (Z1 (@wb) (Z1 (@vZ) (Z1 (@wa) (Z1 (@wA) (Z1 (@wz) (Z1 (@gN_U) (Z1 (@gN_V) (Z1 (@gT_t) (Z1 (@qd) (Z1 (@uA) (Z1 (@uI) (Z1 (@yh) (Z1 (@yi) (Z1 (@yl) (@yb))))))))))))))))))))))))
def rp7:=Z1 (@zb) (Z1 (@v4) (Z1 (@uO) (Z1 (@uP) (Z1 (@uK) (Z1 (@uL) (Z1 (@uM) (@uN)))))))
def rp8:=Z1 (@oW_n) (Z1 (@oW_s) (Z1 (@zH) (Z1 (@di) (Z1 (@zE) (Z1 (@zM) (Z1 (@yw) (Z1 (@oA) (Z1 (@BP) (@appO)))))))))
def rp9:=Z1 (@cq) (Z1 (@zD) (Z1 (@zL) (Z1 (@BO) (Z1 (@Ao) (Z1 (@zA) (Z1 (@zO) (Z1 (@zP) (Z1 (@wy) (Z1 (@nr) (Z1 (@zl) (Z1 (@zk) (Z1 (@V3) (Z1 (@zo) (Z1 (@zj) (Z1 (@zn) (Z1 (@zh) ((Z1 (@qt) (Z1 (@uJ) (Z1 (@zd) (Z1 (@ze) (Z1 (@zq) (Z1 (@uk) (Z1 (@zr) (Z1 (@uj) (@sL))))))))))))))))))))))))))
def rp10:=Z1 (@uD) (Z1 (@uB) (Z1 (@yO) (Z1 (@yP) (Z1 (@yQ) (Z1 (@yR) (Z1 (@uC) (Z1 (@qh) (@qe))))))))
def rp11:=Z1 (@yX) (Z1 (@zc) (Z1 (@yB) (Z1 (@yz) (Z1 (@yy) (Z1 (@yx) (Z1 (@yA) (@yC)))))))
def rp12:=Z1 (@wj) (Z1 (@BS) (Z1 (@vz) (Z1 (@mw) (Z1 (@tS) (Z1 (@tV) (@tU))))))
def rp13:=Z1 (@uR) (Z1 (@uS) (@wB))
end TP
set_option maxHeartbeats 4000000
open PySem L2 TP
namespace K76
def gf:Rho->R Fl:=
 (e8 (J1 (bI G7 (aC (b8 .U 0) (aC (b8 .U 1) aN))) (gT 2 (j0 (gN .U 2) (j0 (gN .U 3) gsNil)))
   (mIf (g6 (b2 (fI0 gLt) (b8 .B 2) (b8 .B 3))) (i3 (mC (.bl false))) sNx))
  (i3 (mC (.bl true))))
abbrev Q2:List W->R W:=g7 2 4 gf
def mI:Rho->R Fl:=
 (i3 (bA Q2 (aC (b8 .B 0) (aC (b2 fIx (b8 .B 1) (mC (.int 0))) aN))))
abbrev cH:List W->R W:=g7 2 2 mI
def gj:Rho->R Fl:=
 (i3 (bA (K1 true) (aC (l6 3 (bI G7 (aC (b2 fIx (b8 .B 0) (mC (.int 0))) (aC (b2 fIx (b8 .B 0) (mC (.int 1))) aN))) (gT 2 (j0 (gN .U 1) (j0 (gN .U 2) gsNil))) yes (b2 (fI0 gSub) (b8 .B 2) (b8 .B 1))) aN)))
abbrev X2:List W->R W:=g7 1 1 gj
def iY:Rho->R Fl:=
 (e8 (mIf (G8 (g6 (bA cH (aC (b8 .B 0) (aC (b8 .B 1) aN))))) lB sNx)
  (i3 (bA (K1 true) (aC (l6 4 (bI G7 (aC (b8 .B 0) (aC (bA X2 (aC (b8 .B 1) aN)) aN))) (gT 2 (j0 (gN .U 2) (j0 (gN .U 3) gsNil))) yes (b2 (fI0 B5) (b8 .B 2) (b8 .B 3))) aN))))
abbrev dz:List W->R W:=g7 2 2 iY
def ag:Rho->R Fl:=
 (i3 (bA (K1 true) (aC (l6 5 (bI G7 (aC (b8 .B 0) (aC (b8 .B 1) aN))) (gT 2 (j0 (gN .U 3) (j0 (gN .U 4) gsNil))) yes (b2 (fI0 B5) (b8 .B 3) (b2 (fI CMulB m4) (b8 .B 2) (b8 .B 4)))) aN)))
abbrev N1:List W->R W:=g7 3 3 ag
def mH:Rho->R Fl:=
 (i3 (bA (K1 true) (aC (l6 3 (bI P2 (aC (b8 .B 1) aN)) (gN .U 2) yes (vIf (g6 (b2 (fEq false) (b8 .B 2) (b8 .B 0))) (mC (.int 1)) (mC (.int 0)))) aN)))
abbrev cG:List W->R W:=g7 2 2 mH
def Y1:Rho->R Fl:=
 (e8 (sF 3 (l6 6 (bS (b8 .B 0)) (gN .U 5) yes (bA X2 (aC (b8 .B 5) aN))))
  (e8 (sF 4 (l6 6 (bI P2 (aC (b8 .B 2) aN)) (gN .U 5) yes (b2 fCatT (bA (K1 true) (aC (l6 7 (bS (b8 .B 3)) (gN .U 6) yes (b1 (fU P8) (b2 fIx (b8 .B 6) (b8 .B 5)))) aN)) (bA cG (aC (b8 .B 5) (aC (b8 .B 2) aN))))))
  (e8 (W7 4 (b2 fCatT (bA (K1 true) (aC (l6 6 (bS (b8 .B 3)) (gN .U 5) yes (az (b2 fIx (b8 .B 5) (b8 .B 1)))) aN)) (b2 fRepT (x9 (aC (mC (.int 0)) aN)) (b8 .C 2))))
  (E1 .F 4))))
abbrev F3:List W->R W:=g7 3 5 Y1
def gi:Rho->R Fl:=
 (e8 (J1 (bI K2 (aC (b2 fIx (b8 .B 0) (b1 (fU P8) (mC (.int 1)))) aN)) (gT 2 (j0 (gN .U 1) (j0 (gN .U 2) gsNil)))
   (mIf (g6 (b2 (fI0 gGt) (b8 .B 2) (mC (.int 0)))) (E1 .F 1) sNx))
  (i3 (mC .non)))
abbrev Q3:List W->R W:=g7 1 3 gi
def dX:Rho->R Fl:=
 (e8 (sF 3 (l6 5 (bI P2 (aC (bA fLen (aC (b8 .B 1) aN)) aN)) (gN .U 4) (g6 (b2 (fI0 gGt) (b2 fIx (b2 fIx (b8 .B 0) (b8 .B 4)) (b8 .B 2)) (mC (.int 0)))) (b8 .V 4)))
  (i3 (cN 1 (aC (b8 .B 3) aN))))
abbrev aq:List W->R W:=g7 3 4 dX
def dY:Rho->R Fl:=
 (i3 (bA (K1 true) (aC (l6 6 (bI G7 (aC (b8 .B 0) (aC (b8 .B 1) aN))) (gT 2 (j0 (gN .U 4) (j0 (gN .U 5) gsNil))) yes (b2 (fI O3 ao) (b2 (fI0 gSub) (b2 (fI CMulB m4) (b8 .B 4) (b2 fIx (b8 .B 1) (b8 .B 2))) (b2 (fI CMulB m4) (b2 fIx (b8 .B 0) (b8 .B 2)) (b8 .B 5))) (b8 .B 3))) aN)))
abbrev ar:List W->R W:=g7 4 4 dY
def dW:Rho->R Fl:=
 (e8 (sU 4 (b2 fIx (b8 .B 0) (b8 .B 1)))
  (i3 (l6 7 (bI K2 (aC (b8 .B 0) aN)) (gT 2 (j0 (gN .U 5) (j0 (gN .U 6) gsNil))) yes (vIf (g6 (b2 (fEq false) (b8 .B 5) (b8 .B 1))) (b8 .V 6) (bA ar (aC (b8 .B 6) (aC (b8 .B 4) (aC (b8 .B 2) (aC (b8 .B 3) aN)))))))))
abbrev S5:List W->R W:=g7 4 5 dW
def M8:Rho->R Fl:=
 (e8 (E9 (g6 (b2 (j6 true) (b8 .B 1) (mC (.int 0)))) (e8 (sV 2 (b2 (fI K3 L5) (b8 .B 0) (b8 .B 1)))
   (e8 (sV 0 (b8 .V 1))
   (sV 1 (b8 .V 2)))))
  (E1 .F 0))
abbrev A1:List W->R W:=g7 2 3 M8
def M7:Rho->R Fl:=
 (e8 (sV 1 (mC (.int 0)))
  (e8 (J1 (bS (b8 .U 0)) (gN .U 2)
   (sF 1 (bA A1 (aC (b8 .B 1) (aC (b8 .B 2) aN)))))
  (i3 (bA (K1 true) (aC (l6 4 (bS (b8 .B 0)) (gN .U 3) yes (b2 (fI O3 ao) (b8 .B 3) (b8 .B 1))) aN)))))
abbrev v5:List W->R W:=g7 1 3 M7
def af:Rho->R Fl:=
 (e8 (sF 4 (l6 6 (bS (bh (b2 fIx (b8 .B 0) (b1 (fU P8) (mC (.int 1)))) (pS (b8 .B 3)) pN)) (gN .U 5) yes (b1 (fU P8) (b8 .B 5))))
  (i3 (bA v5 (aC (bA N1 (aC (b8 .B 4) (aC (bA cG (aC (b8 .B 1) (aC (bA fLen (aC (b8 .B 4) aN)) aN))) (aC (b8 .B 2) aN)))) aN))))
abbrev P9:List W->R W:=g7 4 5 af
def gk:Rho->R Fl:=
 (e8 (sF 5 (b2 (kl true) (E2 (aC (mC (.int 0)) aN)) (bA fLen (aC (b2 fIx (b8 .B 0) (mC (.int 0))) aN))))
  (e8 (bB 5 (b8 .B 2) (b8 .V 3))
  (e8 (J1 (bI K2 (aC (b8 .U 1) aN)) (gT 2 (j0 (gN .U 6) (j0 (gN .U 7) gsNil)))
   (bB 5 (b8 .B 7) (b1 (fU P8) (b2 fIx (b2 fIx (b8 .B 0) (b8 .B 6)) (b8 .B 2)))))
  (i3 (bA v5 (aC (vSl true (b8 .C 5) pN (pS (b8 .B 4))) aN))))))
abbrev bH:List W->R W:=g7 5 8 gk
def dZ:Rho->R Fl:=
 (e8 (sF 3 (bA F3 (aC (b8 .B 0) (aC (b8 .B 1) (aC (b8 .B 2) aN)))))
  (e8 (sF 4 (l6 9 (bI P2 (aC (b8 .B 2) aN)) (gN .U 8) yes (b2 (fI0 B5) (bA fLen (aC (b8 .B 0) aN)) (b8 .B 8))))
  (e8 (sV 5 (mC (.int 1)))
  (e8 (sF 6 (bA Q3 (aC (b8 .B 3) aN)))
  (e8 (E9 (g6 (b2 (bJ true) (b8 .B 6) (mC .non))) (e8 (sF 7 (bA aq (aC (b8 .B 3) (aC (b8 .B 4) (aC (b8 .B 6) aN)))))
   (e8 (mIf (g6 (b2 (bJ false) (b8 .B 7) (mC .non))) (i3 (x9 (aC (mC (.str "bag")) (aC (bA bH (aC (b8 .B 3) (aC (b8 .B 4) (aC (b8 .B 6) (aC (b8 .B 5) (aC (bA fLen (aC (b8 .B 0) aN)) aN)))))) aN)))) sNx)
   (e8 (sF 3 (bA S5 (aC (b8 .B 3) (aC (b8 .B 7) (aC (b8 .B 6) (aC (b8 .B 5) aN))))))
   (e8 (Z3 6 (bB 4 (b8 .B 7) (b8 .V 6)))
   (e8 (sV 5 (b2 fIx (b2 fIx (b8 .C 3) (b8 .C 7)) (b8 .C 6)))
   (sF 6 (bA Q3 (aC (b8 .B 3) aN)))))))))
  (i3 (x9 (aC (mC (.str "weights")) (aC (bA P9 (aC (b8 .B 3) (aC (b8 .B 1) (aC (b8 .B 5) (aC (bA fLen (aC (b8 .B 0) aN)) aN))))) aN)))))))))
abbrev av:List W->R W:=g7 3 8 dZ
def iW:Rho->R Fl:=
 (e8 (sF 2 (b2 fRepT (x9 (aC (mC (.int 0)) aN)) (b8 .C 1)))
  (e8 (J1 (bI P2 (aC (b8 .B 1) aN)) (gN .U 3)
   (e8 (sF 4 (bA av (aC (b8 .B 0) (aC (b8 .B 3) (aC (b8 .B 1) aN)))))
   (e8 (mIf (g6 (b2 (j6 false) (b2 fIx (b8 .B 4) (mC (.int 0))) (mC (.str "bag")))) (i3 (x9 (aC (mC (.str "bag")) (aC (b8 .V 3) (aC (b2 fIx (b8 .C 4) (mC (.int 1))) aN))))) sNx)
   (sF 2 (bA N1 (aC (b8 .B 2) (aC (b2 fIx (b8 .B 4) (mC (.int 1))) (aC (mC (.int 1)) aN))))))))
  (i3 (x9 (aC (mC (.str "weights")) (aC (bA v5 (aC (b8 .B 2) aN)) aN))))))
abbrev V1:List W->R W:=g7 2 5 iW
def cz:Rho->R Fl:=
 (e8 (sF 2 (E2 aN))
  (e8 (sV 3 (b8 .V 1))
  (e8 (E9 (g6 (b2 (bJ true) (b8 .B 3) (mC .non))) (e8 (W7 2 (b8 .V 3))
   (sU 3 (b2 fIx (b2 fIx (b8 .B 0) (b8 .B 3)) (mC (.int 1))))))
  (E1 .F 2))))
abbrev J7:List W->R W:=g7 2 4 cz
def rB:Rho->R Fl:=
 (i3 (bA cI (aC (bA J7 (aC (b8 .B 0) (aC (b8 .B 1) aN))) aN)))
abbrev kj:List W->R W:=g7 2 2 rB
def Y0:Rho->R Fl:=
 (e8 (sF 3 (bA kj (aC (b8 .B 0) (aC (b8 .B 2) aN))))
  (i3 (l6 5 (bS (vSl true (b8 .C 3) (pS (b2 (fI0 B5) (gm (b8 .B 3) (b8 .B 1)) (mC (.int 1)))) pN)) (gN .U 4) yes (az (b2 fIx (b2 fIx (b8 .B 0) (b8 .B 4)) (mC (.int 2)))))))
abbrev B8:List W->R W:=g7 3 4 Y0
def R9:Rho->R Fl:=
 (i3 (l6 4 (bI K2 (aC (b2 fIx (b8 .B 0) (mC (.int 1))) aN)) (gT 2 (j0 (gN .U 2) (j0 (gN .U 3) gsNil))) (g6 (bA cH (aC (b8 .B 1) (aC (b8 .B 3) aN)))) (x9 (aC (bA dz (aC (b8 .B 1) (aC (b8 .B 3) aN))) (aC (b8 .V 2) aN)))))
abbrev J8:List W->R W:=g7 2 2 R9
def iX:Rho->R Fl:=
 (e8 (sF 2 (E2 (aC (x9 (aC (az (b2 fIx (b8 .B 0) (mC (.int 0)))) (aC (mC .non) (aC (mC .non) aN)))) aN)))
  (e8 (eP 3 (b2 fIx (b8 .B 0) (mC (.int 0))) (mC (.bl true)))
  (e8 (sV 4 (mC (.int 0)))
  (e8 (E9 (g6 (b2 (fI0 gLt) (b8 .B 4) (bA fLen (aC (b8 .B 2) aN)))) (e8 (sV 5 (b2 fIx (b2 fIx (b8 .C 2) (b8 .C 4)) (mC (.int 0))))
   (e8 (J1 (bS (bA J8 (aC (b8 .B 0) (aC (b8 .B 5) aN)))) (gT 2 (j0 (gN .U 6) (j0 (gN .U 7) gsNil)))
    (e8 (mIf (mIn false 3 (b8 .B 6)) sCt sNx)
    (e8 (mIf (g6 (b2 (j6 false) (bA fLen (aC (b8 .B 2) aN)) (b8 .B 1))) (Z3 2 (i3 (x9 (aC (b8 .V 2) (aC (mC (.bl false)) aN))))) sNx)
    (e8 (cB 3 (b8 .B 6) (mC (.bl true)))
    (W7 2 (x9 (aC (b8 .V 6) (aC (b8 .V 4) (aC (b8 .V 7) aN)))))))))
   (gq 4 rF (mC (.int 1))))))
  (Z3 2 (i3 (x9 (aC (b8 .V 2) (aC (mC (.bl true)) aN)))))))))
abbrev V2:List W->R W:=g7 2 8 iX
def aV:Rho->R Fl:=
 (i3 (l6 2 (bS (b8 .B 0)) (gN .U 1) yes (az (b2 fIx (b8 .B 1) (mC (.int 0))))))
abbrev S8:List W->R W:=g7 1 1 aV
def ge:Rho->R Fl:=
 (i3 (bA B8 (aC (b8 .B 0) (aC (mC (.int 0)) (aC (b8 .B 1) aN)))))
abbrev bG:List W->R W:=g7 2 2 ge
def ah:Rho->R Fl:=
 (e8 (J1 (bI K2 (aC (b8 .U 0) aN)) (gT 2 (j0 (gN .U 1) (j0 (gN .U 2) gsNil)))
   (J1 (bS (vSl true (bA J7 (aC (b8 .B 0) (aC (b8 .B 1) aN))) (pS (mC (.int 1))) pN)) (gN .U 3)
    (mIf (g6 (bA Q2 (aC (b2 fIx (b8 .B 2) (mC (.int 0))) (aC (b2 fIx (b2 fIx (b8 .B 0) (b8 .B 3)) (mC (.int 0))) aN)))) (i3 (x9 (aC (b8 .V 3) (aC (b8 .V 1) aN)))) sNx)))
  (i3 (mC .non)))
abbrev Q0:List W->R W:=g7 1 4 ah
def M9:Rho->R Fl:=
 (e8 (sF 2 (bA V2 (aC (b8 .B 0) (aC (b8 .B 1) aN))))
  (e8 (sV 3 (b2 fIx (b8 .C 2) (mC (.int 0))))
  (e8 (sF 4 (bA Q0 (aC (b8 .B 3) aN)))
  (e8 (mIf (g6 (b2 (bJ true) (b8 .B 4) (mC .non))) (i3 (x9 (aC (mC (.str "lift")) (aC (bA bG (aC (b8 .B 3) (aC (b2 fIx (b8 .B 4) (mC (.int 0))) aN))) (aC (bA B8 (aC (b8 .B 3) (aC (b2 fIx (b8 .B 4) (mC (.int 0))) (aC (b2 fIx (b8 .B 4) (mC (.int 1))) aN)))) aN))))) sNx)
  (e8 (mIf (g6 (b2 fIx (b8 .B 2) (mC (.int 1)))) (i3 (x9 (aC (mC (.str "all")) (aC (bA S8 (aC (b8 .B 3) aN)) aN)))) sNx)
  (e8 (sF 5 (bA V1 (aC (b2 fIx (b8 .B 0) (mC (.int 1))) (aC (bA fLen (aC (b2 fIx (b8 .B 0) (mC (.int 0))) aN)) aN))))
  (Z3 5 (i3 (vIf (g6 (b2 (j6 false) (b2 fIx (b8 .B 5) (mC (.int 0))) (mC (.str "weights")))) (b8 .V 5) (x9 (aC (mC (.str "open")) aN)))))))))))
abbrev N3:List W->R W:=g7 2 6 M9
def L3:Rho->R Fl:=
 (e8 (mIf (g6 (b2 (fI0 gGt) (bA fLen (aC (b8 .B 0) aN)) (mC (.int 0)))) (i3 (az (b2 fIx (b8 .B 0) (b2 (fI K3 L5) (b8 .B 1) (bA fLen (aC (b8 .B 0) aN)))))) sNx)
  (i3 (mC (.int 0))))
abbrev A6:List W->R W:=g7 2 2 L3
def aX:Rho->R Fl:=
 (i3 (b2 (fI K3 L5) (b2 (fI aD ao) (b2 (fI K3 L5) (b2 (fI CMulB m4) (b2 (fI0 B5) (bA A6 (aC (b8 .B 0) (aC (b8 .B 1) aN))) (mC (.int 1))) (b2 (fI0 B5) (b2 (fI0 B5) (b2 (fI CMulB m4) (b8 .B 1) (b8 .B 1)) (b2 (fI CMulB m4) (mC (.int 7)) (b8 .B 1))) (mC (.int 48271)))) (mC (.int 99991))) (mC (.int 3))) (b8 .B 2)))
abbrev l7:List W->R W:=g7 3 3 aX
def U7:Rho->R Fl:=
 (e8 (sF 5 (E2 aN))
  (e8 (J1 (bI P2 (aC (b8 .B 2) aN)) (gN .U 6)
   (e8 (sU 7 (b2 fIx (b8 .B 3) (bA l7 (aC (b8 .B 0) (aC (b2 (fI0 B5) (b8 .B 1) (b8 .B 6)) (aC (bA fLen (aC (b8 .B 3) aN)) aN))))))
   (e8 (mIf (jC (g6 (b2 (j6 false) (b8 .B 4) (mC (.int 0)))) (g6 (b2 (fI0 gGt) (b8 .B 7) (mC (.int 0))))) (sV 7 (b2 (fI K3 L5) (b2 (fI CMulB m4) (b2 (fI0 B5) (bA A6 (aC (b8 .B 0) (aC (b2 (fI0 B5) (b8 .B 1) (b8 .B 6)) aN))) (b8 .B 6)) (mC (.int 48271))) (b2 (fI0 B5) (b2 (fI R0 bF) (mC (.int 10)) (mC (.int 9))) (mC (.int 1))))) (sV 7 (b2 (fI CMulB m4) (b8 .B 7) (b8 .B 4))))
   (W7 5 (b8 .V 7)))))
  (i3 (bA (K1 true) (aC (b8 .C 5) aN)))))
abbrev o7:List W->R W:=g7 5 8 U7
def aj:Rho->R Fl:=
 (e8 (sF 1 (bA l7 (aC (b8 .B 0) (aC (mC (.int 2)) (aC (mC (.int 8)) aN)))))
  (e8 (mIf (g6 (b2 (j6 false) (b8 .B 1) (mC (.int 7)))) (i3 (mC (.int 0))) sNx)
  (e8 (mIf (g6 (b2 (fI0 gGt) (b8 .B 1) (mC (.int 4)))) (i3 (b2 (fI0 B5) (mC (.int 1)) (b2 (fI K3 L5) (b2 (fI CMulB m4) (bA A6 (aC (b8 .B 0) (aC (mC (.int 2)) aN))) (mC (.int 48271))) (b2 (fI R0 bF) (mC (.int 10)) (mC (.int 8)))))) sNx)
  (i3 (mC (.int 1))))))
abbrev Q4:List W->R W:=g7 1 2 aj
def aW:Rho->R Fl:=
 (e8 (sV 1 (b2 fIx (E2 (aC (mC (.int 2)) (aC (mC (.int 3)) (aC (mC (.int 1)) (aC (mC (.int 5)) (aC (mC (.int 3)) (aC (mC (.int 4)) (aC (mC (.int 2)) (aC (mC (.int 6)) aN))))))))) (bA l7 (aC (b8 .B 0) (aC (mC (.int 0)) (aC (mC (.int 8)) aN))))))
  (e8 (sF 2 (bA Q4 (aC (b8 .B 0) aN)))
  (e8 (sF 3 (E2 aN))
  (e8 (J1 (bI P2 (aC (b2 fIx (E2 (aC (mC (.int 3)) (aC (mC (.int 2)) (aC (mC (.int 4)) (aC (mC (.int 1)) (aC (mC (.int 3)) (aC (mC (.int 5)) (aC (mC (.int 2)) (aC (mC (.int 8)) (aC (mC (.int 0)) (aC (mC (.int 6)) (aC (mC (.int 7)) aN)))))))))))) (bA l7 (aC (b8 .B 0) (aC (mC (.int 1)) (aC (mC (.int 11)) aN))))) aN)) (gN .U 4)
   (e8 (sV 5 (b2 (fI0 B5) (mC (.int 5)) (b2 (fI CMulB m4) (b8 .B 1) (b2 (fI0 B5) (b2 (fI CMulB m4) (mC (.int 2)) (b8 .B 4)) (mC (.int 1))))))
   (e8 (sF 6 (bA o7 (aC (b8 .B 0) (aC (b8 .B 5) (aC (b8 .B 1) (aC (E2 (aC (mC (.int 0)) (aC (mC (.int 1)) (aC (mC (.int 0)) (aC (mC (.int 2)) (aC (mC (.int 1)) (aC (mC (.int 0)) aN))))))) (aC (b8 .B 2) aN)))))))
   (e8 (sF 7 (bA o7 (aC (b8 .B 0) (aC (b2 (fI0 B5) (b8 .B 5) (b8 .B 1)) (aC (b8 .B 1) (aC (E2 (aC (mC (.int 1)) (aC (mC (.int 0)) (aC (mC (.int 0)) (aC (mC (.int 1)) (aC (mC (.int 2)) (aC (mC (.int 0)) aN))))))) (aC (b8 .B 2) aN)))))))
   (e8 (mIf (g6 (b2 (fI0 gGt) (bA l7 (aC (b8 .B 0) (aC (mC (.int 3)) (aC (mC (.int 3)) aN)))) (mC (.int 0)))) (e8 (sF 8 (bA l7 (aC (b8 .B 0) (aC (b2 (fI0 B5) (b8 .B 5) (b8 .B 1)) (aC (b8 .B 1) aN)))))
    (sV 7 (b2 fCatT (bh (b8 .B 6) (pS (b8 .B 8)) pN) (bh (b8 .B 6) pN (pS (b8 .B 8)))))) sNx)
   (Z3 7 (Z3 6 (W7 3 (x9 (aC (b8 .V 6) (aC (b8 .V 7) aN)))))))))))
  (e8 (sV 9 (b2 fIx (E2 (aC (mC (.int 1)) (aC (mC (.int 1)) (aC (mC (.int 7)) (aC (b2 (fI R0 bF) (mC (.int 10)) (mC (.int 6))) aN))))) (bA l7 (aC (b8 .B 0) (aC (mC (.int 4)) (aC (mC (.int 4)) aN))))))
  (e8 (sF 10 (bA o7 (aC (b8 .B 0) (aC (mC (.int 5)) (aC (b8 .B 1) (aC (E2 (aC (mC (.int 1)) (aC (mC (.int 0)) (aC (mC (.int 2)) (aC (mC (.int 1)) (aC (mC (.int 3)) (aC (mC (.int 0)) aN))))))) (aC (b8 .B 2) aN)))))))
  (i3 (x9 (aC (bA (K1 true) (aC (l6 12 (bS (b8 .B 10)) (gN .U 11) yes (b2 (fI CMulB m4) (b8 .B 11) (b8 .B 9))) aN)) (aC (bA (K1 true) (aC (b8 .C 3) aN)) aN))))))))))
abbrev S9:List W->R W:=g7 1 11 aW
def ai:Rho->R Fl:=
 (i3 (V7 (bA fIsi (aC (b8 .B 0) (aC (mC (.ty "int")) aN))) (eY (bA fIsi (aC (b8 .B 0) (aC (mC (.ty "bool")) aN))))))
abbrev J9:List W->R W:=g7 1 1 ai
def N0:Rho->R Fl:=
 (e8 (mIf (Y6 (G8 (g6 (bA fIsi (aC (b8 .B 0) (aC (mC (.ty "tuple")) aN))))) (g6 (b2 (j6 true) (bA fLen (aC (b8 .B 0) aN)) (b8 .B 2)))) (i3 (mC (.bl false))) sNx)
  (e8 (mIf (G8 (g6 (bA (cJ dv) (aC (l6 6 (bS (b8 .B 0)) (gN .U 5) yes (V7 (bA J9 (aC (b8 .B 5) aN)) (b2 (fI0 gGt) (b8 .B 5) (mC (.int 0))))) aN)))) (i3 (mC (.bl false))) sNx)
  (e8 (J1 (bS (b8 .U 1)) (gT 2 (j0 (gN .U 3) (j0 (gN .U 4) gsNil)))
   (mIf (g6 (b2 (fI0 gGt) (bA (kn kg) (aC (l6 6 (bI P2 (aC (b8 .B 2) aN)) (gN .U 5) yes (b2 (fI CMulB m4) (b2 fIx (b8 .B 0) (b8 .B 5)) (b2 (fI0 gSub) (b2 fIx (b8 .B 4) (b8 .B 5)) (b2 fIx (b8 .B 3) (b8 .B 5))))) aN)) (mC (.int 0)))) (i3 (mC (.bl false))) sNx))
  (i3 (mC (.bl true))))))
abbrev D4:List W->R W:=g7 3 5 N0
def N7:Rho->R Fl:=
 (e8 (mIf (Y6 (G8 (g6 (bA fIsi (aC (b8 .B 0) (aC (mC (.ty "list")) aN))))) (g6 (b2 (j6 true) (bA fLen (aC (b8 .B 0) aN)) (bA fLen (aC (b8 .B 1) aN))))) (i3 (mC (.bl false))) sNx)
  (e8 (J1 (bI G7 (aC (b8 .U 0) (aC (b8 .U 1) aN))) (gT 2 (j0 (gN .U 2) (j0 (gN .U 3) gsNil)))
   (mIf (Y6 (G8 (g6 (bA fIsi (aC (b8 .B 2) (aC (mC (.ty "tuple")) aN))))) (Y6 (G8 (g6 (bA (cJ dv) (aC (l6 5 (bS (b8 .B 2)) (gN .U 4) yes (bA J9 (aC (b8 .B 4) aN))) aN)))) (g6 (b2 (fEq true) (b8 .B 2) (b2 fIx (b8 .B 3) (mC (.int 0))))))) (i3 (mC (.bl false))) sNx))
  (i3 (mC (.bl true)))))
abbrev E5:List W->R W:=g7 2 4 N7
def D2:Rho->R Fl:=
 (e8 (mIf (Y6 (G8 (g6 (bA fIsi (aC (b8 .B 0) (aC (mC (.ty "tuple")) aN))))) (Y6 (g6 (b2 (fI0 gLt) (bA fLen (aC (b8 .B 0) aN)) (mC (.int 1)))) (G8 (g6 (bA fIsi (aC (b2 fIx (b8 .B 0) (mC (.int 0))) (aC (mC (.ty "str")) aN))))))) (i3 (mC (.bl false))) sNx)
  (e8 (mIf (g6 (b2 (j6 false) (b2 fIx (b8 .B 0) (mC (.int 0))) (mC (.str "lift")))) (i3 (V7 (eY (b8 .B 3)) (eY (b8 .B 4)))) sNx)
  (e8 (mIf (g6 (b8 .B 3)) (i3 (V7 (b2 (j6 false) (b2 fIx (b8 .B 0) (mC (.int 0))) (mC (.str "all"))) (V7 (b2 (j6 false) (bA fLen (aC (b8 .B 0) aN)) (mC (.int 2))) (bA E5 (aC (b2 fIx (b8 .B 0) (mC (.int 1))) (aC (b8 .B 2) aN)))))) sNx)
  (e8 (mIf (g6 (b8 .B 4)) (i3 (V7 (b2 (j6 false) (b2 fIx (b8 .B 0) (mC (.int 0))) (mC (.str "weights"))) (V7 (b2 (j6 false) (bA fLen (aC (b8 .B 0) aN)) (mC (.int 2))) (bA D4 (aC (b2 fIx (b8 .B 0) (mC (.int 1))) (aC (b2 fIx (b8 .B 1) (mC (.int 1))) (aC (bA fLen (aC (b2 fIx (b8 .B 1) (mC (.int 0))) aN)) aN))))))) sNx)
  (i3 (b2 (fEq false) (b8 .B 0) (x9 (aC (mC (.str "open")) aN))))))))
abbrev K0:List W->R W:=g7 5 5 D2
def rC:Rho->R Fl:=
 (e8 (sF 1 (bA S9 (aC (b8 .B 0) aN)))
  (e8 (sV 2 (mC (.int 30)))
  (e8 (mIf (g6 (b2 (j6 false) (bA l7 (aC (b8 .B 0) (aC (mC (.int 40)) (aC (mC (.int 2)) aN)))) (mC (.int 1)))) (sV 2 (b2 (fI0 B5) (mC (.int 1)) (bA l7 (aC (b8 .B 0) (aC (mC (.int 41)) (aC (mC (.int 30)) aN)))))) sNx)
  (e8 (sF 3 (x9 aN))
  (e8 (mIf (g6 (b2 (j6 false) (bA l7 (aC (b8 .B 0) (aC (mC (.int 42)) (aC (mC (.int 2)) aN)))) (mC (.int 0)))) (sCN 3 N3 (aC (b8 .B 1) (aC (b8 .B 2) aN))) sNx)
  (e8 (sG (gT 2 (j0 (gN .V 4) (j0 (gN .V 5) gsNil))) (bA V2 (aC (b8 .B 1) (aC (b8 .B 2) aN))))
  (e8 (sV 6 (b2 (j6 false) (b2 fIx (bA V1 (aC (b2 fIx (b8 .B 1) (mC (.int 1))) (aC (bA fLen (aC (b2 fIx (b8 .B 1) (mC (.int 0))) aN)) aN))) (mC (.int 0))) (mC (.str "weights"))))
  (e8 (mIf (g6 (b2 (j6 false) (bA l7 (aC (b8 .B 0) (aC (mC (.int 42)) (aC (mC (.int 2)) aN)))) (mC (.int 1)))) (sCN 3 N3 (aC (b8 .B 1) (aC (b8 .B 2) aN))) sNx)
  (e8 (mIf (G8 (g6 (bA K0 (aC (b8 .B 3) (aC (b8 .B 1) (aC (b8 .B 4) (aC (b8 .B 5) (aC (b8 .B 6) aN)))))))) (i3 (mC (.bl false))) sNx)
  (e8 (mIf (g6 (b2 (j6 false) (b2 fIx (b8 .B 3) (mC (.int 0))) (mC (.str "all")))) (L4 3 1 (x9 aN)) sNx)
  (i3 (bA K0 (aC (bA N3 (aC (b8 .B 1) (aC (b8 .B 2) aN))) (aC (b8 .B 1) (aC (b8 .B 4) (aC (b8 .B 5) (aC (b8 .B 6) aN)))))))))))))))))
abbrev eQ:List W->R W:=g7 1 7 rC
end K76
set_option maxHeartbeats 4000000
open PySem L2 TP
namespace K76
--RPX: iZ, mZ, mD, mB, U6, je, ja, nS, iw, rP, gX, mJ, jd, mK, nc, gn, bL, iz, iA, iy
def rp14:=Z1 (@yu) (Z1 (@yt) (Z1 (@yr) (Z1 (@yq) (Z1 (@ya) (Z1 (@ym) (Z1 (@yj) (Z1 (@yk) (Z1 (@yf) (Z1 (@yg) (Z1 (@yn) (Z1 (@yo) (Z1 (@yd) (@ye)))))))))))))
def rp15:=Z1 (@Bool.not_true) (Z1 (@Bool.not_false) (Z1 (@Bool.true_or) (Z1 (@Bool.or_true) (Z1 (@Bool.false_or) (Z1 (@Bool.or_false) (Z1 (@Bool.true_and) (Z1 (@Bool.and_true) (Z1 (@Bool.false_and) (Z1 (@Bool.and_false) (Z1 (@Int.sub_zero) (Z1 (@Int.zero_add) (Z1 (@Int.toNat_natCast) (Z1 (@Bool.false_eq_true) (Z1 (@Bool.true_eq_false) (Z1 (@and_true) (Z1 (@true_and) (Z1 (@or_true) (Z1 (@true_or) (@and_self)))))))))))))))))))
def rp18:=Z1 (@List.length_cons.{0}) (Z1 (@List.length_nil.{0}) (Z1 (@List.length_map.{0,0}) (Z1 (@List.length_append.{0}) (Z1 (@List.length_set.{0}) (@List.length_range)))))
def rp16:=Z1 rp14 (Z1 rp15 (Z1 rp13 (Z1 rp12 (Z1 rp11 (Z1 rp10 (Z1 rp9 (Z1 rp8 (Z1 rp0 (Z1 rp1 (Z1 rp2 (Z1 rp3 (Z1 rp4 (Z1 rp5 (Z1 rp6 rp7))))))))))))))
def rp17:=Z1 (@List.map_cons.{0,0}) (Z1 (@List.map_nil.{0,0}) (Z1 (@List.replicate_succ.{0}) (Z1 (@List.replicate_zero.{0}) (Z1 (@List.cons_append.{0}) (Z1 (@List.nil_append.{0}) (Z1 (@List.append_nil.{0}) (Z1 (@R.ok_bind) (Z1 (@R.stuck_bind) (@R.ex_bind)))))))))
def rp19:=Z1 (@beq_self_eq_true.{0}) (Z1 (@Option.isNone_none.{0}) (Z1 (@Option.isNone_some.{0}) (Z1 (@Option.bind_some.{0,0}) (Z1 (@if_true.{1}) (Z1 (@if_false.{1}) (Z1 (@decide_true) (@decide_false)))))))
def Y4 (r:R Fl):R Fl:=match r with
 | .ok (.ct ρ)=>.ok (.nx ρ)
 | r=>r
theorem iz (ρ:Rho):Y4 (.ok (.nx ρ))=.ok (.nx ρ):=rfl
theorem iA (ρ:Rho):Y4 (.ok (.ct ρ))=.ok (.nx ρ):=rfl
theorem iy (w:W):Y4 (.ok (.rt w))=.ok (.rt w):=rfl
theorem cg {mg:W->Rho->Option Rho} {mb:Rho->R Fl} {Jr:W->Prop} (I:Nat->Rho->Prop):∀ (ws:List W) (k:Nat) (ρ:Rho),I k ρ ->
  (∀ (i:Nat) (w:W) (ρ:Rho),ws[i]?=some w->I (k+i) ρ->∃ ρ1,mg w ρ=some ρ1/\Po (Y4 (mb ρ1)) (I (k+i+1)) Jr)->Po (A4 mg mb ws ρ) (I (k+ws.length)) Jr
 | [],k,ρ,h,_=>h
 | w::ws,k,ρ,h,st=>by
  obtain ⟨ρ1,e1,p⟩:=st 0 w ρ rfl h
  unfold A4
  rw [e1]
  show Po (mb ρ1>>=_) _ _
  have go:∀ ρ2,I (k+0+1) ρ2->Po (A4 mg mb ws ρ2) (I (k+(w::ws).length)) Jr:=fun ρ2 p=>by
   have:=cg (mg:=mg) (mb:=mb) I ws (k+1) ρ2 p fun i w ρ hw hp=>by
    have:=st (i+1) w ρ (by simpa using hw) (by rw [show k+(i+1)=k+1+i by omega]; exact hp)
    rw [show k+(i+1)+1=k+1+i+1 by omega] at this
    exact this
   rw [List.length_cons,show k+(ws.length+1)=k+1+ws.length by omega]
   exact this
  revert p
  cases mb ρ1 with
  | ex _=>exact fun p=>p.elim
  | stuck=>exact fun p=>p.elim
  | ok f=>cases f with
   | bk _=>exact fun p=>p.elim
   | ct ρ2=>exact fun p=>go ρ2 p
   | rt w=>exact fun p=>p
   | nx ρ2=>exact fun p=>go ρ2 p
theorem pk {mg:W->Rho->Option Rho} {mb n:Rho->R Fl} {ws:List W} {ρ:Rho} {Jn:Rho->Prop} {Jr:W->Prop} (I:Nat->Rho->Prop) (h0:I 0 ρ)
  (st:∀ (i:Nat) (w:W) (ρ:Rho),ws[i]?=some w->I i ρ->∃ ρ1,mg w ρ=some ρ1/\Po (Y4 (mb ρ1)) (I (i+1)) Jr) (hn:∀ ρ,I ws.length ρ->Po (n ρ) Jn Jr):Po (andThen (A4 mg mb ws ρ) n) Jn Jr:=by
 have:=cg (mg:=mg) (mb:=mb) (Jr:=Jr) I ws 0 ρ h0 fun i w ρ hw hp=>by rw [Nat.zero_add] at hp ⊢; exact st i w ρ hw hp
 rw [Nat.zero_add] at this
 exact P4 (this.mono hn fun _ h=>h)
theorem iK {b:Bool} {m n:Rho->R Fl} {ρ:Rho} {k:Rho->R Fl} {Jn:Rho->Prop} {Jr:W->Prop} (h1:b=true->Po (Y4 (andThen (m ρ) k)) Jn Jr) (h2:b=false->Po (Y4 (andThen (n ρ) k)) Jn Jr):Po (Y4 (andThen (ifS (.ok b) m n ρ) k)) Jn Jr:=by
 cases b with
 | true=>exact h1 rfl
 | false=>exact h2 rfl
theorem rP (ns:List Int) (l u:Option Int):Rst (.ok (.tup (ns.map W.int))) (.ok l) (.ok u)=.ok (.tup (D6 (ns.map W.int) l u)):=Ar (v4 ns) l u
def yE (o:Option Sl) (r:R W) (i:Nat) (ρ:Rho):R Fl:=match o with
 | some (.own ws)=>r>>=fun w=>if ws.length<1000 then .ok (.nx (ρ.set i (.own (w::ws)))) else .stuck
 | _=>.stuck
theorem iZ (i:Nat) (m:Rho->R W) (ρ:Rho):mIns i m ρ=yE (ρ[i]?) (m ρ) i ρ:=rfl
theorem mZ {ws:List W} {w:W} {i:Nat} {ρ:Rho} (h:ws.length<1000):yE (some (.own ws)) (.ok w) i ρ=.ok (.nx (ρ.set i (.own (w::ws)))):=if_pos h
def rpZ:=Z1 rp19 (Z1 rp16 (Z1 rp17 (Z1 rp18 (Z1 @iZ (Z1 @mZ (Z1 @mD (Z1 @mB (Z1 @U6 (Z1 @je (Z1 @ja (Z1 @nS (Z1 @iw (Z1 @rP (Z1 @gX (Z1 @mJ (Z1 @jd (Z1 @mK (Z1 @nc (Z1 @gn (Z1 @bL (Z1 @iz (Z1 @iA (Z1 @iy (@decide_eq_true_eq))))))))))))))))))))))))
def rpB:=Z1 (@wv) (Z1 (@wu) (Z1 (@wq) (Z1 (@wo) (@wn))))
local macro_rules | `(tactic| exists $[$es],*)=>`(tactic| simp (disch:=first | with_reducible assumption | omega | (simp only [rp18]; omega)) only [List.getElem?_cons_zero,List.getElem?_cons_succ,List.set_cons_succ,List.set_cons_zero,tyW,isN,simprocAttr,rpZ,$[$es:term],*])
abbrev Mv:=List Int×List Int
abbrev mW (m:Mv):W:=.tup [tI m.1,tI m.2]
abbrev lS (ss:List (List Int)):W:=.lst (ss.map tI)
abbrev tM_ (ms:List Mv):W:=.tup (ms.map mW)
theorem xN (m:Mv):noL (mW m)=true:=by simp [noL,g4,v4]
theorem xM (ms:List Mv):g4 (ms.map mW)=true:=bv mW xN ms
theorem uf {ms:List Mv} {i:Nat} {w:W} (h:(ms.map mW)[i]?=some w):∃ m,m∈ms/\ms[i]?=some m/\w=mW m:=by
 rw [List.getElem?_map] at h
 cases q:ms[i]? with
 | none=>rw [q] at h; cases h
 | some m=>rw [q] at h; cases h; exact ⟨m,List.mem_of_getElem? q,rfl,rfl⟩
theorem memD {ns:List Int} {P:Int->Prop} (h:∀ x∈ns,P x) {i:Nat} (hi:i<ns.length):P (ns.getD i 0):=mem_getD h hi
def nn (xs:List Int):Prop:=∀ x∈xs,0<=x
def okN (n:Nat) (m:Mv):Prop:=m.1.length=n/\m.2.length=n/\nn m.1/\nn m.2
theorem rs {xs:List Int} (h:nn xs) (k:Nat):0<=xs.getD k 0:=by
 by_cases hk:k<xs.length
 ·exact memD h hk
 ·rw [List.getD_eq_getElem?_getD]; simp [hk]
theorem getM {n:Nat} {ms:List Mv} {i:Nat} (hm:∀ m∈ms,okN n m) (h1:i<ms.length):okN n (ms.getD i ([],[])):=by
 refine hm _ ?_
 rw [List.getD_eq_getElem?_getD]; simp [h1]
def x4 (a b:List Int):Bool:=(List.range a.length).all fun k=>decide (b.getD k 0<=a.getD k 0)
theorem Bl {a b:List Int} {i:Nat} (hi:i<a.length) (h:a.getD i 0<b.getD i 0):x4 a b=false:=by
 unfold x4
 rw [List.all_eq_false]
 exact ⟨i,by simpa using hi,fun h'=>by have:=of_decide_eq_true h'; omega⟩
theorem eT {a b:List Int} (h:∀ k,k<a.length->b.getD k 0<=a.getD k 0):x4 a b=true:=by
 unfold x4
 rw [List.all_eq_true]
 exact fun k hk=>decide_eq_true (h k (by simpa using hk))
theorem eh {a b:List Int} (hl:b.length=a.length):Q2 [tI a,tI b]=.ok (.bl (x4 a b)):=by
 have fin:Ok (Q2 [tI a,tI b]) fun v=>v=.bl (x4 a b):=by
  have hz:=O6 (tI a) (tI b) _ _ rfl rfl
  rw [O4 hl] at hz
  exists rpB,gf,hz
  refine w9 (C1 (fun i ρ=>∃ u v,ρ = [.par (tI a),.par (tI b),u,v]/\∀ k,k<i->b.getD k 0<=a.getD k 0) ⟨_,_,rfl,fun k hk=>absurd hk (Nat.not_lt_zero _)⟩ ?_ ?_)
  ·rintro i u ρ hu ⟨_,_,rfl,hall⟩
   obtain ⟨hi,rfl⟩:=fw hu
   refine ⟨_,rfl,?_⟩
   exists rp18
   refine cf (fun h=>?_) (fun h=>?_)
   ·exists rp18
    rw [Bl hi (by simpa using h)]
   ·exists rp18
    refine ⟨_,_,rfl,fun k hk=>?_⟩
    by_cases e:k=i
    ·subst e; simpa using h
    ·exact hall k (by omega)
  ·rintro ρ ⟨_,_,rfl,hall⟩
   rw [List.length_map,List.length_range] at hall
   exists rp18
   rw [eT hall]
 obtain ⟨v,e,rfl⟩:=fin
 exact e
theorem jr {s:List Int} {m:Mv} (h:m.1.length=s.length):cH [tI s,mW m]=.ok (.bl (x4 s m.1)):=by
 have a0:L2.atI [tI m.1,tI m.2] 0=some (tI m.1):=rfl
 have k:=eh (a:=s) (b:=m.1) h
 exists rpB,mI,a0,k
theorem eB {n:Nat} {m:Mv} (h6:n<=6) (h:okN n m):X2 [mW m]=.ok (tI ((List.range n).map fun k=>m.2.getD k 0-m.1.getD k 0)):=by
 have a0:L2.atI [tI m.1,tI m.2] 0=some (tI m.1):=rfl
 have a1:L2.atI [tI m.1,tI m.2] 1=some (tI m.2):=rfl
 have hz:=O6 (tI m.1) (tI m.2) _ _ rfl rfl
 rw [O4 (by rw [h.1,h.2.1]),h.1] at hz
 exists rpB,gj,a0,a1,hz
 have e:∀ N mg me ρ (h:∀ k,k<n->∃ ρ1,mg (.tup [.int (m.1.getD k 0),.int (m.2.getD k 0)]) (ρ++List.replicate (N-ρ.length) Sl.un)=some ρ1/\me ρ1=.ok (.int (m.2.getD k 0-m.1.getD k 0))),k4 N mg yes me ((List.range n).map fun k=>W.tup [.int (m.1.getD k 0),.int (m.2.getD k 0)]) ρ=.ok (lI ((List.range n).map fun k=>m.2.getD k 0-m.1.getD k 0)):=fun N mg me ρ h=>by
  rw [j7 (fun k=>.int (m.2.getD k 0-m.1.getD k 0)) _ _ ρ (by simpa using (by omega:n<=1000)) (fun k hk=>h k (by simpa using hk)),J4]
 rw [e]
 ·exists rp18
 ·intro k hk
  refine ⟨_,rfl,?_⟩
  exists rp18
theorem An (s:List Int):(List.range s.length).map (fun k=>s.getD k 0)=s:=by
 apply List.ext_getElem
 ·simp
 ·intro i h1 h2; simp [h2]
theorem nR {n:Nat} {s:List Int} {m:Mv} (h6:n<=6) (h:okN n m) (hs:s.length=n) (hc:x4 s m.1=true):dz [tI s,mW m]=.ok (tI ((List.range n).map fun k=>s.getD k 0+(m.2.getD k 0-m.1.getD k 0))):=by
 have k1:=jr (s:=s) (m:=m) (by rw [hs,h.1])
 rw [hc] at k1
 have k2:=eB h6 h
 have hz:=O6 (tI s) (tI ((List.range n).map fun k=>m.2.getD k 0-m.1.getD k 0)) _ _ rfl rfl
 rw [O4 (by simp [hs]),hs] at hz
 exists rpB,iY,k1,k2,hz
 have e:∀ N mg me ρ (h:∀ k,k<n->∃ ρ1,mg (.tup [.int (s.getD k 0),.int (((List.range n).map fun k=>m.2.getD k 0-m.1.getD k 0).getD k 0)]) (ρ++List.replicate (N-ρ.length) Sl.un)=some ρ1/\me ρ1=.ok (.int (s.getD k 0+(m.2.getD k 0-m.1.getD k 0)))),k4 N mg yes me ((List.range n).map fun k=>W.tup [.int (s.getD k 0),.int (((List.range n).map fun k=>m.2.getD k 0-m.1.getD k 0).getD k 0)]) ρ=.ok (lI ((List.range n).map fun k=>s.getD k 0+(m.2.getD k 0-m.1.getD k 0))):=fun N mg me ρ h=>by
  rw [j7 (fun k=>.int (s.getD k 0+(m.2.getD k 0-m.1.getD k 0))) _ _ ρ (by simpa using (by omega:n<=1000)) (fun k hk=>h k (by simpa using hk)),J4]
 rw [e]
 ·exists rp18
 ·intro k hk
  refine ⟨_,rfl,?_⟩
  exists rp18
  rw [k7 hk]
def C4 (s:List Int) (m:Mv):List Int:=(List.range s.length).map fun k=>s.getD k 0+(m.2.getD k 0-m.1.getD k 0)
theorem qK (s:List Int) (m:Mv):(C4 s m).length=s.length:=by simp [C4]
abbrev Ent:=List Int×Nat×Nat
abbrev eW (e:Ent):W:=.tup [tI e.1,.int (e.2.1:Int),.int (e.2.2:Int)]
abbrev r0 (b:List Int):W:=.tup [tI b,.non,.non]
abbrev i7 (b:List Int) (es:List Ent):List W:=r0 b::es.map eW
def stS (b:List Int) (es:List Ent):List (List Int):=b::es.map (·.1)
def cd (e:Ent):Nat:=e.2.1*8+e.2.2
def mvN (ms:List Mv) (k:Nat):Mv:=ms.getD k ([],[])
def sA (b:List Int) (es:List Ent) (a:Nat):List Int:=(stS b es).getD a []
theorem K8 (b:List Int) (es:List Ent):(stS b es).length=es.length+1:=by simp [stS]
theorem iE {b:List Int} {es:List Ent} {e:Ent} {a:Nat} (h:a<es.length+1):sA b (es ++ [e]) a=sA b es a:=by
 unfold sA stS
 rw [List.map_append,<- List.cons_append,List.getD_eq_getElem?_getD,List.getD_eq_getElem?_getD,List.getElem?_append_left (by simpa using h)]
theorem bT {b:List Int} {es:List Ent} {a:Nat} (h:a<es.length+1):sA b es a∈stS b es:=by
 unfold sA
 rw [List.getD_eq_getElem?_getD,List.getElem?_eq_getElem (by rw [K8]; exact h)]
 exact List.getElem_mem _
def abN (b:List Int) (ms:List Mv) (es:List Ent) (a k:Nat):Bool:=x4 (sA b es a) (mvN ms k).1
def bhN (b:List Int) (ms:List Mv) (es:List Ent) (a k:Nat):List Int:=C4 (sA b es a) (mvN ms k)
structure FlK (b:List Int) (ms:List Mv) (es:List Ent) (A:Nat) (T:List Nat):Prop where
 len:∀ e∈es,e.1.length=b.length
 k8:∀ e∈es,e.2.2<ms.length
 lt:∀ e∈es,e.2.1<A\/(e.2.1=A/\e.2.2∈T)
 inc:es.Pairwise fun x y=>cd x<cd y
 par:∀ (i:Nat) (e:Ent),es[i]?=some e->e.2.1<=i
 beh:∀ e∈es,abN b ms es e.2.1 e.2.2=true/\e.1=bhN b ms es e.2.1 e.2.2
 nod:(stS b es).Nodup
 cl:∀ t∈T,∀ k,k<t->abN b ms es A k=true->k∈T
 set:∀ a k,a<A\/(a=A/\k∈T)->k<ms.length->abN b ms es a k=true->(∃ e∈es,e.2=(a,k))\/bhN b ms es a k=b\/∃ e∈es,cd e<a*8+k/\e.1=bhN b ms es a k
theorem FlK.start (b:List Int) (ms:List Mv):FlK b ms [] 0 [] where
 len:=by simp
 k8:=by simp
 lt:=by simp
 inc:=List.Pairwise.nil
 par:=by simp
 beh:=by simp
 nod:=by simp [stS]
 cl:=by simp
 set:=fun a k h=>by simp at h
section
variable {b:List Int} {ms:List Mv} {es:List Ent} {A:Nat} {T:List Nat}
theorem FlK.below (h:FlK b ms es A T) (h8:ms.length<=8) {k:Nat} (hT:∀ t∈T,t<k):∀ e∈es,cd e<A*8+k:=fun e he=>by
 have:=h.k8 e he
 unfold cd
 rcases h.lt e he with q | ⟨q,q'⟩
 ·omega
 ·have:=hT _ q'; omega
theorem FlK.known (h:FlK b ms es A T) (h8:ms.length<=8) {k:Nat} (hT:∀ t∈T,t<k) (hcl:∀ j,j<k->abN b ms es A j=true->j∈T) (hin:bhN b ms es A k∈stS b es):FlK b ms es A (T ++ [k]) where
 len:=h.len
 k8:=h.k8
 lt:=fun e he=>by
  rcases h.lt e he with q | ⟨q,q'⟩
  ·exact .inl q
  ·exact .inr ⟨q,List.mem_append_left _ q'⟩
 inc:=h.inc
 par:=h.par
 beh:=h.beh
 nod:=h.nod
 cl:=fun t ht j hj hab=>by
  rcases List.mem_append.mp ht with q | q
  ·exact List.mem_append_left _ (h.cl t q j hj hab)
  ·rw [List.mem_singleton.mp q] at hj
   exact List.mem_append_left _ (hcl j hj hab)
 set:=fun a j hj hjm hab=>by
  rcases hj with q | ⟨q,q'⟩
  ·exact h.set a j (.inl q) hjm hab
  ·rcases List.mem_append.mp q' with q2 | q2
   ·exact h.set a j (.inr ⟨q,q2⟩) hjm hab
   ·have ek:=List.mem_singleton.mp q2
    subst q ek
    unfold stS at hin
    rcases List.mem_cons.mp hin with e | e
    ·exact .inr (.inl e)
    ·obtain ⟨x,hx,ex⟩:=List.mem_map.mp e
     exact .inr (.inr ⟨x,hx,h.below h8 hT x hx,ex⟩)
theorem FlK.snoc (h:FlK b ms es A T) (h8:ms.length<=8) (hA:A<es.length+1) {k:Nat} (hk:k<ms.length) (hT:∀ t∈T,t<k) (hcl:∀ j,j<k->abN b ms es A j=true->j∈T) (hab:abN b ms es A k=true) (hln:(bhN b ms es A k).length=b.length) (hnin:bhN b ms es A k∉stS b es):FlK b ms (es ++ [(bhN b ms es A k,A,k)]) A (T ++ [k]):=by
 have hS:∀ a j,a<es.length+1->abN b ms (es ++ [(bhN b ms es A k,A,k)]) a j=abN b ms es a j/\bhN b ms (es ++ [(bhN b ms es A k,A,k)]) a j=bhN b ms es a j:=fun a j ha=>by
  unfold abN bhN
  rw [iE ha]
  exact ⟨rfl,rfl⟩
 have hpar:∀ e∈es,e.2.1<es.length+1:=fun e he=>by
  obtain ⟨i,hi,ei⟩:=List.mem_iff_getElem.mp he
  have:=h.par i e (by rw [List.getElem?_eq_getElem hi,ei])
  omega
 refine ⟨fun e he=>?_,fun e he=>?_,fun e he=>?_,?_,fun i e he=>?_,fun e he=>?_,?_,fun t ht j hj hab'=>?_,fun a j hj hjm hab'=>?_⟩
 ·rcases List.mem_append.mp he with q | q
  ·exact h.len e q
  ·rw [List.mem_singleton.mp q]; exact hln
 ·rcases List.mem_append.mp he with q | q
  ·exact h.k8 e q
  ·rw [List.mem_singleton.mp q]; exact hk
 ·rcases List.mem_append.mp he with q | q
  ·rcases h.lt e q with q1 | ⟨q1,q2⟩
   ·exact .inl q1
   ·exact .inr ⟨q1,List.mem_append_left _ q2⟩
  ·rw [List.mem_singleton.mp q]; exact .inr ⟨rfl,by simp⟩
 ·refine List.pairwise_append.mpr ⟨h.inc,List.pairwise_singleton _ _,fun x hx y hy=>?_⟩
  rw [List.mem_singleton.mp hy]
  exact h.below h8 hT x hx
 ·by_cases hi:i<es.length
  ·rw [List.getElem?_append_left hi] at he
   exact h.par i e he
  ·have hi':=(List.getElem?_eq_some_iff.mp he).1
   rw [List.length_append,List.length_singleton] at hi'
   have:i=es.length:=by omega
   subst this
   rw [List.getElem?_append_right (Nat.le_refl _),Nat.sub_self] at he
   cases he
   show A<=es.length
   omega
 ·rcases List.mem_append.mp he with q | q
  ·rw [(hS _ _ (hpar e q)).1,(hS _ _ (hpar e q)).2]; exact h.beh e q
  ·rw [List.mem_singleton.mp q]
   rw [(hS A k hA).1,(hS A k hA).2]
   exact ⟨hab,rfl⟩
 ·unfold stS
  rw [List.map_append,<- List.cons_append]
  refine List.nodup_append.mpr ⟨h.nod,by simp,fun x hx y hy=>?_⟩
  rw [List.map_singleton,List.mem_singleton] at hy
  subst hy
  intro e
  have e:x=bhN b ms es A k:=e
  rw [e] at hx
  exact hnin hx
 ·rw [(hS A j hA).1] at hab'
  rcases List.mem_append.mp ht with q | q
  ·exact List.mem_append_left _ (h.cl t q j hj hab')
  ·rw [List.mem_singleton.mp q] at hj
   exact List.mem_append_left _ (hcl j hj hab')
 ·have ha:a<es.length+1:=by
   rcases hj with q | ⟨q,_⟩
   ·omega
   ·omega
  rw [(hS a j ha).1] at hab'
  rw [(hS a j ha).2]
  have old:(a<A\/(a=A/\j∈T))->(∃ e∈es ++ [(bhN b ms es A k,A,k)],e.2=(a,j))\/bhN b ms es a j=b\/∃ e∈es ++ [(bhN b ms es A k,A,k)],cd e<a*8+j/\e.1=bhN b ms es a j:=fun hj=>by
   rcases h.set a j hj hjm hab' with ⟨e,he,q⟩ | q | ⟨e,he,q⟩
   ·exact .inl ⟨e,List.mem_append_left _ he,q⟩
   ·exact .inr (.inl q)
   ·exact .inr (.inr ⟨e,List.mem_append_left _ he,q⟩)
  rcases hj with q | ⟨q,q'⟩
  ·exact old (.inl q)
  ·rcases List.mem_append.mp q' with q2 | q2
   ·exact old (.inr ⟨q,q2⟩)
   ·have ek:=List.mem_singleton.mp q2
    subst q ek
    exact .inl ⟨_,List.mem_append_right _ (List.mem_singleton_self _),rfl⟩
theorem FlK.next (h:FlK b ms es A T) (hT:∀ k,k<ms.length->abN b ms es A k=true->k∈T):FlK b ms es (A+1) [] where
 len:=h.len
 k8:=h.k8
 lt:=fun e he=>by
  rcases h.lt e he with q | ⟨q,q'⟩
  ·exact .inl (by omega)
  ·exact .inl (by omega)
 inc:=h.inc
 par:=h.par
 beh:=h.beh
 nod:=h.nod
 cl:=by simp
 set:=fun a k hj hk hab=>by
  rcases hj with q | ⟨_,q⟩
  ·by_cases e:a=A
   ·subst e; exact h.set a k (.inr ⟨rfl,hT k hk hab⟩) hk hab
   ·exact h.set a k (.inl (by omega)) hk hab
  ·simp at q
end
def fsN (ms:List Mv) (s:List Int):List Nat:=(List.range ms.length).filter fun k=>x4 s (mvN ms k).1
theorem nj (ms:List Mv) (s:List Int):(fsN ms s).Pairwise (·<·):=List.Pairwise.filter _ List.pairwise_lt_range
theorem fs_mem {ms:List Mv} {s:List Int} {k:Nat}:k∈fsN ms s↔k<ms.length/\x4 s (mvN ms k).1=true:=by
 unfold fsN
 rw [List.mem_filter,List.mem_range]
theorem sh {l:List Nat} (h:l.Pairwise (·<·)) {i:Nat} (hi:i<l.length):∀ t∈l.take i,t<l[i]:=fun t ht=>by
 obtain ⟨j,hj,e⟩:=List.mem_iff_getElem.mp ht
 rw [List.length_take] at hj
 rw [List.getElem_take] at e
 subst e
 exact List.pairwise_iff_getElem.mp h j i (by omega) hi (by omega)
theorem uo {l:List Nat} (h:l.Pairwise (·<·)) {i:Nat} (hi:i<l.length) {t:Nat} (ht:t∈l) (hlt:t<l[i]):t∈l.take i:=by
 obtain ⟨j,hj,e⟩:=List.mem_iff_getElem.mp ht
 subst e
 have hji:j<i:=by
  rcases Nat.lt_trichotomy j i with q | q | q
  ·exact q
  ·subst q; omega
  ·have:=List.pairwise_iff_getElem.mp h i j hi hj q; omega
 exact List.mem_iff_getElem.mpr ⟨j,by rw [List.length_take]; omega,by rw [List.getElem_take]⟩
theorem uU (ms:List Mv):((ms.map mW).mapIdx fun i x=>W.tup [.int (i:Int),x])=(List.range ms.length).map fun (k:Nat)=>W.tup [.int (k:Int),mW (mvN ms k)]:=by
 apply List.ext_getElem
 ·simp
 ·intro i h1 h2
  have hi:i<ms.length:=by simpa using h1
  simp [mvN,List.getD_eq_getElem?_getD,List.getElem?_eq_getElem hi]
theorem vk {b s:List Int} {ms:List Mv} (h6:s.length<=6) (hm:∀ m∈ms,okN s.length m) (hl:ms.length<=8):J8 [.tup [tI b,tM_ ms],tI s]=.ok (.lst ((fsN ms s).map fun (k:Nat)=>W.tup [tI (C4 s (mvN ms k)),.int (k:Int)])):=by
 have a1:L2.atI [tI b,tM_ ms] 1=some (tM_ ms):=rfl
 have he:K2 [tM_ ms]=.ok ((List.range ms.length).map fun (k:Nat)=>W.tup [.int (k:Int),mW (mvN ms k)]):=by rw [<- uU]; rfl
 exists rpB,R9,a1,he
 have e:∀ N mg mc me ρ,(∀ k,k<ms.length->∃ ρ1,mg (.tup [.int (k:Int),mW (mvN ms k)]) (ρ++List.replicate (N-ρ.length) Sl.un)=some ρ1/\mc ρ1=.ok (x4 s (mvN ms k).1)/\(x4 s (mvN ms k).1=true->me ρ1=.ok (.tup [tI (C4 s (mvN ms k)),.int (k:Int)]))) ->
   k4 N mg mc me ((List.range ms.length).map fun (k:Nat)=>W.tup [.int (k:Int),mW (mvN ms k)]) ρ=.ok (.lst ((fsN ms s).map fun (k:Nat)=>W.tup [tI (C4 s (mvN ms k)),.int (k:Int)])):=fun N mg mc me ρ h=>
  ak (N':=N) (mg:=mg) (mc:=mc) (me:=me) (fun k=>W.tup [tI (C4 s (mvN ms k)),.int (k:Int)]) (fun k=>W.tup [.int (k:Int),mW (mvN ms k)]) (fun k=>x4 s (mvN ms k).1) (List.range ms.length) ρ (by rw [List.length_range]; omega) fun k hk=>h k (List.mem_range.mp hk)
 rw [e]
 ·exists rp18
 ·intro k hk
  have hmk:okN s.length (mvN ms k):=getM hm hk
  generalize mvN ms k=m at hmk
  have k1:=jr (s:=s) (m:=m) (by rw [hmk.1])
  refine ⟨_,rfl,?_,fun hc=>?_⟩
  ·exists k1
  ·have k2:=nR h6 hmk rfl hc
   have k3:(List.range s.length).map (fun k=>s.getD k 0+(m.2.getD k 0-m.1.getD k 0))=C4 s m:=rfl
   rw [k3] at k2
   exists k2,Q7 (U4 (C4 s m))
def BU (b:List Int) (ms:List Mv) (most:Nat) (es:List Ent) (wh:Bool):Prop:=
 es.length+1<=most/\((wh=true/\FlK b ms es (es.length+1) []) \/
  (wh=false/\es.length+1=most/\∃ A T k,FlK b ms es A T/\A<es.length+1/\k<ms.length/\(∀ t∈T,t<k)/\abN b ms es A k=true/\bhN b ms es A k∉stS b es))
theorem qN {ks:List (List Int)} {k:List Int} (h:k∉ks):hJ ks k=ks ++ [k]:=if_neg h
theorem aH {b:List Int} {es:List Ent} {a:Nat} (h:a<es.length+1):∃ x y:W,L2.atI (i7 b es) (a:Int)=some (.tup [tI (sA b es a),x,y]):=by
 cases a with
 | zero=>exact ⟨.non,.non,D8 (k:=0) rfl⟩
 | succ a=>
  have ha:a<es.length:=by omega
  have e1:(i7 b es)[a+1]?=some (eW es[a]):=by simp [ha]
  have e2:sA b es (a+1)=es[a].1:=by
   unfold sA stS
   simp [List.getD_eq_getElem?_getD,ha]
  rw [e2]
  exact ⟨_,_,D8 (k:=a+1) e1⟩
theorem qm {b:List Int} {ms:List Mv} {most:Nat} (h6:b.length<=6) (hm:∀ m∈ms,okN b.length m) (hl:ms.length<=8) (h1:1<=most) (h30:most<=100):Ok (V2 [.tup [tI b,tM_ ms],.int (most:Int)]) fun w=>∃ (es:List Ent) (wh:Bool),w=.tup [.lst (i7 b es),.bl wh]/\BU b ms most es wh:=by
 have a0:L2.atI [tI b,tM_ ms] 0=some (tI b):=rfl
 have nw:=iU
 exists rpB,iX,a0,Q7 (U4 b),pJ,iU
 refine w9 (P4 ?_)
 refine W3 (fun m ρ=>∃ (es:List Ent) (at_:Nat) (a5 a6 a7:Sl),ρ = [.par (.tup [tI b,tM_ ms]),.par (.int (most:Int)),.own (i7 b es),.dic (stS b es),.val (.int (at_:Int)),a5,a6,a7]/\X0 a5=false/\X0 a6=false/\X0 a7=false/\FlK b ms es at_ []/\at_<=es.length+1/\es.length+1<=most/\m+at_=102) ?_ 102 _ ⟨[],0,.un,.un,.un,rfl,rfl,rfl,rfl,FlK.start b ms,by omega,by simpa using h1,rfl⟩
 rintro m ρ ⟨es,at_,a5,a6,a7,rfl,d5,d6,d7,hK,hat,hmo,hmm⟩
 by_cases hlt:at_<es.length+1
 ·refine ⟨true,?_,?_⟩
  ·exists rp18
   rw [show decide ((at_:Int)<((es.length+1:Nat):Int))=true from decide_eq_true (by omega)]
  rw [if_pos rfl]
  obtain ⟨x,y,er⟩:=aH (b:=b) (es:=es) hlt
  have hsl:(sA b es at_).length=b.length:=by
   have:=bT (b:=b) (es:=es) hlt
   unfold stS at this
   rcases List.mem_cons.mp this with e | e
   ·rw [e]
   ·obtain ⟨z,hz,ez⟩:=List.mem_map.mp e
    rw [<- ez]; exact hK.len z hz
  have kb:=vk (b:=b) (s:=sA b es at_) (by omega) (by rw [hsl]; exact hm) hl
  have a0':L2.atI [tI (sA b es at_),x,y] 0=some (tI (sA b es at_)):=rfl
  exists er,a0',kb
  generalize hs:sA b es at_=s at *
  have hfl:(fsN ms s).length<=8:=by
   have:=List.length_filter_le (fun k=>x4 s (mvN ms k).1) (List.range ms.length)
   rw [List.length_range] at this
   unfold fsN; omega
  refine pk (fun i ρ=>∃ (es':List Ent) (a6 a7:Sl),ρ = [.par (.tup [tI b,tM_ ms]),.par (.int (most:Int)),.own (i7 b es'),.dic (stS b es'),.val (.int (at_:Int)),.val (tI s),a6,a7]/\X0 a6=false/\X0 a7=false/\FlK b ms es' at_ ((fsN ms s).take i)/\at_<es'.length+1/\es'.length+1<=most/\sA b es' at_=s) ⟨es,a6,a7,rfl,d6,d7,hK,hlt,hmo,hs⟩ ?_ ?_
  ·rintro i u ρ hu ⟨es',a6,a7,rfl,d6,d7,hK',hlt',hmo',hs'⟩
   rw [List.getElem?_map] at hu
   cases hq:(fsN ms s)[i]? with
   | none=>rw [hq] at hu; cases hu
   | some k=>
    rw [hq] at hu
    cases hu
    obtain ⟨hi,hki⟩:=List.getElem?_eq_some_iff.mp hq
    have hkm:=fs_mem.mp (List.mem_of_getElem? hq)
    have htk:(fsN ms s).take (i+1)=(fsN ms s).take i ++ [k]:=by rw [List.take_succ,hq]; rfl
    have hT:∀ t∈(fsN ms s).take i,t<k:=fun t ht=>by rw [<- hki]; exact sh (nj ms s) hi t ht
    have hcl:∀ j,j<k->abN b ms es' at_ j=true->j∈(fsN ms s).take i:=fun j hj hab=>by
     unfold abN at hab
     rw [hs'] at hab
     exact uo (nj ms s) hi (fs_mem.mpr ⟨by omega,hab⟩) (by rw [hki]; exact hj)
    have hab:abN b ms es' at_ k=true:=by unfold abN; rw [hs']; exact hkm.2
    have hbh:bhN b ms es' at_ k=C4 s (mvN ms k):=by unfold bhN; rw [hs']
    have hbl:(C4 s (mvN ms k)).length=b.length:=by rw [qK]; exact hsl
    have hput:=bL (stS b es') (.bl true) (C4 s (mvN ms k)) 3 [.par (.tup [tI b,tM_ ms]),.par (.int (most:Int)),.own (i7 b es'),.dic (stS b es'),.val (.int (at_:Int)),.val (tI s),.par (tI (C4 s (mvN ms k))),.par (.int (k:Int))] rfl (by rw [K8]; omega)
    dsimp only
    generalize hB:C4 s (mvN ms k)=B at *
    refine ⟨_,rfl,?_⟩
    exists rp18
    refine iK (fun h=>?_) (fun h=>?_)
    ·have h:=of_decide_eq_true h
     exists rp18
     exact ⟨es',_,_,rfl,rfl,rfl,by rw [htk]; exact hK'.known hl hT hcl (by rw [hbh]; exact h),hlt',hmo',hs'⟩
    ·have h:=of_decide_eq_false h
     rw [qN h] at hput
     exists rp18
     refine iK (fun h2=>?_) (fun h2=>?_)
     ·have h2:=of_decide_eq_true h2
      exists rp18
      exact ⟨es',false,rfl,hmo',.inr ⟨rfl,by omega,at_,_,k,hK',hlt',hkm.1,hT,hab,by rw [hbh]; exact h⟩⟩
     ·have h2:=of_decide_eq_false h2
      exists hput,Q7 (U4 B)
      refine ⟨es' ++ [(B,at_,k)],.par (tI B),.par (.int (k:Int)),?_,rfl,rfl,?_,?_,?_,?_⟩
      ·simp [i7,stS]
      ·rw [htk,<- hbh]
       exact hK'.snoc hl hlt' hkm.1 hT hcl hab (by rw [hbh]; exact hbl) (by rw [hbh]; exact h)
      ·rw [List.length_append]; omega
      ·rw [List.length_append,List.length_singleton]; omega
      ·rw [iE hlt']; exact hs'
  ·rintro ρ ⟨es',a6,a7,rfl,d6,d7,hK',hlt',hmo',hs'⟩
   rw [List.length_map,List.take_length] at hK'
   exists rp18
   refine ⟨m-1,by omega,es',at_+1,_,_,_,rfl,rfl,d6,d7,hK'.next fun k hk hab=>fs_mem.mpr ⟨hk,?_⟩,by omega,hmo',by omega⟩
   unfold abN at hab
   rw [hs'] at hab
   exact hab
 ·refine ⟨false,?_,?_⟩
  ·exists rp18
   rw [show decide ((at_:Int)<((es.length+1:Nat):Int))=false from decide_eq_false (by omega)]
  ·rw [if_neg Bool.false_ne_true]
   have e:at_=es.length+1:=by omega
   subst e
   exists rp18
   exact ⟨es,true,rfl,hmo,.inl ⟨rfl,hK⟩⟩
def jF (b:List Int):Option Ent->W
 | none=>r0 b
 | some e=>eW e
def stO (b:List Int):Option Ent->List Int
 | none=>b
 | some e=>e.1
theorem ww (b:List Int) (es:List Ent):i7 b es=(none::es.map some).map (jF b):=by
 rw [List.map_cons,List.map_map]; rfl
theorem st_O (b:List Int) (es:List Ent):(none::es.map some).map (stO b)=stS b es:=by
 rw [List.map_cons,List.map_map]; rfl
inductive Pt (es:List Ent):Nat->List Int->List Int->Prop where
 | zero:Pt es 0 [0] []
 | succ {i:Nat} {e:Ent} {l r:List Int}:es[i]?=some e->Pt es e.2.1 l r->Pt es (i+1) (((i+1:Nat):Int)::l) (r ++ [(e.2.2:Int)])
theorem Pt.ex {es:List Ent} (hp:∀ (i:Nat) (e:Ent),es[i]?=some e->e.2.1<=i):∀ n,n<=es.length->∃ l r,Pt es n l r:=by
 intro n
 induction n using Nat.strongRecOn with
 | _ n ih=>
  intro hn
  cases n with
  | zero=>exact ⟨_,_,.zero⟩
  | succ i=>
   have hi:es[i]?=some es[i]:=List.getElem?_eq_getElem (by omega)
   have:=hp i _ hi
   obtain ⟨l,r,p⟩:=ih es[i].2.1 (by omega) (by omega)
   exact ⟨_,_,.succ hi p⟩
theorem Pt.len {es:List Ent} (hp:∀ (i:Nat) (e:Ent),es[i]?=some e->e.2.1<=i):∀ {n:Nat} {l r:List Int},Pt es n l r->l.length=r.length+1/\r.length<=n
 | _,_,_,.zero=>⟨rfl,Nat.le_refl _⟩
 | _,_,_,.succ h p=>by
  have:=Pt.len hp p
  have:=hp _ _ h
  rw [List.length_cons,List.length_append,List.length_singleton]
  omega
def ru (ms:List Mv) (b r:List Int):List Int:=r.foldl (fun s k=>C4 s (mvN ms k.toNat)) b
theorem iF {b:List Int} {es:List Ent} {i:Nat} {e:Ent} (h:es[i]?=some e):L2.atI (i7 b es) ((i+1:Nat):Int)=some (eW e):=D8 (k:=i+1) (by show (es.map eW)[i]?=_; rw [List.getElem?_map,h]; rfl)
theorem iu {b:List Int} {es:List Ent} {n:Nat} {l r:List Int} (hp:∀ (i:Nat) (e:Ent),es[i]?=some e->e.2.1<=i) (hl:es.length<=100) (hn:n<=es.length) (p:Pt es n l r):J7 [.lst (i7 b es),.int (n:Int)]=.ok (lI l):=by
 have fin:Ok (J7 [.lst (i7 b es),.int (n:Int)]) fun v=>v=lI l:=by
  have hll:=(Pt.len hp p).1
  have hlr:=(Pt.len hp p).2
  exists rpB,cz
  refine w9 (P4 ?_)
  refine W3 (fun m ρ=>∃ (xs l':List Int) (w:W) (a3:Sl),ρ = [.par (.lst (i7 b es)),.par (.int (n:Int)),.own (xs.map W.int),a3]/\(a3=.val w\/a3=.par w)/\xs++l'=l/\((w=.non/\l' = [])\/∃ (n':Nat) (r':List Int),w=.int (n':Int)/\Pt es n' l' r'/\n'<m)) ?_ (n+1) _ ⟨[],l,.int (n:Int),.val (.int (n:Int)),rfl,.inl rfl,rfl,.inr ⟨n,r,rfl,p,Nat.lt_succ_self n⟩⟩
  rintro m ρ ⟨xs,l',w,a3,rfl,ha,hx,hc⟩
  rcases hc with ⟨rfl,rfl⟩ | ⟨n',r',rfl,p',hm⟩
  ·refine ⟨false,?_,?_⟩
   ·rcases ha with rfl | rfl
    ·exists rp18
    ·exists rp18
   ·rw [if_neg Bool.false_ne_true]
    rw [List.append_nil] at hx
    subst hx
    exists rp18
  ·refine ⟨true,?_,?_⟩
   ·rcases ha with rfl | rfl
    ·exists rp18
    ·exists rp18
   ·rw [if_pos rfl]
    have hxl:xs.length<=l.length:=by rw [<- hx,List.length_append]; omega
    cases p' with
    | zero=>
     have r00:L2.atI (i7 b es) (((0:Nat)):Int)=some (r0 b):=D8 (k:=0) rfl
     have r01:L2.atI (i7 b es) 0=some (r0 b):=r00
     have b1:L2.atI [tI b,W.non,W.non] 1=some W.non:=rfl
     rcases ha with rfl | rfl
     ·exists r00,r01,b1
      exact ⟨0,by omega,xs ++ [0],[],.non,_,by rw [List.map_append],.inr rfl,by simpa using hx,.inl ⟨rfl,rfl⟩⟩
     ·exists r00,r01,b1
      exact ⟨0,by omega,xs ++ [0],[],.non,_,by rw [List.map_append],.inr rfl,by simpa using hx,.inl ⟨rfl,rfl⟩⟩
    | @succ i e l2 r2 h p2=>
     have r1:=iF (b:=b) h
     have b1:L2.atI [tI e.1,.int (e.2.1:Int),.int (e.2.2:Int)] 1=some (.int (e.2.1:Int)):=rfl
     have hpi:=hp i e h
     have hx2:(xs ++ [((i+1:Nat):Int)])++l2=l:=by rw [<- hx]; simp
     rcases ha with rfl | rfl
     ·exists r1,b1
      exact ⟨i+1,by omega,xs ++ [((i+1:Nat):Int)],l2,.int (e.2.1:Int),_,by rw [List.map_append],.inr rfl,hx2,.inr ⟨e.2.1,r2,rfl,p2,by omega⟩⟩
     ·exists r1,b1
      exact ⟨i+1,by omega,xs ++ [((i+1:Nat):Int)],l2,.int (e.2.1:Int),_,by rw [List.map_append],.inr rfl,hx2,.inr ⟨e.2.1,r2,rfl,p2,by omega⟩⟩
 obtain ⟨v,e,rfl⟩:=fin
 exact e
def t7:Nat->(Nat->Int)->Int
 | 0,_=>0
 | n+1,f=>f n-t7 n f
theorem X7 {f g:Nat->Int}:∀ {n:Nat},(∀ k,k<n->f k=g k)->t7 n f=t7 n g
 | 0,_=>rfl
 | n+1,h=>by
  show f n-t7 n f=g n-t7 n g
  rw [h n (Nat.lt_succ_self n),X7 fun k hk=>h k (Nat.lt_succ_of_lt hk)]
theorem gZ (a b:Int) (f g:Nat->Int):∀ n:Nat,t7 n (fun k=>a*f k+b*g k)=a*t7 n f+b*t7 n g
 | 0=>by simp [t7]
 | n+1=>by
  show (a*f n+b*g n)-t7 n (fun k=>a*f k+b*g k)=a*(f n-t7 n f)+b*(g n-t7 n g)
  rw [gZ a b f g n,Int.mul_sub,Int.mul_sub]
  omega
theorem aA {f:Nat->Int}:∀ {n:Nat},(∀ k,k<n->f k=0)->t7 n f=0
 | 0,_=>rfl
 | n+1,h=>by
  show f n-t7 n f=0
  rw [h n (Nat.lt_succ_self n),aA fun k hk=>h k (Nat.lt_succ_of_lt hk)]; rfl
theorem gY {f:Nat->Int} {i:Nat}:∀ {n:Nat},i+1<n->(∀ k,k<n->k≠i->k≠i+1->f k=0)->f i=f (i+1)->t7 n f=0
 | 0,h,_,_=>absurd h (Nat.not_lt_zero _)
 | n+1,h,hz,he=>by
  show f n-t7 n f=0
  by_cases e:n=i+1
  ·subst e
   show f (i+1)-(f i-t7 i f)=0
   rw [aA fun k hk=>hz k (by omega) (by omega) (by omega),he]
   omega
  ·rw [hz n (Nat.lt_succ_self n) (by omega) e,gY (n:=n) (by omega) (fun k hk=>hz k (by omega)) he]; rfl
def skp (k i:Nat):Nat:=if i<k then i else i+1
def det:Nat->(Nat->Nat->Int)->Int
 | 0,_=>1
 | n+1,v=>t7 (n+1) fun k=>v k n*det n fun i=>v (skp k i)
theorem lm {k i n:Nat} (h:i<n):skp k i<n+1:=by unfold skp; split <;> omega
theorem vU (k i:Nat):skp k i≠k:=by unfold skp; split <;> omega
theorem G0:∀ {n:Nat} {v w:Nat->Nat->Int},(∀ i,i<n->∀ p,p<n->v i p=w i p)->det n v=det n w
 | 0,_,_,_=>rfl
 | n+1,v,w,h=>X7 fun k hk=>by
  rw [h k hk n (Nat.lt_succ_self n),G0 (n:=n) fun i hi p hp=>h (skp k i) (lm hi) p (Nat.lt_succ_of_lt hp)]
def upv (v:Nat->Nat->Int) (i:Nat) (x:Nat->Int):Nat->Nat->Int:=fun j=>if j=i then x else v j
theorem M3 (v:Nat->Nat->Int) (i:Nat) (x:Nat->Int):upv v i x i=x:=if_pos rfl
theorem E6 {v:Nat->Nat->Int} {i j:Nat} {x:Nat->Int} (h:j≠i):upv v i x j=v j:=if_neg h
theorem cT {v:Nat->Nat->Int} {i k:Nat} {x:Nat->Int} (h:k≠i):(fun j=>upv v i x (skp k j))=upv (fun j=>v (skp k j)) (if i<k then i else i-1) x:=by
 funext j
 unfold upv
 by_cases e:skp k j=i
 ·rw [if_pos e]
  have:j=if i<k then i else i-1:=by
   unfold skp at e
   split at e <;> split <;> omega
  rw [if_pos this]
 ·rw [if_neg e]
  have:j≠if i<k then i else i-1:=by
   unfold skp at e
   intro q
   apply e
   split at q <;> split <;> omega
  rw [if_neg this]
theorem O8 {v:Nat->Nat->Int} {i:Nat} {x:Nat->Int}:(fun j=>upv v i x (skp i j))=fun j=>v (skp i j):=by
 funext j
 exact E6 (vU i j)
theorem F9 (a b:Int) (x y:Nat->Int):∀ (n:Nat) (v:Nat->Nat->Int) (i:Nat),i<n->det n (upv v i fun p=>a*x p+b*y p)=a*det n (upv v i x)+b*det n (upv v i y)
 | 0,_,_,h=>absurd h (Nat.not_lt_zero _)
 | n+1,v,i,h=>by
  show t7 (n+1) _=a*t7 (n+1) _+b*t7 (n+1) _
  rw [<- gZ]
  refine X7 fun k hk=>?_
  by_cases e:k=i
  ·subst e
   rw [M3,M3,M3,O8,O8,O8,Int.add_mul,Int.mul_assoc,Int.mul_assoc]
  ·rw [E6 e,E6 e,E6 e,cT e,cT e,cT e,F9 a b x y n _ _ (by split <;> omega),Int.mul_add,<- Int.mul_assoc,<- Int.mul_assoc,<- Int.mul_assoc,<- Int.mul_assoc,Int.mul_comm (v k n) a,Int.mul_comm (v k n) b]
theorem aR:∀ (n:Nat) (v:Nat->Nat->Int) (i:Nat),i+1<n->v i=v (i+1)->det n v=0
 | 0,_,_,h,_=>absurd h (Nat.not_lt_zero _)
 | n+1,v,i,h,e=>by
  refine gY (i:=i) h (fun k hk h1 h2=>?_) ?_
  ·have:det n (fun j=>v (skp k j))=0:=by
    by_cases q:k<i
    ·refine aR n _ (i-1) (by omega) ?_
     show v (skp k (i-1))=v (skp k (i-1+1))
     unfold skp
     rw [if_neg (by omega),if_neg (by omega),show i-1+1=i by omega]
     exact e
    ·refine aR n _ i (by omega) ?_
     show v (skp k i)=v (skp k (i+1))
     unfold skp
     rw [if_pos (by omega),if_pos (by omega)]
     exact e
   rw [this,Int.mul_zero]
  ·have:(fun j=>v (skp i j))=fun j=>v (skp (i+1) j):=by
    funext j
    unfold skp
    by_cases q:j<i
    ·rw [if_pos q,if_pos (by omega)]
    ·by_cases q2:j=i
     ·subst q2
      rw [if_neg (by omega),if_pos (by omega)]; exact e.symm
     ·rw [if_neg q,if_neg (by omega)]
   show v i n*det n (fun j=>v (skp i j))=v (i+1) n*det n (fun j=>v (skp (i+1) j))
   rw [this,e]
theorem C9 {v:Nat->Nat->Int} {i j:Nat} {x y:Nat->Int} (h:i≠j):upv (upv v i x) j y=upv (upv v j y) i x:=by
 funext k
 unfold upv
 by_cases q:k=j
 ·rw [if_pos q,if_neg (by omega),if_pos q]
 ·rw [if_neg q]
  by_cases q2:k=i
  ·rw [if_pos q2,if_pos q2]
  ·rw [if_neg q2,if_neg q2,if_neg q]
theorem K7 (v:Nat->Nat->Int) (i:Nat):upv v i (v i)=v:=by
 funext k
 unfold upv
 by_cases q:k=i
 ·rw [if_pos q,q]
 ·rw [if_neg q]
theorem sf (v:Nat->Nat->Int) (i:Nat) (x y:Nat->Int):upv (upv v i x) i y=upv v i y:=by
 funext k
 unfold upv
 by_cases q:k=i
 ·rw [if_pos q,if_pos q]
 ·rw [if_neg q,if_neg q,if_neg q]
theorem gF {n i j:Nat} (hi:i<n) (hj:j<n) (hij:i≠j) (h0:∀ (v:Nat->Nat->Int) (x:Nat->Int),det n (upv (upv v i x) j x)=0) (v:Nat->Nat->Int) (x y:Nat->Int):det n (upv (upv v i x) j y) =-det n (upv (upv v i y) j x):=by
 have h:=h0 v fun p=>1*x p+1*y p
 rw [F9 1 1 x y n _ j hj,C9 hij,F9 1 1 x y n _ i hi,C9 (i:=i) (j:=j) hij (x:=fun p=>1*x p+1*y p) (y:=y),F9 1 1 x y n _ i hi] at h
 have h1:=h0 v x
 have h2:=h0 v y
 rw [C9 hij] at h1 h2
 rw [C9 hij (x:=x) (y:=y),C9 hij (x:=y) (y:=x)]
 omega
theorem dC {n:Nat}:∀ (d i:Nat),i+d+1<n->∀ (v:Nat->Nat->Int) (x:Nat->Int),det n (upv (upv v i x) (i+d+1) x)=0
 | 0,i,h,v,x=>aR n _ i h (by rw [M3,E6 (by omega),M3])
 | d+1,i,h,v,x=>by
  have key:=gF (n:=n) (i:=i+d+1) (j:=i+d+1+1) (by omega) h (by omega) (fun v x=>aR n _ (i+d+1) h (by rw [M3,E6 (by omega),M3])) (upv v i x) (v (i+d+1)) x
  have e1:upv (upv (upv v i x) (i+d+1) (v (i+d+1))) (i+d+1+1) x=upv (upv v i x) (i+(d+1)+1) x:=by
   have:upv (upv v i x) (i+d+1) (v (i+d+1))=upv v i x:=by
    have h2:=K7 (upv v i x) (i+d+1)
    rwa [E6 (show i+d+1≠i by omega)] at h2
   rw [this,show i+(d+1)+1=i+d+1+1 by omega]
  rw [e1] at key
  rw [key,C9 (i:=i+d+1) (j:=i+d+1+1) (by omega),C9 (i:=i) (j:=i+d+1+1) (by omega),dC d i (by omega)]
  rfl
theorem jh {n i j:Nat} (hi:i<n) (hj:j<n) (hij:i≠j) (v:Nat->Nat->Int) (x:Nat->Int):det n (upv (upv v i x) j x)=0:=by
 rcases Nat.lt_or_gt_of_ne hij with q | q
 ·have:=dC (n:=n) (j-i-1) i (by omega) v x
  rwa [show i+(j-i-1)+1=j by omega] at this
 ·have:=dC (n:=n) (i-j-1) j (by omega) v x
  rw [show j+(i-j-1)+1=i by omega] at this
  rw [C9 hij]; exact this
theorem dA {n i k:Nat} (hi:i<n) (hk:k<n) (hik:k≠i) (v:Nat->Nat->Int):det n (upv v i (v k))=0:=by
 have:=jh hk hi hik v (v k)
 rwa [K7] at this
theorem qA {n i r:Nat} (hi:i<n) (hr:r<n) (hir:r≠i) (v:Nat->Nat->Int) (c:Nat->Int):det n (upv (upv v r c) i (v r)) =-det n (upv v i c):=by
 rw [gF hr hi hir (jh hr hi hir) v c (v r),K7]
theorem cO {f:Nat->Int} {B:Int}:∀ {n:Nat},(∀ k,k<n->-B<=f k/\f k<=B)->-((n:Int)*B)<=t7 n f/\t7 n f<=(n:Int)*B
 | 0,_=>by simp [t7]
 | n+1,h=>by
  have h1:=h n (Nat.lt_succ_self n)
  have h2:=cO (n:=n) fun k hk=>h k (Nat.lt_succ_of_lt hk)
  show -(((n+1:Nat):Int)*B)<=f n-t7 n f/\f n-t7 n f<=((n+1:Nat):Int)*B
  have e:((n+1:Nat):Int)*B=(n:Int)*B+B:=by
   rw [show ((n+1:Nat):Int)=(n:Int)+1 by omega,Int.add_mul,Int.one_mul]
  rw [e]
  omega
theorem gE:∀ n:Nat,det n (fun i p=>if i=p then 1 else 0)=1
 | 0=>rfl
 | n+1=>by
  show (if n=n then (1:Int) else 0)*det n (fun i p=>if skp n i=p then 1 else 0)-t7 n (fun k=>(if k=n then (1:Int) else 0)*det n (fun i p=>if skp k i=p then 1 else 0))=1
  have h1:det n (fun i p=>if skp n i=p then (1:Int) else 0)=1:=by
   refine (G0 fun i hi p hp=>?_).trans (gE n)
   unfold skp
   rw [if_pos hi]
  rw [if_pos rfl,h1,aA]
  ·rfl
  ·intro k hk
   rw [if_neg (by omega),Int.zero_mul]
def c0:Nat->(Nat->Int)->Int
 | 0,_=>0
 | n+1,f=>c0 n f+f n
theorem g5 {f g:Nat->Int}:∀ {n:Nat},(∀ k,k<n->f k=g k)->c0 n f=c0 n g
 | 0,_=>rfl
 | n+1,h=>by
  show c0 n f+f n=c0 n g+g n
  rw [h n (Nat.lt_succ_self n),g5 fun k hk=>h k (Nat.lt_succ_of_lt hk)]
theorem k9 (a:Int) (f:Nat->Int):∀ n:Nat,c0 n (fun k=>a*f k)=a*c0 n f
 | 0=>by simp [c0]
 | n+1=>by
  show c0 n (fun k=>a*f k)+a*f n=a*(c0 n f+f n)
  rw [k9 a f n,Int.mul_add]
theorem A9 (f g:Nat->Int):∀ n:Nat,c0 n (fun k=>f k+g k)=c0 n f+c0 n g
 | 0=>rfl
 | n+1=>by
  show c0 n (fun k=>f k+g k)+(f n+g n)=c0 n f+f n+(c0 n g+g n)
  rw [A9 f g n]; omega
theorem x5 {f:Nat->Int}:∀ {n:Nat},(∀ k,k<n->f k=0)->c0 n f=0
 | 0,_=>rfl
 | n+1,h=>by
  show c0 n f+f n=0
  rw [h n (Nat.lt_succ_self n),x5 fun k hk=>h k (Nat.lt_succ_of_lt hk)]; rfl
theorem T8 {f g:Nat->Int} {r:Nat}:∀ {n:Nat},r<n->(∀ k,k<n->k≠r->f k=g k)->c0 n f=c0 n g+(f r-g r)
 | 0,h,_=>absurd h (Nat.not_lt_zero _)
 | n+1,h,e=>by
  show c0 n f+f n=c0 n g+g n+(f r-g r)
  by_cases q:r=n
  ·subst q
   rw [g5 fun k hk=>e k (by omega) (by omega)]; omega
  ·rw [T8 (n:=n) (by omega) fun k hk=>e k (by omega),e n (Nat.lt_succ_self n) (by omega)]; omega
theorem A8 {f:Nat->Int} {r n:Nat} (h:r<n) (e:∀ k,k<n->k≠r->f k=0):c0 n f=f r:=by
 rw [T8 (g:=fun _=>0) h e,x5 fun _ _=>rfl]; omega
theorem R1 (f:Nat->Nat->Int) (m:Nat):∀ n:Nat,c0 n (fun i=>c0 m fun j=>f i j)=c0 m fun j=>c0 n fun i=>f i j
 | 0=>(x5 fun _ _=>rfl).symm
 | n+1=>by
  show c0 n (fun i=>c0 m fun j=>f i j)+c0 m (fun j=>f n j)=c0 m fun j=>(c0 n fun i=>f i j)+f n j
  rw [R1 f m n,A9]
theorem S6 {f:Nat->Int}:∀ {n:Nat},(∀ k,k<n->f k<=0)->c0 n f<=0
 | 0,_=>Int.le_refl 0
 | n+1,h=>by
  have h1:=h n (Nat.lt_succ_self n)
  have h2:=S6 (n:=n) fun k hk=>h k (Nat.lt_succ_of_lt hk)
  show c0 n f+f n<=0
  omega
theorem ow {f:Nat->Int} {r n:Nat} (hr:r<n) (h:∀ k,k<n->f k<=0) (hn:f r<0):c0 n f<0:=by
 have h1:=T8 (f:=f) (g:=fun k=>if k=r then 0 else f k) hr fun k _ q=>by rw [if_neg q]
 have h2:c0 n (fun k=>if k=r then 0 else f k)<=0:=S6 fun k hk=>by
  show (if k=r then 0 else f k)<=0
  split
  ·exact Int.le_refl 0
  ·exact h k hk
 rw [h1]
 simp only [if_pos]
 omega
theorem aQ {m i:Nat} (hi:i<m) (v:Nat->Nat->Int) (a:Nat->Int) (x:Nat->Nat->Int):∀ n:Nat,det m (upv v i fun p=>c0 n fun k=>a k*x k p)=c0 n fun k=>a k*det m (upv v i (x k))
 | 0=>by
  show det m (upv v i fun _=>0)=0
  have:=F9 0 0 (fun _=>0) (fun _=>0) m v i hi
  simp only [Int.zero_mul,Int.add_zero] at this
  exact this
 | n+1=>by
  show det m (upv v i fun p=>(c0 n fun k=>a k*x k p)+a n*x n p)=(c0 n fun k=>a k*det m (upv v i (x k)))+a n*det m (upv v i (x n))
  rw [<- aQ hi v a x n]
  have:=F9 1 (a n) (fun p=>c0 n fun k=>a k*x k p) (x n) m v i hi
  simp only [Int.one_mul] at this
  exact this
structure Tab (m n:Nat) (A:Nat->Nat->Int) (c:Nat->Int) (h:Nat->Nat) (t:Nat->Nat->Int) (o:Nat->Int) (d:Int):Prop where
 dp:0<d
 hn:∀ i,i<m->h i<n
 dd:d=det m fun i=>A (h i)
 tt:∀ i,i<m->∀ j,j<n->t i j=det m (upv (fun i=>A (h i)) i (A j))
 cr:∀ j,j<n->∀ p,p<m->d*A j p=c0 m fun i=>t i j*A (h i) p
 oo:∀ j,j<n->o j=d*c j-c0 m fun i=>c (h i)*t i j
def hup (h:Nat->Nat) (r s:Nat):Nat->Nat:=fun i=>if i=r then s else h i
section
variable {m n:Nat} {A:Nat->Nat->Int} {c:Nat->Int} {h:Nat->Nat} {t:Nat->Nat->Int} {o:Nat->Int} {d:Int}
theorem Tab.unit (T:Tab m n A c h t o d) {i k:Nat} (hi:i<m) (hk:k<m):t i (h k)=if i=k then d else 0:=by
 rw [T.tt i hi _ (T.hn k hk)]
 by_cases e:i=k
 ·subst e
  rw [if_pos rfl,T.dd]
  exact congrArg (det m) (K7 (fun i=>A (h i)) i)
 ·rw [if_neg e]
  exact dA hi hk (fun q=>e q.symm) fun i=>A (h i)
theorem Tab.ozero (T:Tab m n A c h t o d) {k:Nat} (hk:k<m):o (h k)=0:=by
 rw [T.oo _ (T.hn k hk),A8 (r:=k) hk fun i hi q=>by rw [T.unit hi hk,if_neg q,Int.mul_zero],T.unit hk hk,if_pos rfl,Int.mul_comm]
 omega
theorem ka {r s:Nat}:(fun i=>A (hup h r s i))=upv (fun i=>A (h i)) r (A s):=by
 funext i
 unfold hup upv
 by_cases e:i=r
 ·rw [if_pos e,if_pos e]
 ·rw [if_neg e,if_neg e]
theorem Tab.step (T:Tab m n A c h t o d) {r s:Nat} (hr:r<m) (hs:s<n) {i j:Nat} (hi:i<m) (hj:j<n) (hir:i≠r):d*det m (upv (fun i=>A (hup h r s i)) i (A j))=t i j*t r s-t i s*t r j:=by
 rw [ka]
 obtain ⟨v,hv⟩:∃ v:Nat->Nat->Int,v=fun i=>A (h i):=⟨_,rfl⟩
 have e1:d*det m (upv (upv v r (A s)) i (A j))=det m (upv (upv v r (A s)) i fun p=>d*A j p):=by
  have:=F9 d 0 (A j) (A j) m (upv v r (A s)) i hi
  simp only [Int.zero_mul,Int.add_zero] at this
  exact this.symm
 have e2:det m (upv (upv v r (A s)) i fun p=>d*A j p)=det m (upv (upv v r (A s)) i fun p=>c0 m fun k=>t k j*v k p):=by
  refine G0 fun a ha p hp=>?_
  unfold upv
  by_cases q:a=i
  ·rw [if_pos q,if_pos q,T.cr j hj p hp,hv]
  ·rw [if_neg q,if_neg q]
 rw [<- hv,e1,e2,aQ hi]
 have hd:det m (upv (upv v r (A s)) i (v i))=t r s:=by
  have:upv (upv v r (A s)) i (v i)=upv v r (A s):=by
   have:=K7 (upv v r (A s)) i
   rwa [E6 hir] at this
  rw [this,T.tt r hr s hs,hv]
 have hrr:det m (upv (upv v r (A s)) i (v r)) =-t i s:=by
  rw [qA hi hr (fun q=>hir q.symm),T.tt i hi s hs,hv]
 rw [T8 (r:=i) (g:=fun k=>if k=r then t r j*(- t i s) else 0) hi fun k hk q=>by
  show t k j*det m (upv (upv v r (A s)) i (v k))=if k=r then t r j*(- t i s) else 0
  by_cases q2:k=r
  ·rw [if_pos q2,q2,hrr]
  ·rw [if_neg q2]
   have:=dA hi hk q (upv v r (A s))
   rw [E6 q2] at this
   rw [this,Int.mul_zero]]
 rw [A8 (r:=r) hr fun k _ q=>if_neg q,hd]
 simp only [if_pos,if_neg hir]
 rw [Int.mul_neg,Int.mul_comm (t r j)]
 omega
theorem Tab.inj (T:Tab m n A c h t o d) {i k:Nat} (hi:i<m) (hk:k<m) (e:h i=h k):i=k:=by
 have h1:=T.unit hi hk
 rw [<- e,T.unit hi hi,if_pos rfl] at h1
 have:=T.dp
 by_cases q:i=k
 ·exact q
 ·rw [if_neg q] at h1; omega
theorem Tab.pivot (T:Tab m n A c h t o d) {r s:Nat} (hr:r<m) (hs:s<n) (hp:0<t r s) {t':Nat->Nat->Int} {o':Nat->Int} (h1:∀ j,j<n->t' r j=t r j) (h2:∀ i,i<m->i≠r->∀ j,j<n->d*t' i j=t i j*t r s-t i s*t r j) (h3:∀ j,j<n->d*o' j=o j*t r s-o s*t r j):Tab m n A c (hup h r s) t' o' (t r s):=by
 have hd:=T.dp
 have can:∀ {x y:Int},d*x=d*y->x=y:=fun e=>Int.eq_of_mul_eq_mul_left (by omega) e
 have hne:∀ i,i≠r->hup h r s i=h i:=fun i q=>if_neg q
 have hrr:hup h r s r=s:=if_pos rfl
 -- sums over the new lines, times d
 have key:∀ (j:Nat),j<n->∀ g:Nat->Int,d*c0 m (fun i=>g (hup h r s i)*t' i j)=t r s*c0 m (fun i=>g (h i)*t i j)-t r j*c0 m (fun i=>g (h i)*t i s)+d*(g s*t r j):=fun j hj g=>by
  rw [<- k9,T8 (r:=r) (g:=fun i=>t r s*(g (h i)*t i j)+(- t r j)*(g (h i)*t i s)) hr fun i hi q=>by
   show d*(g (hup h r s i)*t' i j)=t r s*(g (h i)*t i j)+(- t r j)*(g (h i)*t i s)
   rw [hne i q,show d*(g (h i)*t' i j)=g (h i)*(d*t' i j) by rw [<- Int.mul_assoc,Int.mul_comm d,Int.mul_assoc],h2 i hi q j hj,Int.mul_sub,Int.neg_mul,show t r s*(g (h i)*t i j)=g (h i)*(t i j*t r s) by rw [Int.mul_comm (t r s),Int.mul_assoc],show t r j*(g (h i)*t i s)=g (h i)*(t i s*t r j) by rw [Int.mul_comm (t r j),Int.mul_assoc]]
   omega]
  rw [A9,k9,k9,hrr,h1 j hj,Int.neg_mul,Int.neg_mul,show t r s*(g (h r)*t r j)=t r j*(g (h r)*t r s) by rw [Int.mul_comm (g (h r)) (t r j),<- Int.mul_assoc,Int.mul_comm (t r s),Int.mul_assoc,Int.mul_comm (t r s)]]
  omega
 exact {
  dp:=hp
  hn:=fun i hi=>by
   by_cases q:i=r
   ·rw [q,hrr]; exact hs
   ·rw [hne i q]; exact T.hn i hi
  dd:=by rw [ka]; exact T.tt r hr s hs
  tt:=fun i hi j hj=>by
   by_cases q:i=r
   ·subst q
    rw [h1 j hj,ka,sf]; exact T.tt i hi j hj
   ·refine can ?_
    rw [h2 i hi q j hj,T.step hr hs hi hj q]
  cr:=fun j hj p hp=>by
   refine can ?_
   have e1:=key j hj fun a=>A a p
   have e2:c0 m (fun i=>A (h i) p*t i j)=d*A j p:=by
    rw [T.cr j hj p hp]; exact g5 fun i _=>Int.mul_comm _ _
   have e3:c0 m (fun i=>A (h i) p*t i s)=d*A s p:=by
    rw [T.cr s hs p hp]; exact g5 fun i _=>Int.mul_comm _ _
   have e4:c0 m (fun i=>t' i j*A (hup h r s i) p)=c0 m (fun i=>A (hup h r s i) p*t' i j):=g5 fun i _=>Int.mul_comm _ _
   rw [e4,e1,e2,e3,show t r j*(d*A s p)=d*(A s p*t r j) by rw [Int.mul_comm (t r j),Int.mul_assoc],show d*(t r s*A j p)=t r s*(d*A j p) by rw [<- Int.mul_assoc,Int.mul_comm d,Int.mul_assoc]]
   omega
  oo:=fun j hj=>by
   refine can ?_
   have e1:=key j hj c
   have e2:c0 m (fun i=>c (h i)*t i j)=d*c j-o j:=by rw [T.oo j hj]; omega
   have e3:c0 m (fun i=>c (h i)*t i s)=d*c s-o s:=by rw [T.oo s hs]; omega
   rw [h3 j hj,Int.mul_sub,e1,e2,e3,Int.mul_sub,Int.mul_sub,show t r j*(d*c s)=d*(c s*t r j) by rw [Int.mul_comm (t r j),Int.mul_assoc],show d*(t r s*c j)=t r s*(d*c j) by rw [<- Int.mul_assoc,Int.mul_comm d,Int.mul_assoc],Int.mul_comm (o j),Int.mul_comm (o s)]
   omega }
theorem Tab.ker (T:Tab m n A c h t o d) {y:Nat->Int} (hy:∀ p,p<m->c0 n (fun j=>y j*A j p)=0):c0 n (fun j=>o j*y j)=d*c0 n (fun j=>c j*y j):=by
 have hz:∀ i,i<m->c0 n (fun j=>y j*t i j)=0:=fun i hi=>by
  have e:c0 n (fun j=>y j*t i j)=c0 n (fun j=>y j*det m (upv (fun i=>A (h i)) i (A j))):=g5 fun j hj=>by rw [T.tt i hi j hj]
  rw [e,<- aQ hi]
  have e2:det m (upv (fun i=>A (h i)) i fun p=>c0 n fun k=>y k*A k p)=det m (upv (fun i=>A (h i)) i fun p=>0*(0:Int)+0*0):=G0 fun a _ p hp=>by
   unfold upv
   by_cases q:a=i
   ·rw [if_pos q,if_pos q,hy p hp]; rfl
   ·rw [if_neg q,if_neg q]
  rw [e2,F9 0 0 (fun _=>0) (fun _=>0) m _ i hi,Int.zero_mul]; rfl
 have e:c0 n (fun j=>o j*y j)=c0 n (fun j=>d*(c j*y j)+(-1)*c0 m (fun i=>c (h i)*(y j*t i j))):=g5 fun j hj=>by
  show o j*y j=_
  rw [T.oo j hj,Int.sub_mul,Int.mul_assoc,Int.mul_comm (c0 m _),<- k9,show c0 m (fun k=>y j*(c (h k)*t k j))=c0 m (fun i=>c (h i)*(y j*t i j)) from g5 fun i _=>by rw [<- Int.mul_assoc,Int.mul_comm (y j),Int.mul_assoc]]
  omega
 have e3:c0 m (fun i=>c0 n fun j=>c (h i)*(y j*t i j))=0:=x5 fun i hi=>by
  show c0 n (fun j=>c (h i)*(y j*t i j))=0
  rw [k9,hz i hi,Int.mul_zero]
 rw [e,A9,k9,k9,R1,e3]
 omega
def k6 (m:Nat) (h:Nat->Nat) (t:Nat->Nat->Int) (d:Int) (s j:Nat):Int:=(if j=s then d else 0)+(-1)*c0 m fun i=>if h i=j then t i s else 0
theorem Tab.dirSum (T:Tab m n A c h t o d) {s:Nat} (hs:s<n) (g:Nat->Int):c0 n (fun j=>g j*k6 m h t d s j)=g s*d-c0 m fun i=>g (h i)*t i s:=by
 have e:c0 n (fun j=>g j*k6 m h t d s j)=c0 n (fun j=>g j*(if j=s then d else 0)+(-1)*c0 m fun i=>g j*(if h i=j then t i s else 0)):=g5 fun j _=>by
  unfold k6
  rw [Int.mul_add,k9,<- Int.mul_assoc,Int.mul_comm (g j) (-1),Int.mul_assoc]
 rw [e,A9,k9,R1,A8 (r:=s) hs fun j _ q=>by rw [if_neg q,Int.mul_zero],if_pos rfl]
 have e2:c0 m (fun i=>c0 n fun j=>g j*(if h i=j then t i s else 0))=c0 m fun i=>g (h i)*t i s:=g5 fun i hi=>by
  rw [A8 (r:=h i) (T.hn i hi) fun j _ q=>by rw [if_neg (fun z=>q z.symm),Int.mul_zero],if_pos rfl]
 rw [e2]
 omega
theorem Tab.dirKer (T:Tab m n A c h t o d) {s:Nat} (hs:s<n):∀ p,p<m->c0 n (fun j=>k6 m h t d s j*A j p)=0:=fun p hp=>by
 have e:c0 n (fun j=>k6 m h t d s j*A j p)=c0 n (fun j=>A j p*k6 m h t d s j):=g5 fun j _=>Int.mul_comm _ _
 rw [e,T.dirSum hs fun j=>A j p,Int.mul_comm,T.cr s hs p hp,g5 (g:=fun i=>t i s*A (h i) p) fun i _=>Int.mul_comm _ _]
 omega
theorem Tab.dirO (T:Tab m n A c h t o d) {s:Nat} (hs:s<n):c0 n (fun j=>c j*k6 m h t d s j)=o s:=by
 rw [T.dirSum hs c,T.oo s hs,Int.mul_comm]
theorem Tab.dirB (T:Tab m n A c h t o d) {s i:Nat} (hi:i<m) (hsi:h i≠s):k6 m h t d s (h i) =-t i s:=by
 unfold k6
 rw [if_neg hsi,A8 (r:=i) hi fun k hk q=>if_neg fun e=>q (T.inj hk hi e),if_pos rfl]
 omega
theorem Tab.dirN {s j:Nat} (hj:∀ i,i<m->h i≠j) (hjs:j≠s):k6 m h t d s j=0:=by
 unfold k6
 rw [if_neg hjs,x5 fun i hi=>if_neg (hj i hi)]; rfl
theorem Tab.dirS {s:Nat} (hj:∀ i,i<m->h i≠s):k6 m h t d s s=d:=by
 unfold k6
 rw [if_pos rfl,x5 fun i hi=>if_neg (hj i hi)]
 omega
end
structure TB (m n:Nat) (A:Nat->Nat->Int) (c:Nat->Int) where
 h:Nat->Nat
 t:Nat->Nat->Int
 o:Nat->Int
 d:Int
 ok:Tab m n A c h t o d
def Bas {m n:Nat} {A:Nat->Nat->Int} {c:Nat->Int} (S:TB m n A c) (j:Nat):Prop:=∃ i,i<m/\S.h i=j
structure Mv_ {m n:Nat} {A:Nat->Nat->Int} {c:Nat->Int} (S S':TB m n A c) (e l:Nat):Prop where
 en:e<n
 eo:0<S.o e
 el:∀ j,j<e->S.o j<=0
 lv:∃ r,r<m/\S.h r=l/\0<S.t r e/\(∀ i,i<m->0<S.t i e->l<=S.h i)/\S'.h=hup S.h r e
section
variable {m n:Nat} {A:Nat->Nat->Int} {c:Nat->Int}
theorem Mv_.nb {S S':TB m n A c} {e l:Nat} (M:Mv_ S S' e l):¬ Bas S e:=fun zz96=>by
 obtain ⟨i,hi,q⟩:=zz96
 have:=S.ok.ozero hi
 rw [q] at this
 have:=M.eo
 omega
theorem Mv_.lb {S S':TB m n A c} {e l:Nat} (M:Mv_ S S' e l):Bas S l:=by
 obtain ⟨r,hr,q,_⟩:=M.lv
 exact ⟨r,hr,q⟩
theorem Mv_.bas {S S':TB m n A c} {e l:Nat} (M:Mv_ S S' e l) (j:Nat):Bas S' j↔j=e\/(Bas S j/\j≠l):=by
 obtain ⟨r,hr,q,_,_,hh⟩:=M.lv
 constructor
 ·rintro ⟨i,hi,e1⟩
  rw [hh] at e1
  unfold hup at e1
  by_cases z:i=r
  ·rw [if_pos z] at e1; exact .inl e1.symm
  ·rw [if_neg z] at e1
   refine .inr ⟨⟨i,hi,e1⟩,fun w=>z (S.ok.inj hi hr (by rw [e1,q,w]))⟩
 ·rintro (e1 | ⟨⟨i,hi,e1⟩,e2⟩)
  ·exact ⟨r,hr,by rw [hh,e1]; exact if_pos rfl⟩
  ·refine ⟨i,hi,?_⟩
   rw [hh]
   unfold hup
   rw [if_neg (fun z=>e2 (by rw [<- e1,z,q]))]; exact e1
theorem BH {S1 S1' S2 S2':TB m n A c} {q l1 s:Nat} (M1:Mv_ S1 S1' q l1) (M2:Mv_ S2 S2' s q) (hsq:s<q) (hup:∀ j,q<j->j<n->Bas S2 j->Bas S1 j):False:=by
 obtain ⟨r,hr,hrq,hrt,hmin,_⟩:=M2.lv
 have hs:=M2.en
 have nb:=M2.nb
 have hq:=M1.en
 have k1:=S1.ok.ker (S2.ok.dirKer hs)
 rw [S2.ok.dirO hs] at k1
 have hpos:0<S1.d*S2.o s:=Int.mul_pos S1.ok.dp M2.eo
 have hneg:c0 n (fun j=>S1.o j*k6 m S2.h S2.t S2.d s j)<0:=by
  have hyq:k6 m S2.h S2.t S2.d s q =-S2.t r s:=by
   have:=S2.ok.dirB (s:=s) hr (by omega)
   rwa [hrq] at this
  refine ow hq (fun j hj=>?_) ?_
  ·show S1.o j*k6 m S2.h S2.t S2.d s j<=0
   by_cases j1:j=s
   ·subst j1
    rw [Tab.dirS fun i hi e=>nb ⟨i,hi,e⟩]
    exact Int.mul_nonpos_of_nonpos_of_nonneg (M1.el j hsq) (by have:=S2.ok.dp; omega)
   ·by_cases j2:Bas S2 j
    ·obtain ⟨i,hi,ei⟩:=j2
     have hy:=S2.ok.dirB (s:=s) hi (by omega)
     rw [ei] at hy
     rcases Nat.lt_trichotomy j q with z | z | z
     ·have h1:=M1.el j z
      have h2:¬ 0<S2.t i s:=fun w=>by have:=hmin i hi w; omega
      rw [hy]
      exact Int.mul_nonpos_of_nonpos_of_nonneg h1 (by omega)
     ·subst z
      rw [hyq]
      exact Int.mul_nonpos_of_nonneg_of_nonpos (by have:=M1.eo; omega) (by omega)
     ·obtain ⟨i1,hi1,e1⟩:=hup j z hj ⟨i,hi,ei⟩
      rw [<- e1,S1.ok.ozero hi1,Int.zero_mul]
      exact Int.le_refl 0
    ·rw [Tab.dirN (fun i hi e=>j2 ⟨i,hi,e⟩) j1,Int.mul_zero]
     exact Int.le_refl 0
  ·show S1.o q*k6 m S2.h S2.t S2.d s q<0
   rw [hyq,Int.mul_neg]
   have:=Int.mul_pos M1.eo hrt
   omega
 omega
theorem xu (q:Nat):2^(q+1)=2*2^q:=by rw [Nat.pow_succ,Nat.mul_comm]
theorem aG (S:Nat->TB m n A c) (e l:Nat->Nat):∀ (q a b:Nat),a<=b->(∀ i,a<=i->i<b->Mv_ (S i) (S (i+1)) (e i) (l i)/\e i<q/\l i<q)->b-a<2^q
 | 0,a,b,hab,h=>by
  by_cases z:a<b
  ·have:=(h a (Nat.le_refl a) z).2.1
   omega
  ·simp
   omega
 | q+1,a,b,hab,h=>by
  -- what stands above q stays
  have stay:∀ j,q<j->∀ k,a<=k->k<=b->(Bas (S k) j↔Bas (S a) j):=fun j hj k=>by
   induction k with
   | zero=>
    intro h1 _
    have:a=0:=by omega
    rw [this]
   | succ k ih=>
    intro h1 h2
    by_cases z:a=k+1
    ·rw [z]
    ·obtain ⟨M,m1,m2⟩:=h k (by omega) (by omega)
     rw [M.bas j,<- ih (by omega) (by omega)]
     constructor
     ·rintro (w | w)
      ·omega
      ·exact w.1
     ·exact fun w=>.inr ⟨w,by omega⟩
  have noboth:∀ i k,a<=i->i<b->a<=k->k<b->e i=q->l k=q->False:=fun i k i1 i2 k1 k2 hi hk=>by
   obtain ⟨Mi,_,_⟩:=h i i1 i2
   obtain ⟨Mk,mk,_⟩:=h k k1 k2
   rw [hi] at Mi
   rw [hk] at Mk
   have hne:e k≠q:=fun w=>Mk.nb (by rw [w]; exact Mk.lb)
   exact BH Mi Mk (by omega) fun j hj _ hb=>(stay j hj i i1 (by omega)).mpr ((stay j hj k k1 (by omega)).mp hb)
  by_cases hex:∃ i,a<=i/\i<b/\(e i=q\/l i=q)
  ·have two:∀ i k,a<=i->i<k->k<b->(e i=q\/l i=q)->(e k=q\/l k=q)->False:=fun i k i1 ik kb hi hk=>by
    obtain ⟨Mi,_,_⟩:=h i i1 (by omega)
    obtain ⟨Mk,_,_⟩:=h k (by omega) kb
    rcases hi with hi | hi
    ·have nol:∀ x,a<=x->x<b->l x≠q:=fun x x1 x2 w=>noboth i x i1 (by omega) x1 x2 hi w
     have pers:∀ x,i+1<=x->x<=b->Bas (S x) q:=fun x=>by
      induction x with
      | zero=>intro w; omega
      | succ x ih=>
       intro x1 x2
       obtain ⟨M,_,_⟩:=h x (by omega) (by omega)
       by_cases z:x=i
       ·subst z
        exact (M.bas q).mpr (.inl hi.symm)
       ·exact (M.bas q).mpr (.inr ⟨ih (by omega) (by omega),fun w=>nol x (by omega) (by omega) w.symm⟩)
     rcases hk with hk | hk
     ·exact Mk.nb (by rw [hk]; exact pers k (by omega) (by omega))
     ·exact nol k (by omega) kb hk
    ·have noe:∀ x,a<=x->x<b->e x≠q:=fun x x1 x2 w=>noboth x i x1 x2 i1 (by omega) w hi
     have pers:∀ x,i+1<=x->x<=b->¬ Bas (S x) q:=fun x=>by
      induction x with
      | zero=>intro w; omega
      | succ x ih=>
       intro x1 x2 hb
       obtain ⟨M,_,_⟩:=h x (by omega) (by omega)
       rcases (M.bas q).mp hb with w | w
       ·exact noe x (by omega) (by omega) w.symm
       ·by_cases z:x=i
        ·subst z
         exact w.2 hi.symm
        ·exact ih (by omega) (by omega) w.1
     rcases hk with hk | hk
     ·exact noe k (by omega) kb hk
     ·exact pers k (by omega) (by omega) (by rw [<- hk]; exact Mk.lb)
   obtain ⟨i,i1,i2,hi⟩:=hex
   have h1:=aG S e l q a i i1 fun x x1 x2=>⟨(h x x1 (by omega)).1,by
    have:=(h x x1 (by omega)).2.1
    have:e x≠q:=fun w=>two x i x1 x2 i2 (.inl w) hi
    omega,by
    have:=(h x x1 (by omega)).2.2
    have:l x≠q:=fun w=>two x i x1 x2 i2 (.inr w) hi
    omega⟩
   have h2:=aG S e l q (i+1) b (by omega) fun x x1 x2=>⟨(h x (by omega) x2).1,by
    have:=(h x (by omega) x2).2.1
    have:e x≠q:=fun w=>two i x i1 (by omega) x2 hi (.inl w)
    omega,by
    have:=(h x (by omega) x2).2.2
    have:l x≠q:=fun w=>two i x i1 (by omega) x2 hi (.inr w)
    omega⟩
   rw [xu]
   omega
  ·have:=aG S e l q a b hab fun i i1 i2=>⟨(h i i1 i2).1,by
    have:=(h i i1 i2).2.1
    have:e i≠q:=fun w=>hex ⟨i,i1,i2,.inl w⟩
    omega,by
    have:=(h i i1 i2).2.2
    have:l i≠q:=fun w=>hex ⟨i,i1,i2,.inr w⟩
    omega⟩
   rw [xu]
   omega
theorem oH (S:Nat->TB m n A c) (e l:Nat->Nat) (L:Nat) (h:∀ i,i<L->Mv_ (S i) (S (i+1)) (e i) (l i)):L<2^n:=by
 have:=aG S e l n 0 L (Nat.zero_le _) fun i _ hi=>⟨h i hi,(h i hi).en,by
  obtain ⟨r,hr,q,_⟩:=(h i hi).lv
  rw [<- q]; exact (S i).ok.hn r hr⟩
 omega
end
theorem V8 (f:Nat->Int) (k:Nat):∀ m:Nat,c0 (k+m) f=c0 k f+c0 m fun q=>f (k+q)
 | 0=>by show c0 k f=c0 k f+0; omega
 | m+1=>by
  show c0 (k+m) f+f (k+m)=c0 k f+((c0 m fun q=>f (k+q))+f (k+m))
  rw [V8 f k m]; omega
structure Cols (k m pl:Nat) (st:Nat->Nat->Int) (A:Nat->Nat->Int) (c:Nat->Int):Prop where
 am:∀ j,j<k->∀ p,p<m->A j p =-st j p
 au:∀ q,q<m->∀ p,p<m->A (k+q) p=if q=p then 1 else 0
 cm:∀ j,j<k->c j=st j pl
 cu:∀ q,q<m->c (k+q)=0
section
variable {k m pl:Nat} {st A:Nat->Nat->Int} {c:Nat->Int} {h:Nat->Nat} {t:Nat->Nat->Int} {o:Nat->Int} {d:Int}
theorem Cols.comb (C:Cols k m pl st A c) (x:Nat->Int) {p:Nat} (hp:p<m):x p=c0 m fun q=>x q*A (k+q) p:=by
 rw [A8 (r:=p) hp fun q hq z=>by rw [C.au q hq p hp,if_neg z,Int.mul_zero],C.au p hp p hp,if_pos rfl,Int.mul_one]
theorem Cols.detc (C:Cols k m pl st A c) {i:Nat} (hi:i<m) (v:Nat->Nat->Int) (x:Nat->Int):det m (upv v i x)=c0 m fun q=>x q*det m (upv v i (A (k+q))):=by
 rw [<- aQ hi v x fun q=>A (k+q)]
 refine G0 fun a _ p hp=>?_
 unfold upv
 by_cases z:a=i
 ·rw [if_pos z,if_pos z]; exact C.comb x hp
 ·rw [if_neg z,if_neg z]
theorem Cols.det1 (C:Cols k m pl st A c):det m (fun i=>A (k+i))=1:=(G0 fun i hi p hp=>C.au i hi p hp).trans (gE m)
theorem Cols.first (C:Cols k m pl st A c):Tab m (k+m) A c (fun i=>k+i) (fun i j=>A j i) c 1 where
 dp:=by decide
 hn i hi:=by omega
 dd:=C.det1.symm
 tt i hi j hj:=by
  rw [C.detc hi,A8 (r:=i) hi fun q hq z=>by
   have:=dA hi hq z fun i=>A (k+i)
   rw [this,Int.mul_zero]]
  have:=K7 (fun i=>A (k+i)) i
  have e:upv (fun i=>A (k+i)) i (A (k+i))=fun i=>A (k+i):=this
  rw [e,C.det1,Int.mul_one]
 cr j hj p hp:=by rw [Int.one_mul]; exact C.comb (A j) hp
 oo j hj:=by
  rw [Int.one_mul,x5 fun i hi=>by rw [C.cu i hi,Int.zero_mul]]; omega
theorem Cols.weights (C:Cols k m pl st A c) (T:Tab m (k+m) A c h t o d) (hpl:pl<m) {j:Nat} (hj:j<k):c0 m (fun p=>(- o (k+p)+d*(if p=pl then 1 else 0))*st j p)=o j:=by
 have ho:∀ q,q<m ->-o (k+q)=c0 m fun i=>c (h i)*t i (k+q):=fun q hq=>by
  rw [T.oo (k+q) (by omega),C.cu q hq,Int.mul_zero]; omega
 have ht:∀ i,i<m->t i j=c0 m fun q=>(- st j q)*t i (k+q):=fun i hi=>by
  rw [T.tt i hi j (by omega),C.detc hi]
  exact g5 fun q hq=>by rw [C.am j hj q hq,T.tt i hi (k+q) (by omega)]
 have e1:c0 m (fun p=>(- o (k+p)+d*(if p=pl then 1 else 0))*st j p)=c0 m (fun p=>st j p*(c0 m fun i=>c (h i)*t i (k+p))+d*((if p=pl then 1 else 0)*st j p)):=g5 fun p hp=>by
  rw [ho p hp,Int.add_mul,Int.mul_comm (c0 m _),Int.mul_assoc]
 have e2:c0 m (fun p=>st j p*(c0 m fun i=>c (h i)*t i (k+p))) =-c0 m (fun i=>c (h i)*t i j):=by
  have:c0 m (fun i=>c (h i)*t i j)=c0 m (fun i=>c0 m fun p=>(-1)*(st j p*(c (h i)*t i (k+p)))):=g5 fun i hi=>by
   rw [ht i hi,<- k9]
   exact g5 fun q _=>by
    rw [Int.neg_mul,Int.mul_neg,Int.neg_mul,Int.one_mul,<- Int.mul_assoc,<- Int.mul_assoc,Int.mul_comm (c (h i))]
  rw [this,R1]
  have:c0 m (fun p=>c0 m fun i=>(-1)*(st j p*(c (h i)*t i (k+p))))=c0 m (fun p=>(-1)*(st j p*c0 m fun i=>c (h i)*t i (k+p))):=g5 fun p _=>by
   rw [k9,k9]
  rw [this,k9]
  omega
 have e3:c0 m (fun p=>(if p=pl then 1 else 0)*st j p)=st j pl:=by
  rw [A8 (r:=pl) hpl fun p _ z=>by rw [if_neg z,Int.zero_mul],if_pos rfl,Int.one_mul]
 rw [e1,A9,k9,e2,e3,T.oo j (by omega),C.cm j hj]
 omega
theorem Cols.bag (C:Cols k m pl st A c) (T:Tab m (k+m) A c h t o d) {s:Nat} (hs:s<k+m):(∀ p,p<m->c0 k (fun j=>k6 m h t d s j*st j p)=k6 m h t d s (k+p))/\c0 k (fun j=>k6 m h t d s j*st j pl)=o s:=by
 refine ⟨fun p hp=>?_,?_⟩
 ·have e:=T.dirKer hs p hp
  rw [V8,A8 (r:=p) hp fun q hq z=>by rw [C.au q hq p hp,if_neg z,Int.mul_zero],C.au p hp p hp,if_pos rfl,Int.mul_one] at e
  have e2:c0 k (fun j=>k6 m h t d s j*A j p)=(-1)*c0 k (fun j=>k6 m h t d s j*st j p):=by
   rw [<- k9]
   exact g5 fun j hj=>by rw [C.am j hj p hp,Int.mul_neg,Int.neg_mul,Int.one_mul]
  rw [e2] at e
  omega
 ·have e:=T.dirO hs
  rw [V8,x5 (n:=m) fun q hq=>by rw [C.cu q hq,Int.zero_mul]] at e
  rw [<- e,Int.add_zero]
  exact g5 fun j hj=>by rw [C.cm j hj,Int.mul_comm]
theorem Tab.dirP {m n:Nat} {A:Nat->Nat->Int} {c:Nat->Int} (T:Tab m n A c h t o d) {s:Nat} (ho:0<o s) (hn:∀ i,i<m->t i s<=0) (j:Nat):0<=k6 m h t d s j:=by
 have nb:∀ i,i<m->h i≠s:=fun i hi e=>by
  have:=T.ozero hi
  rw [e] at this
  omega
 by_cases js:j=s
 ·subst js
  rw [Tab.dirS nb]
  have:=T.dp
  omega
 ·by_cases jb:∃ i,i<m/\h i=j
  ·obtain ⟨i,hi,e⟩:=jb
   have:=T.dirB (s:=s) hi (nb i hi)
   rw [e] at this
   have:=hn i hi
   omega
  ·rw [Tab.dirN (fun i hi e=>jb ⟨i,hi,e⟩) js]
   exact Int.le_refl 0
end
def dB (M:Int):Nat->Int
 | 0=>1
 | n+1=>((n+1:Nat):Int)*(M*dB M n)
theorem dJ {a b A B:Int} (h1:-A<=a/\a<=A) (h2:-B<=b/\b<=B):-(A*B)<=a*b/\a*b<=A*B:=by
 have hA:a.natAbs<=A.natAbs:=by omega
 have hB:b.natAbs<=B.natAbs:=by omega
 have h:=Nat.mul_le_mul hA hB
 rw [<- Int.natAbs_mul,<- Int.natAbs_mul] at h
 have hp:0<=A*B:=Int.mul_nonneg (by omega) (by omega)
 omega
theorem ay {M:Int} (hM:0<=M):∀ (n:Nat) (v:Nat->Nat->Int),(∀ i,i<n->∀ p,p<n->-M<=v i p/\v i p<=M)->-dB M n<=det n v/\det n v<=dB M n
 | 0,_,_=>by show -(1:Int)<=1/\(1:Int)<=1; omega
 | n+1,v,h=>by
  have:=cO (B:=M*dB M n) (n:=n+1) (f:=fun k=>v k n*det n fun i=>v (skp k i)) fun k hk=>dJ (h k hk n (Nat.lt_succ_self n)) (ay hM n _ fun i hi p hp=>h (skp k i) (lm hi) p (by omega))
  exact this
theorem bN {f:Nat->Int} {B:Int}:∀ {n:Nat},(∀ k,k<n->-B<=f k/\f k<=B)->-((n:Int)*B)<=c0 n f/\c0 n f<=(n:Int)*B
 | 0,_=>by show -(((0:Nat):Int)*B)<=0/\(0:Int)<=((0:Nat):Int)*B; simp
 | n+1,h=>by
  have ih:=bN fun k hk=>h k (Nat.lt_succ_of_lt hk)
  have h1:=h n (Nat.lt_succ_self n)
  have e:((n+1:Nat):Int)*B=(n:Int)*B+B:=by rw [Int.natCast_succ,Int.add_mul,Int.one_mul]
  have e2:c0 (n+1) f=c0 n f+f n:=rfl
  rw [e,e2]
  omega
abbrev mM:Int:=2000000000
theorem dB6 {m:Nat} (h:m<=6):dB mM m<=2^197:=by
 have:m=0\/m=1\/m=2\/m=3\/m=4\/m=5\/m=6:=by omega
 rcases this with rfl | rfl | rfl | rfl | rfl | rfl | rfl <;> decide
section
variable {m n:Nat} {A:Nat->Nat->Int} {c:Nat->Int} {h:Nat->Nat} {t:Nat->Nat->Int} {o:Nat->Int} {d:Int}
theorem Tab.bt (T:Tab m n A c h t o d) (hm:m<=6) (hA:∀ j,j<n->∀ p,p<m->-mM<=A j p/\A j p<=mM):∀ i,i<m->∀ j,j<n->-(2^197)<=t i j/\t i j<=2^197:=fun i hi j hj=>by
 have:=ay (M:=mM) (by decide) m (upv (fun i=>A (h i)) i (A j)) fun k hk p hp=>by
  by_cases e:k=i
  ·subst e; rw [M3]; exact hA j hj p hp
  ·rw [E6 e]; exact hA _ (T.hn k hk) p hp
 rw [<- T.tt i hi j hj] at this
 have:=dB6 hm
 omega
theorem Tab.bd (T:Tab m n A c h t o d) (hm:m<=6) (hA:∀ j,j<n->∀ p,p<m->-mM<=A j p/\A j p<=mM):d<=2^197:=by
 have:=ay (M:=mM) (by decide) m (fun i=>A (h i)) fun k hk p hp=>hA _ (T.hn k hk) p hp
 rw [<- T.dd] at this
 have:=dB6 hm
 omega
theorem Tab.bo (T:Tab m n A c h t o d) (hm:m<=6) (hA:∀ j,j<n->∀ p,p<m->-mM<=A j p/\A j p<=mM) (hc:∀ j,j<n->-mM<=c j/\c j<=mM):∀ j,j<n->-(2^240)<=o j/\o j<=2^240:=fun j hj=>by
 have b1:=dJ (a:=d) (A:=2^197) ⟨by have:=T.dp; omega,T.bd hm hA⟩ (hc j hj)
 have b2:=bN (f:=fun i=>c (h i)*t i j) (B:=mM*2^197) (n:=m) fun i hi=>dJ (hc _ (T.hn i hi)) (T.bt hm hA i hi j hj)
 have e:(m:Int)*(mM*2^197)<=6*(mM*2^197):=Int.mul_le_mul_of_nonneg_right (by omega) (by decide)
 rw [T.oo j hj]
 have k1:(2:Int)^197*mM+6*(mM*2^197)<=2^240:=by decide
 omega
end
structure Lv (m:Nat) (h:Nat->Nat) (t:Nat->Nat->Int) (s r:Nat):Prop where
 lt:r<m
 pos:0<t r s
 least:∀ i,i<m->0<t i s->h r<=h i
inductive Run {m n:Nat} {A:Nat->Nat->Int} {c:Nat->Int} (S0:TB m n A c):Nat->TB m n A c->Prop where
 | zero:Run S0 0 S0
 | succ {L:Nat} {S S':TB m n A c} {e l:Nat}:Run S0 L S->Mv_ S S' e l->Run S0 (L+1) S'
theorem Run.seq {m n:Nat} {A:Nat->Nat->Int} {c:Nat->Int} {S0:TB m n A c}:∀ {L:Nat} {S:TB m n A c},Run S0 L S->∃ (F:Nat->TB m n A c) (e l:Nat->Nat),F L=S/\∀ i,i<L->Mv_ (F i) (F (i+1)) (e i) (l i)
 | _,_,.zero=>⟨fun _=>S0,fun _=>0,fun _=>0,rfl,fun i hi=>absurd hi (Nat.not_lt_zero _)⟩
 | _,_,.succ (L:=L) (S:=S) (S':=S') (e:=e) (l:=l) r mv=>by
  obtain ⟨F,es,ls,eF,hF⟩:=r.seq
  refine ⟨fun i=>if i<=L then F i else S',fun i=>if i<L then es i else e,fun i=>if i<L then ls i else l,if_neg (by omega),fun i hi=>?_⟩
  by_cases q:i<L
  ·dsimp only
   rw [if_pos (by omega),if_pos (by omega),if_pos q,if_pos q]
   exact hF i q
  ·have:i=L:=by omega
   subst this
   dsimp only
   rw [if_pos (Nat.le_refl _),if_neg (by omega),if_neg (Nat.lt_irrefl _),if_neg (Nat.lt_irrefl _),eF]
   exact mv
theorem Run.lt {m n:Nat} {A:Nat->Nat->Int} {c:Nat->Int} {S0:TB m n A c} {L:Nat} {S:TB m n A c} (r:Run S0 L S):L<2^n:=by
 obtain ⟨F,e,l,_,h⟩:=r.seq
 exact oH F e l L h
abbrev vec (n:Nat) (f:Nat->Int):List Int:=(List.range n).map f
theorem j8 (n:Nat) (f:Nat->Int):(vec n f).length=n:=by simp [vec]
theorem aE (k m:Nat) (f:Nat->Int):vec (k+m) f=vec k f++vec m fun q=>f (k+q):=by
 unfold vec
 rw [List.range_add,List.map_append,List.map_map]; rfl
abbrev o8 (m n:Nat) (t:Nat->Nat->Int) (o:Nat->Int):List (List Int):=(List.range m).map (fun i=>vec n (t i)) ++ [vec n o]
theorem oI (m n:Nat) (t:Nat->Nat->Int) (o:Nat->Int):(o8 m n t o).length=m+1:=by simp
theorem Z4 {m n:Nat} {t:Nat->Nat->Int} {o:Nat->Int} {i:Nat} (h:i<m):L2.atI ((o8 m n t o).map tI) (i:Int)=some (tI (vec n (t i))):=D8 (by
 rw [List.getElem?_map,List.getElem?_append_left (by simpa using h),List.getElem?_map,List.getElem?_range h]; rfl)
theorem dQ (m n:Nat) (t:Nat->Nat->Int) (o:Nat->Int):L2.atI ((o8 m n t o).map tI) (-1)=some (tI (vec n o)):=by
 unfold L2.atI
 have:L2.ixN ((o8 m n t o).map tI).length (-1)=some m:=by
  unfold L2.ixN
  rw [List.length_map,oI]
  simp
  omega
 rw [this]
 show ((o8 m n t o).map tI)[m]?=_
 simp
theorem ix {p m:Nat} (hm:m<=6):cG [.int (p:Int),.int (m:Int)]=.ok (tI (vec m fun q=>if q=p then 1 else 0)):=by
 have e:∀ N mg me ρ (h:∀ k∈List.range m,∃ ρ1,mg (.int (k:Nat)) (ρ++List.replicate (N-ρ.length) Sl.un)=some ρ1/\me ρ1=.ok (.int (if k=p then 1 else 0))),k4 N mg yes me ((List.range m).map fun k=>W.int (k:Nat)) ρ=.ok (lI (vec m fun q=>if q=p then 1 else 0)):=fun N mg me ρ h=>by
  rw [j7 (fun k=>W.int (if k=p then 1 else 0)) _ _ ρ (by simp; omega) h,J4]
 exists rpB,mH
 rw [e]
 ·exists rp18
 ·intro k hk
  refine ⟨_,rfl,?_⟩
  by_cases q:k=p
  ·have d1:decide ((k:Int)=(p:Int))=true:=decide_eq_true (by omega)
   exists V3,d1
   rw [if_pos q]
  ·have d1:decide ((k:Int)=(p:Int))=false:=decide_eq_false (by omega)
   exists V3,d1
   rw [if_neg q]
def stM (ms:List Mv) (j p:Nat):Int:=(ms.getD j ([],[])).2.getD p 0-(ms.getD j ([],[])).1.getD p 0
def cA (ms:List Mv) (j p:Nat):Int:=if j<ms.length then-stM ms j p else if j-ms.length=p then 1 else 0
def cC (ms:List Mv) (pl j:Nat):Int:=if j<ms.length then stM ms j pl else 0
theorem Bm (ms:List Mv) (m pl:Nat):Cols ms.length m pl (stM ms) (cA ms) (cC ms pl) where
 am j hj p _:=if_pos hj
 au q _ p _:=by
  unfold cA
  rw [if_neg (by omega),Nat.add_sub_cancel_left]
 cm j hj:=if_pos hj
 cu q _:=if_neg (by omega)
theorem gx {xs ys:List Int} (h:xs.length+ys.length<=1000):fCatT (tI xs) (tI ys)=.ok (tI (xs++ys)):=by
 show (if _ then _ else _)=_
 rw [if_pos ⟨by simpa using h,v4 xs,v4 ys⟩,<- List.map_append]
theorem xO (ms:List Mv) (f:Mv->List Int):ms.map f=(List.range ms.length).map fun j=>f (ms.getD j ([],[])):=by
 apply List.ext_getElem
 ·simp
 ·intro i h1 h2
  have:i<ms.length:=by simpa using h1
  simp [List.getD_eq_getElem?_getD,this]
theorem qq {ms:List Mv} {m pl:Nat} (h1:1<=m) (h6:m<=6) (hms:∀ x∈ms,okN m x) (h8:ms.length<=8) (hpl:pl<m):F3 [tM_ ms,.int (pl:Int),.int (m:Int)]=.ok (lS (o8 m (ms.length+m) (fun i j=>cA ms j i) (cC ms pl))):=by
 generalize hk:ms.length=k at h8
 have e1:∀ N mg me ρ (h:∀ x∈ms,∃ ρ1,mg (mW x) (ρ++List.replicate (N-ρ.length) Sl.un)=some ρ1/\me ρ1=.ok (tI (vec m fun p=>x.2.getD p 0-x.1.getD p 0))),k4 N mg yes me (ms.map mW) ρ=.ok (.lst ((List.range k).map fun j=>tI (vec m (stM ms j)))):=fun N mg me ρ h=>by
  rw [j7 (fun x=>tI (vec m fun p=>x.2.getD p 0-x.1.getD p 0)) _ _ ρ (by omega) h]
  have:=xO ms fun x=>vec m fun p=>x.2.getD p 0-x.1.getD p 0
  rw [show (ms.map fun x=>tI (vec m fun p=>x.2.getD p 0-x.1.getD p 0))=(ms.map fun x=>vec m fun p=>x.2.getD p 0-x.1.getD p 0).map tI by rw [List.map_map]; rfl,this,List.map_map,hk]; rfl
 have e2:∀ N mg me ρ (f:Nat->List Int) (h:∀ i∈List.range m,∃ ρ1,mg (.int (i:Nat)) (ρ++List.replicate (N-ρ.length) Sl.un)=some ρ1/\me ρ1=.ok (tI (f i))),k4 N mg yes me ((List.range m).map fun i=>W.int (i:Nat)) ρ=.ok (.lst ((List.range m).map fun i=>tI (f i))):=fun N mg me ρ f h=>j7 (fun i=>tI (f i)) _ _ ρ (by simp; omega) h
 have e3:∀ N mg me ρ (f:Nat->Int) (h:∀ j∈List.range k,∃ ρ1,mg (tI (vec m (stM ms j))) (ρ++List.replicate (N-ρ.length) Sl.un)=some ρ1/\me ρ1=.ok (.int (f j))),k4 N mg yes me ((List.range k).map fun j=>tI (vec m (stM ms j))) ρ=.ok (lI (vec k f)):=fun N mg me ρ f h=>by
  rw [j7 (fun j=>W.int (f j)) _ _ ρ (by simp; omega) h,J4]
 have fr:fRepT (.tup [.int 0]) (.int (m:Int))=.ok (tI (vec m fun _=>0)):=by
  show (if _ then _ else _)=_
  rw [if_pos ⟨by simp,by simp; omega,by omega,by omega⟩,Int.toNat_natCast]
  have:(List.replicate m [W.int 0]).flatten=(vec m fun _=>0).map W.int:=by
   clear hpl h1 h6 hms e1 e2 e3
   induction m with
   | zero=>rfl
   | succ m ih=>
    rw [List.replicate_succ,List.flatten_cons,ih]
    unfold vec
    rw [List.range_succ_eq_map,List.map_cons,List.map_cons,List.map_map,List.map_map,List.map_map]; rfl
  rw [this]
 exists rpB,Y1
 rw [e1]
 rotate_left
 ·intro x hx
  have k1:=eB h6 (hms x hx)
  refine ⟨_,rfl,?_⟩
  exists k1
 exists rp18
 rw [e2 _ _ _ _ fun i=>vec (k+m) fun j=>cA ms j i]
 rotate_left
 ·intro i hi
  have hi:i<m:=by simpa using hi
  have ku:=ix (p:=i) h6
  have kc:=gx (xs:=vec k fun j =>-stM ms j i) (ys:=vec m fun q=>if q=i then 1 else 0) (by simp; omega)
  have ev:(vec k fun j =>-stM ms j i)++(vec m fun q=>if q=i then 1 else 0)=vec (k+m) fun j=>cA ms j i:=by
   rw [aE]
   congr 1
   ·refine List.map_congr_left fun j hj=>?_
    have:j<k:=by simpa using hj
    unfold cA
    rw [hk,if_pos this]
   ·refine List.map_congr_left fun q _=>?_
    unfold cA
    rw [hk,if_neg (show ¬ (k+q<k) by omega),Nat.add_sub_cancel_left]
  rw [ev] at kc
  refine ⟨_,rfl,?_⟩
  exists rp18
  rw [e3 _ _ _ _ fun j =>-stM ms j i]
  ·exists ku,kc
  ·intro j hj
   have a1:L2.atI ((vec m (stM ms j)).map W.int) (i:Int)=some (.int (stM ms j i)):=by
    have:=D8 (ws:=(vec m (stM ms j)).map W.int) (k:=i) (w:=.int (stM ms j i)) (by rw [List.getElem?_map,List.getElem?_map,List.getElem?_range hi]; rfl)
    exact this
   refine ⟨_,rfl,?_⟩
   exists a1
 exists rp18
 rw [e3 _ _ _ _ fun j=>stM ms j pl]
 rotate_left
 ·intro j hj
  have a1:L2.atI ((vec m (stM ms j)).map W.int) (pl:Int)=some (.int (stM ms j pl)):=by
   have:=D8 (ws:=(vec m (stM ms j)).map W.int) (k:=pl) (w:=.int (stM ms j pl)) (by rw [List.getElem?_map,List.getElem?_map,List.getElem?_range hpl]; rfl)
   exact this
  refine ⟨_,rfl,?_⟩
  exists a1
 have kc:=gx (xs:=vec k fun j=>stM ms j pl) (ys:=vec m fun _=>0) (by simp; omega)
 have ev:(vec k fun j=>stM ms j pl)++(vec m fun _=>0)=vec (k+m) (cC ms pl):=by
  rw [aE]
  congr 1
  ·refine List.map_congr_left fun j hj=>?_
   have:j<k:=by simpa using hj
   unfold cC
   rw [hk,if_pos this]
  ·refine List.map_congr_left fun q _=>?_
   unfold cC
   rw [hk,if_neg (by omega)]
 rw [ev] at kc
 exists fr,kc,Q7 (U4 (vec (k+m) (cC ms pl)))
 show _=R.ok (W.lst ((o8 m (k+m) (fun i j=>cA ms j i) (cC ms pl)).map tI))
 rw [List.map_append,List.map_map]; rfl
theorem jf {xs:List Int} {i:Nat} {w:W} (h:((xs.map W.int).mapIdx fun i x=>W.tup [.int (i:Int),x])[i]?=some w):i<xs.length/\w=.tup [.int (i:Int),.int (xs.getD i 0)]:=by
 rw [List.getElem?_mapIdx,List.getElem?_map] at h
 by_cases hi:i<xs.length
 ·rw [List.getElem?_eq_getElem hi] at h
  cases h
  exact ⟨hi,by rw [List.getD_eq_getElem?_getD,List.getElem?_eq_getElem hi]; rfl⟩
 ·rw [List.getElem?_eq_none (by omega)] at h; cases h
inductive Com (n:Nat) (o:Nat->Int):W->Prop where
 | none:(∀ j,j<n->o j<=0)->Com n o .non
 | some {j:Nat}:j<n->0<o j->(∀ i,i<j->o i<=0)->Com n o (.int (j:Int))
theorem nD {m n:Nat} {t:Nat->Nat->Int} {o:Nat->Int} (hm:m<=6) (hn:n<=100):Ok (Q3 [lS (o8 m n t o)]) (Com n o):=by
 have a1:=dQ m n t o
 have hl:=j8 n o
 exists rpB,gi,a1
 refine w9 (C1 (fun i ρ=>∃ (x y:Sl),ρ = [.par (lS (o8 m n t o)),x,y]/\∀ j,j<i->o j<=0) ⟨_,_,rfl,fun j hj=>absurd hj (Nat.not_lt_zero _)⟩ ?_ ?_)
 ·rintro i u ρ hu ⟨x,y,rfl,hall⟩
  obtain ⟨hi,rfl⟩:=jf hu
  have hi:i<n:=by rw [<- hl]; exact hi
  have ev:(vec n o).getD i 0=o i:=k7 hi
  rw [ev]
  refine ⟨_,rfl,?_⟩
  exists rp18
  refine cf (fun h=>?_) (fun h=>?_)
  ·have h:=of_decide_eq_true h
   exists rp18
   exact .some hi h hall
  ·have h:=of_decide_eq_false h
   exists rp18
   refine ⟨_,_,rfl,fun j hj=>?_⟩
   by_cases e:j=i
   ·subst e; omega
   ·exact hall j (by omega)
 ·rintro ρ ⟨x,y,rfl,hall⟩
  have hall:∀ j,j<n->o j<=0:=fun j hj=>hall j (by rw [List.length_mapIdx,List.length_map,hl]; exact hj)
  exists rp18
  exact .none hall
theorem gy (key:Nat->Int):∀ L:List Nat,L ≠ []->∃ i∈L,∀ j∈L,key i<=key j
 | [],h=>absurd rfl h
 | [a],_=>⟨a,List.mem_cons_self,fun j hj=>by rw [List.mem_singleton.mp hj]; exact Int.le_refl _⟩
 | a::b::L,_=>by
  obtain ⟨i,hi,hm⟩:=gy key (b::L) (by simp)
  by_cases q:key a<=key i
  ·refine ⟨a,List.mem_cons_self,fun j hj=>?_⟩
   rcases List.mem_cons.mp hj with rfl | hj
   ·exact Int.le_refl _
   ·have:=hm j hj; omega
  ·refine ⟨i,List.mem_cons_of_mem _ hi,fun j hj=>?_⟩
   rcases List.mem_cons.mp hj with rfl | hj
   ·omega
   ·exact hm j hj
inductive Lea (m:Nat) (h:Nat->Nat) (t:Nat->Nat->Int) (s:Nat):W->Prop where
 | none:(∀ i,i<m->t i s<=0)->Lea m h t s .non
 | some {r:Nat}:Lv m h t s r->Lea m h t s (.int (r:Int))
theorem jY {m n s:Nat} {t:Nat->Nat->Int} {o:Nat->Int} {h:Nat->Nat} (hm:m<=6) (hn:n<=100) (hs:s<n):Ok (aq [lS (o8 m n t o),lI (vec m fun i=>(h i:Int)),.int (s:Int)]) (Lea m h t s):=by
 have e1:∀ N mg mc me ρ (q:∀ i∈List.range m,∃ ρ1,mg (.int (i:Nat)) (ρ++List.replicate (N-ρ.length) Sl.un)=some ρ1/\mc ρ1=.ok (decide (0<t i s))/\me ρ1=.ok (.int (i:Nat))),k4 N mg mc me ((List.range m).map fun i=>W.int (i:Nat)) ρ=.ok (lI (((List.range m).filter fun i=>decide (0<t i s)).map fun (i:Nat)=>(i:Int))):=fun N mg mc me ρ q=>by
  rw [ak (fun i=>W.int (i:Nat)) _ (fun i=>decide (0<t i s)) _ ρ (by simp; omega) fun i hi=>by
   obtain ⟨ρ1,a1,a2,a3⟩:=q i hi
   exact ⟨ρ1,a1,a2,fun _=>a3⟩,J4]
 have hl:=j8 m fun i=>(h i:Int)
 exists rpB,dX
 rw [e1]
 rotate_left
 ·intro i hi
  have hi:i<m:=by simpa using hi
  have a1:=Z4 (n:=n) (t:=t) (o:=o) hi
  have a2:L2.atI ((vec n (t i)).map W.int) (s:Int)=some (.int (t i s)):=by
   have:=D8 (ws:=(vec n (t i)).map W.int) (k:=s) (w:=.int (t i s)) (by rw [List.getElem?_map,List.getElem?_map,List.getElem?_range hs]; rfl)
   exact this
  refine ⟨_,rfl,?_,?_⟩
  ·exists a1,a2
  ·exists rp18
 generalize hL:(List.range m).filter (fun i=>decide (0<t i s))=L
 have hLm:∀ i,i∈L↔i<m/\0<t i s:=fun i=>by rw [<- hL,List.mem_filter,List.mem_range,decide_eq_true_iff]
 have hmr:bz (L.map fun (i:Nat)=>(i:Int)) (vec m fun i=>(h i:Int))=.ok (vW (W6 (fun i=>(vec m fun i=>(h i:Int)).getD i.toNat 0) (L.map fun (i:Nat)=>(i:Int)))):=by
  unfold bz
  rw [if_pos]
  rw [List.all_eq_true]
  intro x hx
  obtain ⟨i,hi,rfl⟩:=List.mem_map.mp hx
  have:=(hLm i).mp hi
  rw [Bool.and_eq_true,decide_eq_true_iff,decide_eq_true_iff,hl]
  omega
 exists hmr
 unfold W6
 cases q:(L.map fun (i:Nat)=>(i:Int)).find? (fun i=>(L.map fun (i:Nat)=>(i:Int)).all fun x=>decide ((vec m fun i=>(h i:Int)).getD i.toNat 0<=(vec m fun i=>(h i:Int)).getD x.toNat 0)) with
 | none=>
  have hnil:L = []:=Classical.byContradiction fun ne=>by
   obtain ⟨i,hi,hmi⟩:=gy (fun i=>(h i:Int)) L ne
   have:=List.find?_eq_none.mp q (i:Int) (List.mem_map.mpr ⟨i,hi,rfl⟩)
   refine this (List.all_eq_true.mpr fun x hx=>?_)
   obtain ⟨j,hj,rfl⟩:=List.mem_map.mp hx
   rw [decide_eq_true_iff,Int.toNat_natCast,Int.toNat_natCast,k7 ((hLm i).mp hi).1,k7 ((hLm j).mp hj).1]
   exact hmi j hj
  refine ⟨_,rfl,.none fun i hi=>?_⟩
  have:=mt (hLm i).mpr (by rw [hnil]; exact List.not_mem_nil)
  omega
 | some x=>
  obtain ⟨hx,_⟩:=List.find?_eq_some_iff_append.mp q
  obtain ⟨i,hi,rfl⟩:=List.mem_map.mp (List.mem_of_find?_eq_some q)
  have hi2:=(hLm i).mp hi
  refine ⟨_,rfl,.some ⟨hi2.1,hi2.2,fun j hj hp=>?_⟩⟩
  have:=List.all_eq_true.mp hx (j:Int) (List.mem_map.mpr ⟨j,(hLm j).mpr ⟨hj,hp⟩,rfl⟩)
  have this:=of_decide_eq_true this
  rw [Int.toNat_natCast,Int.toNat_natCast,k7 hi2.1,k7 hj] at this
  omega
theorem A2 {z:Int} {k:Nat} (h:-(2^k)<=z/\z<=2^k):Builtin.Int.intBits z<=k+1:=by
 refine intBits_le_iff.mpr ?_
 have h1:(z.natAbs:Int)<=((2^k:Nat):Int):=by push_cast; omega
 have h2:z.natAbs<=2^k:=by exact_mod_cast h1
 exact Nat.lt_of_le_of_lt h2 (Nat.pow_lt_pow_right (by decide) (Nat.lt_succ_self k))
theorem gC {i j:Int} (h0:0<j) (h:j<=2^400):fI O3 ao (.int i) (.int j)=.ok (.int (i/j)):=by
 show (if O3 i j then _ else _)=_
 rw [if_pos ⟨h0,Int.lt_of_le_of_lt h (by unfold big8; decide)⟩]
theorem cM {n s:Nat} {x b:Nat->Int} {d:Int} (hn:n<=100) (hs:s<n) (hx:∀ j,j<n->-(2^240)<=x j/\x j<=2^240) (hb:∀ j,j<n->-(2^240)<=b j/\b j<=2^240) (h0:0<d) (hd:d<=2^400) :
  ar [tI (vec n x),tI (vec n b),.int (s:Int),.int d]=.ok (tI (vec n fun j=>(x j*b s-x s*b j)/d)):=by
 have hz:=O6 (tI (vec n x)) (tI (vec n b)) _ _ rfl rfl
 rw [O4 (by rw [j8,j8]),j8] at hz
 have as:L2.atI ((vec n x).map W.int) (s:Int)=some (.int (x s)):=by
  have:=D8 (ws:=(vec n x).map W.int) (k:=s) (w:=.int (x s)) (by rw [List.getElem?_map,List.getElem?_map,List.getElem?_range hs]; rfl)
  exact this
 have bs:L2.atI ((vec n b).map W.int) (s:Int)=some (.int (b s)):=by
  have:=D8 (ws:=(vec n b).map W.int) (k:=s) (w:=.int (b s)) (by rw [List.getElem?_map,List.getElem?_map,List.getElem?_range hs]; rfl)
  exact this
 have e:∀ N mg me ρ (h:∀ j,j<n->∃ ρ1,mg (.tup [.int ((vec n x).getD j 0),.int ((vec n b).getD j 0)]) (ρ++List.replicate (N-ρ.length) Sl.un)=some ρ1/\me ρ1=.ok (.int ((x j*b s-x s*b j)/d))),k4 N mg yes me ((List.range n).map fun j=>W.tup [.int ((vec n x).getD j 0),.int ((vec n b).getD j 0)]) ρ=.ok (lI (vec n fun j=>(x j*b s-x s*b j)/d)):=fun N mg me ρ h=>by
  rw [j7 (fun j=>.int ((x j*b s-x s*b j)/d)) _ _ ρ (by simpa using (by omega:n<=1000)) (fun k hk=>h k (by simpa using hk)),J4]
 exists rpB,dY,hz
 rw [e]
 ·exists rp18
 ·intro j hj
  have b1:=A2 (hx j hj)
  have b2:=A2 (hx s hs)
  have b3:=A2 (hb j hj)
  have b4:=A2 (hb s hs)
  have v1:(vec n x).getD j 0=x j:=k7 hj
  have v2:(vec n b).getD j 0=b j:=k7 hj
  have m1:fI CMulB m4 (.int (x j)) (.int (b s))=.ok (.int (x j*b s)):=U6 (by omega)
  have m2:fI CMulB m4 (.int (x s)) (.int (b j))=.ok (.int (x s*b j)):=U6 (by omega)
  have m3:=gC (i:=x j*b s-x s*b j) h0 hd
  rw [v1,v2]
  refine ⟨_,rfl,?_⟩
  exists as,bs,m1,m2,m3
def pvT (t:Nat->Nat->Int) (r s:Nat) (d:Int) (i j:Nat):Int:=if i=r then t r j else (t i j*t r s-t i s*t r j)/d
def pvO (t:Nat->Nat->Int) (o:Nat->Int) (r s:Nat) (d:Int) (j:Nat):Int:=(o j*t r s-o s*t r j)/d
theorem qx {m n:Nat} {t:Nat->Nat->Int} {o:Nat->Int}:((o8 m n t o).map tI).mapIdx (fun i x=>W.tup [.int (i:Int),x])=(List.range (m+1)).map fun (i:Nat)=>W.tup [.int (i:Int),tI (if i<m then vec n (t i) else vec n o)]:=by
 apply List.ext_getElem
 ·simp
 ·intro i h1 h2
  have hi:i<m+1:=by simpa using h2
  rw [List.getElem_mapIdx,List.getElem_map,List.getElem_map,List.getElem_range]
  by_cases q:i<m
  ·rw [if_pos q,List.getElem_append_left (by simpa using q)]; simp
  ·have:i=m:=by omega
   subst this
   rw [if_neg (Nat.lt_irrefl _),List.getElem_append_right (by simp)]; simp
theorem jO {m n r s:Nat} {t:Nat->Nat->Int} {o:Nat->Int} {d:Int} (hm:m<=6) (hn:n<=100) (hr:r<m) (hs:s<n) (ht:∀ i,i<m->∀ j,j<n->-(2^240)<=t i j/\t i j<=2^240) (ho:∀ j,j<n->-(2^240)<=o j/\o j<=2^240) (h0:0<d) (hd:d<=2^400) :
  S5 [lS (o8 m n t o),.int (r:Int),.int (s:Int),.int d]=.ok (lS (o8 m n (pvT t r s d) (pvO t o r s d))):=by
 have a1:=Z4 (n:=n) (t:=t) (o:=o) hr
 have e:∀ N mg me ρ (h:∀ i∈List.range (m+1),∃ ρ1,mg (.tup [.int (i:Int),tI (if i<m then vec n (t i) else vec n o)]) (ρ++List.replicate (N-ρ.length) Sl.un)=some ρ1/\me ρ1=.ok (tI (if i<m then vec n (pvT t r s d i) else vec n (pvO t o r s d)))),k4 N mg yes me ((List.range (m+1)).map fun (i:Nat)=>W.tup [.int (i:Int),tI (if i<m then vec n (t i) else vec n o)]) ρ=.ok (lS (o8 m n (pvT t r s d) (pvO t o r s d))):=fun N mg me ρ h=>by
  rw [j7 (fun i=>tI (if i<m then vec n (pvT t r s d i) else vec n (pvO t o r s d))) _ _ ρ (by simp; omega) h]
  congr 2
  rw [List.range_succ,List.map_append,List.map_append,List.map_map]
  congr 1
  ·refine List.map_congr_left fun i hi=>?_
   have:i<m:=by simpa using hi
   rw [if_pos this]; rfl
  ·simp
 have he:K2 [lS (o8 m n t o)]=.ok ((List.range (m+1)).map fun (i:Nat)=>W.tup [.int (i:Int),tI (if i<m then vec n (t i) else vec n o)]):=by rw [<- qx]; rfl
 exists rpB,dW,a1,he
 rw [e]
 ·exists rp18
 ·intro i hi
  have hi:i<m+1:=by simpa using hi
  refine ⟨_,rfl,?_⟩
  by_cases q:i=r
  ·subst q
   have d1:decide ((i:Int)=(i:Int))=true:=decide_eq_true rfl
   rw [if_pos hr,if_pos hr]
   have ev:vec n (pvT t i s d i)=vec n (t i):=List.map_congr_left fun j _=>if_pos rfl
   rw [ev]
   exists V3,d1
  ·have d1:decide ((i:Int)=(r:Int))=false:=decide_eq_false (by omega)
   by_cases q2:i<m
   ·have k1:=cM (x:=t i) (b:=t r) hn hs (ht i q2) (ht r hr) h0 hd
    have ev:vec n (pvT t r s d i)=vec n fun j=>(t i j*t r s-t i s*t r j)/d:=List.map_congr_left fun j _=>if_neg q
    rw [if_pos q2,if_pos q2,ev]
    exists V3,d1,k1
   ·have k1:=cM (x:=o) (b:=t r) hn hs ho (ht r hr) h0 hd
    rw [if_neg q2,if_neg q2]
    exists V3,d1,k1
    rfl
theorem yL {a b:Int} (ha:0<=a) (hb:0<=b):A1 [.int a,.int b]=.ok (.int (Int.gcd a b:Nat)):=by
 have fin:Ok (A1 [.int a,.int b]) fun v=>v=.int (Int.gcd a b:Nat):=by
  exists rpB,M8
  refine w9 (P4 ?_)
  refine W3 (fun M ρ=>∃ (x y:Int) (z:Sl),(ρ = [.par (.int x),.par (.int y),z]\/ρ = [.val (.int x),.val (.int y),z])/\0<=x/\0<=y/\Int.gcd x y=Int.gcd a b/\M=y.toNat) ?_ b.toNat _ ⟨a,b,.un,.inl rfl,ha,hb,rfl,rfl⟩
  rintro M ρ ⟨x,y,z,hρ,hx,hy,hg,hM⟩
  by_cases h0:y=0
  ·have d1:decide (y=0)=true:=decide_eq_true h0
   refine ⟨false,?_,?_⟩
   ·rcases hρ with rfl | rfl
    all_goals exists d1
   rw [if_neg (by decide)]
   have hgx:(Int.gcd a b:Int)=x:=by
    rw [<- hg,h0,Int.gcd_zero_right]
    omega
   rcases hρ with rfl | rfl
   all_goals
    exists rp18
    rw [hgx]
  ·have d1:decide (y=0)=false:=decide_eq_false h0
   have h1:0<y:=by omega
   refine ⟨true,?_,?_⟩
   ·rcases hρ with rfl | rfl
    all_goals exists d1
   rw [if_pos rfl]
   have q0:0<=x%y:=Int.emod_nonneg _ h0
   have q1:x%y<y:=Int.emod_lt_of_pos _ h1
   have hg2:Int.gcd y (x%y)=Int.gcd a b:=by
    have e:=Int.gcd_add_mul_left_left y (x%y) (x/y)
    rw [Int.emod_add_mul_ediv] at e
    rw [<- hg,Int.gcd_comm y,e]
   rcases hρ with rfl | rfl
   all_goals
    exists rp18
    exact ⟨(x%y).toNat,by omega,y,x%y,_,.inr rfl,hy,q0,hg2,rfl⟩
 obtain ⟨v,e,rfl⟩:=fin
 exact e
theorem int_at {xs:List Int} {i:Nat} {w:W} (h:(xs.map W.int)[i]?=some w):i<xs.length/\w=.int (xs.getD i 0):=by
 rw [List.getElem?_map] at h
 by_cases hi:i<xs.length
 ·rw [List.getElem?_eq_getElem hi] at h
  cases h
  exact ⟨hi,by rw [List.getD_eq_getElem?_getD,List.getElem?_eq_getElem hi]; rfl⟩
 ·rw [List.getElem?_eq_none (by omega)] at h; cases h
theorem bD {L:W} {xs:List Int} (hL:L=lI xs\/L=tI xs) (hl:xs.length<=100) (h0:∀ x∈xs,0<=x/\x<=2^400) (hp:∃ j,j<xs.length/\0<xs.getD j 0):Ok (v5 [L]) fun v=>∃ (g:Int) (ys:List Int),v=tI ys/\0<g/\ys.length=xs.length/\∀ i,i<xs.length->xs.getD i 0=g*ys.getD i 0:=by
 have hx:∀ j,j<xs.length->0<=xs.getD j 0/\xs.getD j 0<=2^400:=fun j hj=>memD h0 hj
 have e:∀ (g:Int) N mg me ρ (h:∀ x∈xs,∃ ρ1,mg (.int x) (ρ++List.replicate (N-ρ.length) Sl.un)=some ρ1/\me ρ1=.ok (.int (x/g))),k4 N mg yes me (xs.map W.int) ρ=.ok (lI (xs.map fun x=>x/g)):=fun g N mg me ρ h=>by
  rw [j7 (fun x=>W.int (x/g)) _ _ ρ (by omega) h,J4]
 rcases hL with rfl | rfl
 all_goals
  exists rpB,M7
  refine w9 (C1 (fun i ρ=>∃ (g:Nat) (y:Sl),(ρ = [.par (lI xs),.val (.int (g:Int)),y]\/ρ = [.par (tI xs),.val (.int (g:Int)),y])/\(∀ j,j<i->(g:Int)∣xs.getD j 0)/\((∃ j,j<i/\0<xs.getD j 0)->0<g)) ⟨0,_,by first | exact .inl rfl | exact .inr rfl,fun j hj=>absurd hj (Nat.not_lt_zero _),fun zz97=>by obtain ⟨j,hj,_⟩:=zz97; exact absurd hj (Nat.not_lt_zero _)⟩ ?_ ?_)
  ·rintro i u ρ hu ⟨g,y,hρ,h1,h2⟩
   obtain ⟨hi,rfl⟩:=int_at hu
   have k1:=yL (a:=(g:Int)) (b:=xs.getD i 0) (by omega) (hx i hi).1
   have fin:(∀ j,j<i+1->((Int.gcd (g:Int) (xs.getD i 0):Nat):Int)∣xs.getD j 0)/\((∃ j,j<i+1/\0<xs.getD j 0)->0<Int.gcd (g:Int) (xs.getD i 0)):=by
    refine ⟨fun j hj=>?_,fun ⟨j,hj,hp⟩=>?_⟩
    ·by_cases e:j=i
     ·subst e; exact Int.gcd_dvd_right ..
     ·exact Int.dvd_trans (Int.gcd_dvd_left ..) (h1 j (by omega))
    ·refine Nat.pos_of_ne_zero fun z=>?_
     have z:=Int.gcd_eq_zero_iff.mp z
     by_cases e:j=i
     ·subst e; omega
     ·have:=h2 ⟨j,by omega,hp⟩; omega
   rcases hρ with rfl | rfl
   all_goals
    refine ⟨_,rfl,?_⟩
    exists k1
    exact ⟨_,_,by first | exact .inl rfl | exact .inr rfl,fin⟩
  ·rintro ρ ⟨g,y,hρ,h1,h2⟩
   rw [List.length_map] at h1 h2
   have g0:=h2 hp
   obtain ⟨j,hj,hjp⟩:=hp
   have gb:(g:Int)<=2^400:=Int.le_trans (Int.le_of_dvd hjp (h1 j hj)) (hx j hj).2
   have fin:∃ (g':Int) (ys:List Int),tI (xs.map fun x=>x/(g:Int))=tI ys/\0<g'/\ys.length=xs.length/\∀ i,i<xs.length->xs.getD i 0=g'*ys.getD i 0:=by
    refine ⟨g,_,rfl,by omega,List.length_map _,fun i hi=>?_⟩
    have:(xs.map fun x=>x/(g:Int)).getD i 0=xs.getD i 0/(g:Int):=by
     rw [List.getD_eq_getElem?_getD,List.getD_eq_getElem?_getD,List.getElem?_map,List.getElem?_eq_getElem hi]; rfl
    rw [this,Int.mul_ediv_cancel' (h1 i hi)]
   rcases hρ with rfl | rfl
   all_goals
    exists rp18
    rw [e (g:Int)]
    ·exists rp18
     exact fin
    ·intro x _
     have m3:=gC (i:=x) (j:=(g:Int)) (by omega) gb
     refine ⟨_,rfl,?_⟩
     exists m3
theorem zz {xs:List Int} {n:Nat} (h:n<=xs.length):D7 xs none (some (n:Int))=xs.take n:=by
 unfold D7
 rw [HT.sIx_nat,HT.sIx_none,List.drop_zero,Nat.min_eq_left h,Nat.sub_zero]
theorem gK {xs:List Int} {n:Nat} (h:n<=xs.length):D7 xs (some (n:Int)) none=xs.drop n:=by
 unfold D7
 rw [HT.sIx_nat,HT.sIx_none,Nat.min_eq_left h,List.take_of_length_le (by rw [List.length_drop]; omega)]
theorem nY (k m:Nat) (f:Nat->Int):(vec (k+m) f).take k=vec k f:=by
 rw [aE,List.take_left' (j8 _ _)]
theorem nZ (k m:Nat) (f:Nat->Int):(vec (k+m) f).drop k=vec m fun q=>f (k+q):=by
 rw [aE,List.drop_left' (j8 _ _)]
theorem cS {n:Nat} {f:Nat->Int} {i:Nat} {v:Int}:(vec n f).set i v=vec n fun j=>if j=i then v else f j:=by
 apply List.ext_getElem
 ·simp
 ·intro j h1 h2
  have hj:j<n:=by simpa using h2
  rw [List.getElem_set]
  simp only [vec,List.getElem_map,List.getElem_range]
  by_cases e:i=j
  ·rw [if_pos e,if_pos e.symm]
  ·rw [if_neg e,if_neg fun q=>e q.symm]
theorem rep0 (n:Nat) (h:n<=100):kl true (.lst [.int 0]) (.int (n:Int))=.ok (lI (vec n fun _=>0)):=by
 rw [nq (by omega)]
 have:(List.replicate ((n:Int).toNat) [W.int 0]).flatten=(vec n fun _=>0).map W.int:=by
  rw [Int.toNat_natCast]
  apply List.ext_getElem?
  intro k
  rw [List.getElem?_map,List.getElem?_map,List.flatten_replicate_singleton]
  by_cases hk:k<n
  ·rw [List.getElem?_range hk,List.getElem?_eq_getElem (by simpa using hk)]; simp
  ·rw [List.getElem?_eq_none (by simpa using hk),List.getElem?_eq_none (by simpa using hk)]; rfl
 rw [this]
 rfl
theorem kO {n:Nat} {f:Nat->Int} {i:Nat} (h:i<n):L2.atI ((vec n f).map W.int) (i:Int)=some (.int (f i)):=by
 have:=D8 (ws:=(vec n f).map W.int) (k:=i) (w:=.int (f i)) (by rw [List.getElem?_map,List.getElem?_map,List.getElem?_range h]; rfl)
 exact this
section
variable {m n:Nat} {A:Nat->Nat->Int} {c:Nat->Int} {h:Nat->Nat} {t:Nat->Nat->Int} {o:Nat->Int} {d:Int}
theorem qz (T:Tab m n A c h t o d) {s i:Nat} (hi:i<m) (hs:h i≠s) (j:Nat):k6 (i+1) h t d s j=if j=h i then-t i s else k6 i h t d s j:=by
 unfold k6
 have e:c0 (i+1) (fun r=>if h r=j then t r s else 0)=c0 i (fun r=>if h r=j then t r s else 0)+if h i=j then t i s else 0:=rfl
 rw [e]
 by_cases q:j=h i
 ·subst q
  rw [if_pos rfl,if_pos rfl,if_neg hs,x5 fun r hr=>if_neg fun z=>by have:=T.inj (by omega) hi z; omega]
  omega
 ·rw [if_neg (show ¬ (h i=j) from fun z=>q z.symm),if_neg (show ¬ (j=h i) from q)]; omega
theorem Ak {k:Nat} {A:Nat->Nat->Int} {c:Nat->Int} (T:Tab m (k+m) A c h t o d) {s:Nat} (h1:1<=m) (hm:m<=6) (hk:k<=8) (hs:s<k+m) (ho:0<o s) (hn:∀ i,i<m->t i s<=0) (hb:∀ j,k6 m h t d s j<=2^400) (hp:∃ j,j<k/\0<k6 m h t d s j) :
  Ok (bH [lS (o8 m (k+m) t o),lI (vec m fun i=>(h i:Int)),.int (s:Int),.int d,.int (k:Int)]) fun v=>∃ (g:Int) (ys:List Int),v=tI ys/\0<g/\ys.length=k/\∀ j,j<k->k6 m h t d s j=g*ys.getD j 0:=by
 have nb:∀ i,i<m->h i≠s:=fun i hi e=>by
  have:=T.ozero hi
  rw [e] at this
  omega
 have a1:=Z4 (n:=k+m) (t:=t) (o:=o) (show 0<m by omega)
 have l1:((o8 m (k+m) t o).getD 0 []).length=k+m:=by
  rw [List.getD_eq_getElem?_getD,List.getElem?_append_left (by rw [List.length_map,List.length_range]; omega),List.getElem?_map,List.getElem?_range (by omega)]
  exact j8 _ _
 have r0:=rep0 (k+m) (by omega)
 have l2:=j8 (k+m) fun _=>0
 have he:K2 [lI (vec m fun i=>(h i:Int))]=.ok (((vec m fun i=>(h i:Int)).map W.int).mapIdx fun i x=>W.tup [.int (i:Int),x]):=rfl
 have x1:ixN (k+m) (s:Int)=some s:=by unfold ixN; rw [if_pos (by omega),if_pos (by omega),Int.toNat_natCast]
 exists rpB,gk,a1,r0,he,l1,l2,x1
 have d0:(vec (k+m) fun _=>0).set s d=vec (k+m) (k6 0 h t d s):=by
  rw [cS]
  refine List.map_congr_left fun j _=>?_
  show _=(if j=s then d else 0)+(-1)*(0:Int)
  omega
 rw [d0]
 refine w9 (C1 (fun i ρ=>∃ (x y:Sl),ρ = [.par (lS (o8 m (k+m) t o)),.par (lI (vec m fun i=>(h i:Int))),.par (.int (s:Int)),.par (.int d),.par (.int (k:Int)),.own ((vec (k+m) (k6 i h t d s)).map W.int),x,y]) ⟨_,_,rfl⟩ ?_ ?_)
 ·rintro i u ρ hu ⟨x,y,rfl⟩
  obtain ⟨hi,rfl⟩:=jf hu
  have hi:i<m:=by simpa using hi
  have ev:(vec m fun i=>(h i:Int)).getD i 0=(h i:Int):=k7 hi
  have b1:=Z4 (n:=k+m) (t:=t) (o:=o) hi
  have b2:=kO (f:=t i) hs
  have hh:=T.hn i hi
  have x2:ixN (k+m) (h i:Int)=some (h i):=by unfold ixN; rw [if_pos (by omega),if_pos (by omega),Int.toNat_natCast]
  have l3:=j8 (k+m) (k6 i h t d s)
  rw [ev]
  refine ⟨_,rfl,?_⟩
  exists b1,b2,l3,x2
  have d1:(vec (k+m) (k6 i h t d s)).set (h i) (- t i s)=vec (k+m) (k6 (i+1) h t d s):=by
   rw [cS]
   exact List.map_congr_left fun j _=>(qz T hi (nb i hi) j).symm
  rw [d1]
  exact ⟨_,_,rfl⟩
 ·rintro ρ ⟨x,y,rfl⟩
  have hl:(((vec m fun i=>(h i:Int)).map W.int).mapIdx fun i x=>W.tup [.int (i:Int),x]).length=m:=by simp
  rw [hl]
  have l4:=j8 (k+m) (k6 m h t d s)
  have c1:D7 (vec (k+m) (k6 m h t d s)) none (some (k:Int))=vec k (k6 m h t d s):=by
   rw [zz (by rw [l4]; omega),nY]
  have l5:=j8 k (k6 m h t d s)
  have kk:=bD (.inl rfl) (xs:=vec k (k6 m h t d s)) (by rw [l5]; omega) (fun z hz=>by
   obtain ⟨j,_,rfl⟩:=List.mem_map.mp hz
   exact ⟨T.dirP ho hn j,hb j⟩) (by
   obtain ⟨j,hj,hp⟩:=hp
   exact ⟨j,by rw [l5]; exact hj,by rw [k7 hj]; exact hp⟩)
  exists c1
  obtain ⟨v,e,g,ys,rfl,g0,hy,hall⟩:=kk
  exists e
  refine ⟨g,ys,rfl,g0,hy.trans l5,fun j hj=>?_⟩
  have:=hall j (by rw [l5]; exact hj)
  rw [k7 hj] at this
  exact this
theorem jE {x b:Nat->Int} {d:Int} (hm:m<=6) (hd:-(2^400)<=d/\d<=2^400) (hb:∀ j,j<m->-(2^400)<=b j/\b j<=2^400):N1 [lI (vec m x),tI (vec m b),.int d]=.ok (tI (vec m fun p=>x p+d*b p)):=by
 have hz:=O6 (lI (vec m x)) (tI (vec m b)) _ _ rfl rfl
 rw [O4 (by rw [j8,j8]),j8] at hz
 have e:∀ N mg me ρ (h:∀ j,j<m->∃ ρ1,mg (.tup [.int ((vec m x).getD j 0),.int ((vec m b).getD j 0)]) (ρ++List.replicate (N-ρ.length) Sl.un)=some ρ1/\me ρ1=.ok (.int (x j+d*b j))),k4 N mg yes me ((List.range m).map fun j=>W.tup [.int ((vec m x).getD j 0),.int ((vec m b).getD j 0)]) ρ=.ok (lI (vec m fun j=>x j+d*b j)):=fun N mg me ρ h=>by
  rw [j7 (fun j=>.int (x j+d*b j)) _ _ ρ (by simpa using (by omega:m<=1000)) (fun k hk=>h k (by simpa using hk)),J4]
 exists rpB,ag,hz
 rw [e]
 ·exists rp18
 ·intro j hj
  have b1:=A2 hd
  have b2:=A2 (hb j hj)
  have m1:fI CMulB m4 (.int d) (.int (b j))=.ok (.int (d*b j)):=U6 (by omega)
  have v1:(vec m x).getD j 0=x j:=k7 hj
  have v2:(vec m b).getD j 0=b j:=k7 hj
  rw [v1,v2]
  refine ⟨_,rfl,?_⟩
  exists m1
theorem jv {k pl:Nat} (h1:1<=m) (hm:m<=6) (hk:k<=8) (hpl:pl<m) (h0:0<d) (hd:d<=2^399) (ho:∀ j,j<k+m->o j<=0 /\ -(2^399)<=o j) :
  Ok (P9 [lS (o8 m (k+m) t o),.int (pl:Int),.int d,.int (k:Int)]) fun v=>∃ (g:Int) (ys:List Int),v=tI ys/\0<g/\ys.length=m/\∀ p,p<m ->-o (k+p)+d*(if p=pl then 1 else 0)=g*ys.getD p 0:=by
 have a1:=dQ m (k+m) t o
 have l1:=j8 (k+m) o
 have c1:D7 (vec (k+m) o) (some (k:Int)) none=vec m fun q=>o (k+q):=by
  rw [gK (by rw [l1]; omega),nZ]
 have e:∀ N mg me ρ (h:∀ q∈List.range m,∃ ρ1,mg (.int (o (k+q))) (ρ++List.replicate (N-ρ.length) Sl.un)=some ρ1/\me ρ1=.ok (.int (- o (k+q)))),k4 N mg yes me ((vec m fun q=>o (k+q)).map W.int) ρ=.ok (lI (vec m fun q =>-o (k+q))):=fun N mg me ρ h=>by
  rw [List.map_map]
  show k4 N mg yes me (List.map (fun q=>W.int (o (k+q))) (List.range m)) ρ=_
  rw [j7 (fun q=>W.int (- o (k+q))) _ _ ρ (by simp; omega) h,J4]
 have l2:=j8 m fun q =>-o (k+q)
 have ku:=ix (p:=pl) hm
 have ks:=jE (x:=fun q =>-o (k+q)) (b:=fun q=>if q=pl then 1 else 0) (d:=d) hm ⟨by omega,by omega⟩ (fun j _=>by split <;> decide)
 have l5:=j8 m fun p =>-o (k+p)+d*if p=pl then 1 else 0
 have kk:=bD (.inr rfl) (xs:=vec m fun p =>-o (k+p)+d*if p=pl then 1 else 0) (by rw [l5]; omega) (fun z hz=>by
  obtain ⟨p,hp,rfl⟩:=List.mem_map.mp hz
  have hp:p<m:=by simpa using hp
  have:=ho (k+p) (by omega)
  by_cases e:p=pl
  ·rw [if_pos e]; omega
  ·rw [if_neg e]; omega) ⟨pl,by rw [l5]; exact hpl,by
   rw [k7 hpl,if_pos rfl]
   have:=ho (k+pl) (by omega)
   omega⟩
 exists rpB,af,a1,c1
 rw [e]
 rotate_left
 ·intro q _
  refine ⟨_,rfl,?_⟩
  exists rp18
 exists l2,ku,ks
 obtain ⟨v,e,g,ys,rfl,g0,hy,hall⟩:=kk
 exists e
 refine ⟨_,rfl,g,ys,rfl,g0,hy.trans l5,fun j hj=>?_⟩
 have:=hall j (by rw [l5]; exact hj)
 rw [k7 hj] at this
 exact this
end
theorem fb {d:Int} {f:Nat->Int}:∀ {n:Nat},(∀ i,i<n->d∣f i)->d∣c0 n f
 | 0,_=>⟨0,by rw [Int.mul_zero]; rfl⟩
 | n+1,h=>Int.dvd_add (fb fun i hi=>h i (Nat.lt_succ_of_lt hi)) (h n (Nat.lt_succ_self n))
section
variable {m n:Nat} {A:Nat->Nat->Int} {c:Nat->Int} {h:Nat->Nat} {t:Nat->Nat->Int} {o:Nat->Int} {d:Int}
theorem Tab.dt (T:Tab m n A c h t o d) {r s i j:Nat} (hr:r<m) (hs:s<n) (hi:i<m) (hj:j<n):d∣t i j*t r s-t i s*t r j:=by
 by_cases e:i=r
 ·subst e
  rw [Int.mul_comm (t i j),Int.sub_self]
  exact ⟨0,by rw [Int.mul_zero]⟩
 ·exact ⟨_,(T.step hr hs hi hj e).symm⟩
theorem Tab.do_ (T:Tab m n A c h t o d) {r s j:Nat} (hr:r<m) (hs:s<n) (hj:j<n):d∣o j*t r s-o s*t r j:=by
 have e:c0 m (fun i=>c (h i)*(t i j*t r s-t i s*t r j))=t r s*c0 m (fun i=>c (h i)*t i j)+(- t r j)*c0 m (fun i=>c (h i)*t i s):=by
  rw [<- k9,<- k9,<- A9]
  refine g5 fun i _=>?_
  rw [Int.mul_sub,Int.neg_mul,<- Int.mul_assoc,<- Int.mul_assoc,Int.mul_comm (t r s),Int.mul_comm (t r j)]
  omega
 have e2:o j*t r s-o s*t r j=d*(c j*t r s-c s*t r j)-c0 m (fun i=>c (h i)*(t i j*t r s-t i s*t r j)):=by
  rw [e,T.oo j hj,T.oo s hs,Int.sub_mul,Int.sub_mul,Int.mul_sub,Int.neg_mul,<- Int.mul_assoc,<- Int.mul_assoc,Int.mul_comm (t r s) (c0 m _),Int.mul_comm (t r j) (c0 m _)]
  omega
 rw [e2]
 exact Int.dvd_sub (Int.dvd_mul_right _ _) (fb fun i hi=>Int.dvd_trans (T.dt hr hs hi hj) (Int.dvd_mul_left _ _))
theorem Tab.next (T:Tab m n A c h t o d) {r s:Nat} (hr:r<m) (hs:s<n) (hp:0<t r s):Tab m n A c (hup h r s) (pvT t r s d) (pvO t o r s d) (t r s):=
 T.pivot hr hs hp (fun j _=>if_pos rfl) (fun i hi e j hj=>by
  unfold pvT
  rw [if_neg e,Int.mul_ediv_cancel' (T.dt hr hs hi hj)]) (fun j hj=>by
  unfold pvO
  rw [Int.mul_ediv_cancel' (T.do_ hr hs hj)])
end
theorem sk {n:Nat} {f g:Nat->Int} (hf:∀ j,j<n->0<=f j) (h:0<c0 n fun j=>f j*g j):∃ j,j<n/\0<f j:=Classical.byContradiction fun q=>by
 have:c0 n (fun j=>f j*g j)=0:=x5 fun j hj=>by
  have z:f j=0:=by
   have:=hf j hj
   by_cases e:0<f j
   ·exact absurd ⟨j,hj,e⟩ q
   ·omega
  rw [z,Int.zero_mul]
 omega
structure Wts (ms:List Mv) (m pl:Nat) (w:List Int):Prop where
 len:w.length=m
 nn:∀ p,p<m->0<=w.getD p 0/\w.getD p 0<=2^300
 one:1<=w.getD pl 0
 down:∀ j,j<ms.length->c0 m (fun p=>w.getD p 0*stM ms j p)<=0
structure Bag_ (ms:List Mv) (m pl:Nat) (y:List Int):Prop where
 len:y.length=ms.length
 nn:∀ j,j<ms.length->0<=y.getD j 0/\y.getD j 0<=2^400
 up:∀ p,p<m->(if p=pl then 1 else 0)<=c0 ms.length (fun j=>y.getD j 0*stM ms j p)
inductive Cei (ms:List Mv) (m pl:Nat):W->Prop where
 | w {y:List Int}:Wts ms m pl y->Cei ms m pl (.tup [.str "weights",tI y])
 | b {y:List Int}:Bag_ ms m pl y->Cei ms m pl (.tup [.str "bag",tI y])
theorem dc {g y x B:Int} (h0:0<g) (h1:0<=x) (h2:x<=B) (e:x=g*y):0<=y/\y<=B:=by
 have y0:0<=y:=by
  by_cases q:0<=y
  ·exact q
  ·have:g*y<0:=Int.mul_neg_of_pos_of_neg h0 (by omega)
   omega
 have:1*y<=g*y:=Int.mul_le_mul_of_nonneg_right (by omega) y0
 omega
theorem eZ {n:Nat} {g:Int} {x y z:Nat->Int} (e:∀ j,j<n->x j=g*y j):c0 n (fun j=>x j*z j)=g*c0 n (fun j=>y j*z j):=by
 rw [<- k9]
 exact g5 fun j hj=>by rw [e j hj,Int.mul_assoc]
theorem gc {g y:Int} (h0:0<g) (h:g*y<=0):y<=0:=by
 by_cases q:y<=0
 ·exact q
 ·have:=Int.mul_pos h0 (show 0<y by omega)
  omega
theorem pD {g y:Int} (h0:0<g) (h:0<=g*y):0<=y:=by
 by_cases q:0<=y
 ·exact q
 ·have:=Int.mul_neg_of_pos_of_neg h0 (show y<0 by omega)
  omega
theorem bx {g y:Int} (h0:0<g) (h:0<g*y):0<y:=by
 by_cases q:0<y
 ·exact q
 ·have:=Int.mul_nonneg (Int.le_of_lt h0) (show 0 <=-y by omega)
  rw [Int.mul_neg] at this
  omega
theorem kB {ms:List Mv} {m pl:Nat} (h1:1<=m) (h6:m<=6) (hms:∀ x∈ms,okN m x) (h8:ms.length<=8) (hpl:pl<m) (hB:∀ j,j<ms.length->∀ p,p<m->-mM<=stM ms j p/\stM ms j p<=mM):Ok (av [tM_ ms,.int (pl:Int),.int (m:Int)]) (Cei ms m pl):=by
 have C:=Bm ms m pl
 have hA:∀ j,j<ms.length+m->∀ p,p<m->-mM<=cA ms j p/\cA ms j p<=mM:=fun j hj p hp=>by
  unfold cA
  by_cases q:j<ms.length
  ·rw [if_pos q]
   have:=hB j q p hp
   omega
  ·rw [if_neg q]
   split <;> decide
 have hc:∀ j,j<ms.length+m->-mM<=cC ms pl j/\cC ms pl j<=mM:=fun j hj=>by
  unfold cC
  by_cases q:j<ms.length
  ·rw [if_pos q]; exact hB j q pl hpl
  ·rw [if_neg q]; decide
 have kf:=qq h1 h6 hms h8 hpl
 have S0:∃ S:TB m (ms.length+m) (cA ms) (cC ms pl),S.h=(fun i=>ms.length+i)/\S.t=(fun i j=>cA ms j i)/\S.o=cC ms pl/\S.d=1:=⟨⟨_,_,_,1,C.first⟩,rfl,rfl,rfl,rfl⟩
 obtain ⟨S0,s1,s2,s3,s4⟩:=S0
 have e:∀ N mg me ρ (h:∀ i∈List.range m,∃ ρ1,mg (.int (i:Nat)) (ρ++List.replicate (N-ρ.length) Sl.un)=some ρ1/\me ρ1=.ok (.int ((ms.length:Int)+(i:Int)))),k4 N mg yes me ((List.range m).map fun i=>W.int (i:Nat)) ρ=.ok (lI (vec m fun i=>(S0.h i:Int))):=fun N mg me ρ h=>by
  rw [j7 (fun (i:Nat)=>W.int ((ms.length:Int)+(i:Int))) _ _ ρ (by simp; omega) h,J4,s1]
  congr 2
 have kf:F3 [tM_ ms,.int (pl:Int),.int (m:Int)]=.ok (lS (o8 m (ms.length+m) S0.t S0.o)):=by rw [s2,s3]; exact kf
 have hn:ms.length+m<=100:=by omega
 have kc:∀ S:TB m (ms.length+m) (cA ms) (cC ms pl),∃ w,Q3 [lS (o8 m (ms.length+m) S.t S.o)]=.ok w/\G9 w=.val w/\Com (ms.length+m) S.o w:=fun S=>by
  obtain ⟨w,ew,hw⟩:=nD (t:=S.t) (o:=S.o) h6 hn
  exact ⟨w,ew,by cases hw <;> rfl,hw⟩
 exists rpB,dZ,kf
 rw [e]
 rotate_left
 ·intro i _
  refine ⟨_,rfl,?_⟩
  exists rp18
 obtain ⟨w,ew,hs,hw⟩:=kc S0
 exists ew,hs
 refine w9 (P4 ?_)
 refine W3 (fun M ρ=>∃ (L:Nat) (S:TB m (ms.length+m) (cA ms) (cC ms pl)) (w:W) (z:Sl),ρ = [.par (tM_ ms),.par (.int (pl:Int)),.par (.int (m:Int)),.own ((o8 m (ms.length+m) S.t S.o).map tI),.own ((vec m fun i=>(S.h i:Int)).map W.int),.val (.int S.d),.val w,z]/\Run S0 L S/\Com (ms.length+m) S.o w/\M=2^(ms.length+m)-L) ?_ _ _ ⟨0,S0,w,.un,by rw [s4],.zero,hw,rfl⟩
 rintro M ρ ⟨L,S,w,z,rfl,hrun,hw,hM⟩
 have T:=S.ok
 have hd:=T.bd h6 hA
 have ht:=T.bt h6 hA
 have ho:=T.bo h6 hA hc
 have hL:=hrun.lt
 cases hw with
 | none hall=>
  refine ⟨false,?_,?_⟩
  ·exists rp18
  rw [if_neg (by decide)]
  have kw:=jv (k:=ms.length) (t:=S.t) (o:=S.o) (d:=S.d) h1 h6 h8 hpl T.dp (Int.le_trans hd (by decide)) fun j hj=>⟨hall j hj,Int.le_trans (by decide) (ho j hj).1⟩
  obtain ⟨v,ev,g,ys,rfl,g0,hy,hall2⟩:=kw
  exists ev
  refine .w ⟨hy,fun p hp=>?_,?_,fun j hj=>?_⟩
  ·refine dc g0 (x :=-S.o (ms.length+p)+S.d*(if p=pl then 1 else 0)) ?_ ?_ (hall2 p hp)
   ·have:=hall (ms.length+p) (by omega)
    have:=T.dp
    by_cases q:p=pl
    ·rw [if_pos q]; omega
    ·rw [if_neg q]; omega
   ·have:=ho (ms.length+p) (by omega)
    have k1:(2:Int)^240+2^197<=2^300:=by decide
    by_cases q:p=pl
    ·rw [if_pos q]; omega
    ·rw [if_neg q]; omega
  ·have e:=hall2 pl hpl
   rw [if_pos rfl] at e
   have:=hall (ms.length+pl) (by omega)
   have:=T.dp
   exact bx g0 (by omega)
  ·have e:=C.weights T hpl hj
   rw [eZ (y:=fun p=>ys.getD p 0) hall2] at e
   exact gc g0 (by rw [e]; exact hall j (by omega))
 | @some s hs hos hless=>
  refine ⟨true,?_,?_⟩
  ·exists rp18
  rw [if_pos rfl]
  obtain ⟨v,ev,hv⟩:=jY (t:=S.t) (o:=S.o) (h:=S.h) h6 hn hs
  cases hv with
  | none hle=>
   have dy:∀ j,k6 m S.h S.t S.d s j<=2^400:=fun j=>by
    have nb:∀ i,i<m->S.h i≠s:=fun i hi e=>by
     have:=T.ozero hi
     rw [e] at this
     omega
    have k1:(2:Int)^197<=2^400:=by decide
    by_cases js:j=s
    ·subst js
     rw [Tab.dirS nb]; omega
    ·by_cases jb:∃ i,i<m/\S.h i=j
     ·obtain ⟨i,hi,e⟩:=jb
      have e2:=T.dirB (s:=s) hi (nb i hi)
      rw [e] at e2
      have:=ht i hi s hs
      omega
     ·rw [Tab.dirN (fun i hi e=>jb ⟨i,hi,e⟩) js]
      decide
   obtain ⟨b1,b2⟩:=C.bag T hs
   have dp:=T.dirP hos hle
   have kb:=Ak T h1 h6 h8 hs hos hle dy (sk (g:=fun j=>stM ms j pl) (fun j _=>dp j) (by rw [b2]; exact hos))
   obtain ⟨v,ev2,g,ys,rfl,g0,hy,hall2⟩:=kb
   exists ev,ev2
   refine .b ⟨hy,fun j hj=>dc g0 (dp j) (dy j) (hall2 j hj),fun p hp=>?_⟩
   have e1:=b1 p hp
   have e2:=b2
   rw [eZ (y:=fun j=>ys.getD j 0) hall2] at e1 e2
   by_cases q:p=pl
   ·subst q
    rw [if_pos rfl]
    exact bx g0 (by rw [e2]; exact hos)
   ·rw [if_neg q]
    exact pD g0 (by rw [e1]; exact dp _)
  | @some r hlv=>
   have T2:=T.next hlv.lt hs hlv.pos
   have kp:=jO (t:=S.t) (o:=S.o) (d:=S.d) h6 hn hlv.lt hs (fun i hi j hj=>by
    have:=ht i hi j hj
    have k1:(2:Int)^197<=2^240:=by decide
    omega) ho T.dp (Int.le_trans hd (by decide))
   obtain ⟨S',q1,q2,q3,q4⟩:∃ S':TB m (ms.length+m) (cA ms) (cC ms pl),S'.h=hup S.h r s/\S'.t=pvT S.t r s S.d/\S'.o=pvO S.t S.o r s S.d/\S'.d=S.t r s:=⟨⟨_,_,_,_,T2⟩,rfl,rfl,rfl,rfl⟩
   have kp:S5 [lS (o8 m (ms.length+m) S.t S.o),.int (r:Int),.int (s:Int),.int S.d]=.ok (lS (o8 m (ms.length+m) S'.t S'.o)):=by rw [q2,q3]; exact kp
   obtain ⟨w,ew,hsw,hw⟩:=kc S'
   have a1:=Z4 (n:=ms.length+m) (t:=S'.t) (o:=S'.o) hlv.lt
   have a2:=kO (f:=S'.t r) hs
   have a3:S'.t r s=S'.d:=by rw [q2,q4]; exact if_pos rfl
   have x2:ixN m (r:Int)=some r:=by
    have:=hlv.lt
    unfold ixN; rw [if_pos (by omega),if_pos (by omega),Int.toNat_natCast]
   have l3:=j8 m fun i=>(S.h i:Int)
   have d1:(vec m fun i=>(S.h i:Int)).set r (s:Int)=vec m fun i=>(S'.h i:Int):=by
    rw [cS,q1]
    refine List.map_congr_left fun i _=>?_
    show (if i=r then (s:Int) else (S.h i:Int))=((hup S.h r s i:Nat):Int)
    unfold hup
    by_cases e:i=r
    ·rw [if_pos e,if_pos e]
    ·rw [if_neg e,if_neg e]
   have mv:Mv_ S S' s (S.h r):=⟨hs,hos,hless,r,hlv.lt,rfl,hlv.pos,hlv.least,q1⟩
   exists ev,kp,l3,x2,a1,a2,a3,ew,hsw,d1
   exact ⟨2^(ms.length+m)-(L+1),by omega,L+1,S',w,_,rfl,.succ hrun mv,hw,rfl⟩
def okB (n:Nat) (m:Mv):Prop:=okN n m/\(∀ x∈m.1,x<=2000000000)/\(∀ x∈m.2,x<=2000000000)
theorem kY {n:Nat} {ms:List Mv} (h:∀ m∈ms,okB n m) {j p:Nat} (hj:j<ms.length) (hp:p<n):-mM<=stM ms j p/\stM ms j p<=mM:=by
 have hm:=h _ (List.getElem_mem hj)
 have e:ms.getD j ([],[])=ms[j]:=by rw [List.getD_eq_getElem?_getD,List.getElem?_eq_getElem hj]; rfl
 unfold stM
 rw [e]
 have a1:=rs hm.1.2.2.1 p
 have a2:=rs hm.1.2.2.2 p
 have b1:=memD hm.2.1 (i:=p) (by rw [hm.1.1]; exact hp)
 have b2:=memD hm.2.2 (i:=p) (by rw [hm.1.2.1]; exact hp)
 show -(2000000000:Int)<=_/\_<=(2000000000:Int)
 omega
theorem bM {ns:List Int} {k:Int}:Ok (A6 [.scr (ns.map W.int),.int k]) fun w=>∃ z:Int,w=.int z:=by
 by_cases hl:0<(ns.length:Int)
 ·have m0:0<=k%(ns.length:Int):=Int.emod_nonneg _ (by omega)
  have m1:k%(ns.length:Int)<(ns.length:Int):=Int.emod_lt_of_pos _ hl
  exists rpB,L3,decide_eq_true hl
  exact ⟨_,rfl,_,rfl⟩
 ·exists rpB,L3,decide_eq_false hl
  exact ⟨_,rfl,_,rfl⟩
theorem sqk {k:Int} (h0:0<=k) (h1:k<=1000):0<=k*k/\k*k<=1000000:=⟨Int.mul_nonneg h0 h0,by
 have:=Int.mul_le_mul h1 h1 h0 (by omega:(0:Int)<=1000)
 omega⟩
theorem C2 {ns:List Int} {k m:Int} (h0:0<=k) (h1:k<=1000) (hm:0<m):Ok (l7 [.scr (ns.map W.int),.int k,.int m]) fun w=>∃ z:Int,w=.int z/\0<=z/\z<m:=by
 obtain ⟨_,e1,c,rfl⟩:=bM (ns:=ns) (k:=k)
 have:=sqk h0 h1
 exists rpB,aX,e1
 exact ⟨_,rfl,_,rfl,Int.emod_nonneg _ (by omega),Int.emod_lt_of_pos _ hm⟩
theorem iT {xs:List Int} {z:Int} (h:nn xs) (hz:0<=z):nn (xs ++ [z]):=fun x hx=>by
 rcases List.mem_append.mp hx with q | q
 ·exact h x q
 ·rw [List.mem_singleton.mp q]; exact hz
theorem jp {xs:List Int} {z B:Int} (h:∀ x∈xs,x<=B) (hz:z<=B):∀ x∈xs ++ [z],x<=B:=fun x hx=>by
 rcases List.mem_append.mp hx with q | q
 ·exact h x q
 ·rw [List.mem_singleton.mp q]; exact hz
theorem W5 {ns mn:List Int} {a s:Int} {n:Nat} (hn:n<=6) (ha:0<=a) (ha1:a<=300) (hs0:0<=s) (hs1:s<=100000001) (hml:0<mn.length) (hmn:nn mn) (hm3:∀ x∈mn,x<=3):Ok (o7 [.scr (ns.map W.int),.int a,.int (n:Int),lI mn,.int s]) fun w=>∃ xs:List Int,w=tI xs/\xs.length=n/\nn xs/\∀ x∈xs,x<=1000000000:=by
 exists rpB,U7
 refine w9 (C1 (fun i ρ=>∃ (xs:List Int) (a6 a7:Sl),ρ = [.par (.scr (ns.map W.int)),.par (.int a),.par (.int (n:Int)),.par (lI mn),.par (.int s),.own (xs.map W.int),a6,a7]/\xs.length=i/\nn xs/\∀ x∈xs,x<=1000000000) ⟨[],_,_,rfl,rfl,fun x hx=>(by cases hx),fun x hx=>(by cases hx)⟩ ?_ ?_)
 ·rintro i u ρ hu ⟨xs,a6,a7,rfl,hxl,hxn,hxb⟩
  obtain ⟨hi,rfl⟩:=fu hu
  obtain ⟨_,e1,d,rfl,hd0,hd1⟩:=C2 (ns:=ns) (k:=a+(i:Int)) (m:=(mn.length:Int)) (by omega) (by omega) (by omega)
  obtain ⟨_,e2,c,rfl⟩:=bM (ns:=ns) (k:=a+(i:Int))
  have hh:0<=mn.getD d.toNat 0:=mem_getD hmn (by omega)
  have h3:mn.getD d.toNat 0<=3:=mem_getD (P:=fun x=>x<=3) hm3 (by omega)
  refine ⟨_,rfl,?_⟩
  exists e1
  generalize mn.getD d.toNat 0=held at hh h3
  refine fG (fun h=>?_) (fun h=>?_)
  ·exists rp18
   rw [e2]
   exists rp18
   exact ⟨xs ++ [(c+(i:Int))*48271%1000000001],_,_,by rw [List.map_append],by simp [hxl],iT hxn (by omega),jp hxb (by omega)⟩
  ·exists rp18
   exact ⟨xs ++ [held*s],_,_,by rw [List.map_append],by simp [hxl],iT hxn (Int.mul_nonneg hh hs0),jp hxb (by
    have:=Int.mul_le_mul h3 hs1 hs0 (by omega:(0:Int)<=3)
    omega)⟩
 ·rintro ρ ⟨xs,a6,a7,rfl,hxl,hxn,hxb⟩
  rw [List.length_map,List.length_range] at hxl
  exists rp18
  exact ⟨xs,rfl,hxl,hxn,hxb⟩
theorem oE {ns:List Int}:Ok (Q4 [.scr (ns.map W.int)]) fun w=>∃ z:Int,w=.int z/\0<=z/\z<=100000001:=by
 obtain ⟨_,e1,d,rfl,hd0,hd1⟩:=C2 (ns:=ns) (k:=2) (m:=8) (by omega) (by omega) (by omega)
 obtain ⟨_,e2,c,rfl⟩:=bM (ns:=ns) (k:=2)
 exists rpB,aj,e1
 refine w9 (fG (fun h=>?_) (fun h=>?_))
 ·exists rp18
  exact ⟨_,rfl,by omega,by omega⟩
 exists rp18
 refine fG (fun h=>?_) (fun h=>?_)
 ·exists e2
  exact ⟨_,rfl,by omega,by omega⟩
 ·exists rp18
  exact ⟨_,rfl,by omega,by omega⟩
theorem dm {l:List Int} {lo hi:Nat} (hl:∀ x∈l,(lo:Int)<=x/\x<=(hi:Int)) {d:Int} (h0:0<=d) (h:d<l.length):∃ p:Nat,L2.atI (l.map W.int) d=some (.int (p:Int))/\lo<=p/\p<=hi:=by
 obtain ⟨a,b⟩:=mem_getD (P:=fun x=>(lo:Int)<=x/\x<=(hi:Int)) hl (i:=d.toNat) (by omega)
 exact ⟨(l.getD d.toNat 0).toNat,by rw [atW h0 h,Int.toNat_of_nonneg (by omega)],by omega,by omega⟩
theorem pl8 {d:Int} (h0:0<=d) (h:d<8):∃ p:Nat,L2.atI [W.int 2,W.int 3,W.int 1,W.int 5,W.int 3,W.int 4,W.int 2,W.int 6] d=some (.int (p:Int))/\(1<=p/\p<=6):=dm (l:=[2,3,1,5,3,4,2,6]) (by decide) h0 h
theorem mv11 {d:Int} (h0:0<=d) (h:d<11):∃ p:Nat,L2.atI [W.int 3,W.int 2,W.int 4,W.int 1,W.int 3,W.int 5,W.int 2,W.int 8,W.int 0,W.int 6,W.int 7] d=some (.int (p:Int))/\p<=8:=by
 obtain ⟨p,e,_,q⟩:=dm (l:=[3,2,4,1,3,5,2,8,0,6,7]) (lo:=0) (hi:=8) (by decide) h0 h
 exact ⟨p,e,q⟩
theorem tm4 {d:Int} (h0:0<=d) (h:d<4):∃ p:Nat,L2.atI [W.int 1,W.int 1,W.int 7,W.int 1000000] d=some (.int (p:Int))/\p<=1000000:=by
 obtain ⟨p,e,_,q⟩:=dm (l:=[1,1,7,1000000]) (lo:=0) (hi:=1000000) (by decide) h0 h
 exact ⟨p,e,q⟩
theorem uQ {xs ys:List Int} (h:xs.length+ys.length<=1000):fCatT (tI xs) (tI ys)=.ok (tI (xs++ys)):=by
 show (if (xs.map W.int).length+(ys.map W.int).length<=1000/\g4 (xs.map W.int)=true/\g4 (ys.map W.int)=true then _ else _)=_
 rw [if_pos ⟨by rw [List.length_map,List.length_map]; exact h,v4 xs,v4 ys⟩,<- List.map_append]
theorem dl {l:List Int} (h:l.all (fun x=>decide (0<=x))=true):nn l:=fun x hx=>of_decide_eq_true (List.all_eq_true.mp h x hx)
theorem ql {ns:List Int}:Ok (S9 [.scr (ns.map W.int)]) fun w=>∃ (b:List Int) (ms:List Mv),w=.tup [tI b,tM_ ms]/\1<=b.length/\b.length<=6/\nn b/\(∀ m∈ms,okB b.length m)/\ms.length<=8:=by
 obtain ⟨_,e0,d0,rfl,h00,h01⟩:=C2 (ns:=ns) (k:=0) (m:=8) (by omega) (by omega) (by omega)
 obtain ⟨_,e1,d1,rfl,h10,h11⟩:=C2 (ns:=ns) (k:=1) (m:=11) (by omega) (by omega) (by omega)
 obtain ⟨_,e3,d3,rfl,h30,h31⟩:=C2 (ns:=ns) (k:=3) (m:=3) (by omega) (by omega) (by omega)
 obtain ⟨_,e4,d4,rfl,h40,h41⟩:=C2 (ns:=ns) (k:=4) (m:=4) (by omega) (by omega) (by omega)
 obtain ⟨_,es,sc,rfl,hs0,hs1⟩:=oE (ns:=ns)
 obtain ⟨p,hp,hp1,hp6⟩:=pl8 h00 h01
 obtain ⟨q,hq,hq8⟩:=mv11 h10 h11
 obtain ⟨tm,htm,htm6⟩:=tm4 h40 h41
 exists rpB,aW,e0,hp,es,e1,hq
 refine w9 (C1 (fun i ρ=>∃ (ms:List Mv) (a4 a5 a6 a7 a8:Sl),ρ = [.par (.scr (ns.map W.int)),.val (.int (p:Int)),.val (.int sc),.own (ms.map mW),a4,a5,a6,a7,a8,.un,.un]/\(∀ m∈ms,okB p m)/\ms.length=i) ⟨[],_,_,_,_,_,rfl,by simp,rfl⟩ ?_ ?_)
 ·rintro i u ρ hu ⟨ms,a4,a5,a6,a7,a8,rfl,hms,hml⟩
  obtain ⟨hi,rfl⟩:=fu hu
  have hpr:0<=(p:Int)*(2*(i:Int)+1)/\(p:Int)*(2*(i:Int)+1)<=6*17:=⟨Int.mul_nonneg (by omega) (by omega),Int.mul_le_mul (by omega) (by omega) (by omega) (by omega)⟩
  obtain ⟨_,e5,t,rfl,htl,htn,htb⟩:=W5 (ns:=ns) (mn:=[0,1,0,2,1,0]) (a:=5+(p:Int)*(2*(i:Int)+1)) (s:=sc) hp6 (by omega) (by omega) hs0 hs1 (by decide) (dl (by decide)) (by decide)
  obtain ⟨_,e6,u,rfl,hul,hun,hub⟩:=W5 (ns:=ns) (mn:=[1,0,0,1,2,0]) (a:=5+(p:Int)*(2*(i:Int)+1)+(p:Int)) (s:=sc) hp6 (by omega) (by omega) hs0 hs1 (by decide) (dl (by decide)) (by decide)
  obtain ⟨_,e7,fr,rfl,hf0,hf1⟩:=C2 (ns:=ns) (k:=5+(p:Int)*(2*(i:Int)+1)+(p:Int)) (m:=(p:Int)) (by omega) (by omega) (by omega)
  have e5:o7 [.scr (ns.map W.int),.int (5+(p:Int)*(2*(i:Int)+1)),.int (p:Int),.lst [.int 0,.int 1,.int 0,.int 2,.int 1,.int 0],.int sc]=.ok (tI t):=e5
  have e6:o7 [.scr (ns.map W.int),.int (5+(p:Int)*(2*(i:Int)+1)+(p:Int)),.int (p:Int),.lst [.int 1,.int 0,.int 0,.int 1,.int 2,.int 0],.int sc]=.ok (tI u):=e6
  refine ⟨_,rfl,?_⟩
  exists e5,e6,e3
  generalize 5+(p:Int)*(2*(i:Int)+1)=at_ at *
  refine lQ (fun ρ=>∃ (v:List Int) (a8:Sl),ρ = [.par (.scr (ns.map W.int)),.val (.int (p:Int)),.val (.int sc),.own (ms.map mW),.par (.int (i:Int)),.val (.int at_),.val (tI t),.val (tI v),a8,.un,.un]/\v.length=p/\nn v/\∀ x∈v,x<=1000000000) ?_ ?_
  ·refine cf (fun h=>?_) (fun h=>?_)
   ·have lc1:(D7 t (some fr) none).length+(D7 t none (some fr)).length=p:=by
     obtain ⟨f,rfl⟩:∃ f:Nat,fr=(f:Int):=⟨fr.toNat,by omega⟩
     unfold D7
     rw [HT.sIx_nat,HT.sIx_none,HT.sIx_none,HT.sIx_nat,List.length_take,List.length_drop,List.length_take,List.length_drop]
     omega
    have ec:=uQ (xs:=D7 t (some fr) none) (ys:=D7 t none (some fr)) (by omega)
    exists e7,ec
    refine ⟨_,_,rfl,by rw [List.length_append]; exact lc1,fun x hx=>?_,fun x hx=>?_⟩
    ·rcases List.mem_append.mp hx with q | q
     ·exact X5 htn x q
     ·exact X5 htn x q
    ·rcases List.mem_append.mp hx with q | q
     ·exact X5 (P:=fun x=>x<=1000000000) htb x q
     ·exact X5 (P:=fun x=>x<=1000000000) htb x q
   ·exists rp18
    exact ⟨u,_,rfl,hul,hun,hub⟩
  rintro ρ ⟨v,a8,rfl,hvl,hvn,hvb⟩
  exists rp18
  refine ⟨ms ++ [(t,v)],_,_,_,_,_,by rw [List.map_append]; rfl,fun m hm=>?_,by simp [hml]⟩
  rcases List.mem_append.mp hm with q | q
  ·exact hms m q
  ·rw [List.mem_singleton.mp q]; exact ⟨⟨htl,hvl,htn,hvn⟩,fun x hx=>Int.le_trans (htb x hx) (by decide),fun x hx=>Int.le_trans (hvb x hx) (by decide)⟩
 ·rintro ρ ⟨ms,a4,a5,a6,a7,a8,rfl,hms,hml⟩
  rw [List.length_map,List.length_range] at hml
  obtain ⟨_,e5,t,rfl,htl,htn,htb⟩:=W5 (ns:=ns) (mn:=[1,0,2,1,3,0]) (a:=5) (s:=sc) hp6 (by omega) (by omega) hs0 hs1 (by decide) (dl (by decide)) (by decide)
  have e5:o7 [.scr (ns.map W.int),.int 5,.int (p:Int),.lst [.int 1,.int 0,.int 2,.int 1,.int 3,.int 0],.int sc]=.ok (tI t):=e5
  have e:∀ N mg me ρ (h:∀ x∈t,∃ ρ1,mg (.int x) (ρ++List.replicate (N-ρ.length) Sl.un)=some ρ1/\me ρ1=.ok (.int (x*(tm:Int)))),k4 N mg yes me (t.map W.int) ρ=.ok (lI (t.map fun x=>x*(tm:Int))):=fun N mg me ρ h=>by
   rw [j7 (fun x=>W.int (x*(tm:Int))) _ _ ρ (by omega) h,J4]
  exists e4,htm,e5
  rw [e]
  ·exists aS (xM ms),Q7 (U4 (t.map fun x=>x*(tm:Int)))
   have hbl:(t.map fun x=>x*(tm:Int)).length=p:=by rw [List.length_map]; exact htl
   refine ⟨t.map fun x=>x*(tm:Int),ms,rfl,by omega,by omega,fun x hx=>?_,by rw [hbl]; exact hms,by omega⟩
   obtain ⟨y,hy,rfl⟩:=List.mem_map.mp hx
   exact Int.mul_nonneg (htn y hy) (by omega)
  ·intro x hx
   refine ⟨_,rfl,?_⟩
   exists rp18
theorem yI (p:Int):∀ qs:List Int,dr (.int p) (qs.map W.int)=qs.findIdx? fun q=>decide (q=p)
 | []=>rfl
 | q::qs=>by
  have g:=yI p qs
  have e:PyData.eqv (pd (.int q)) (pd (.int p))=decide (q=p):=by
   have:=eqI [q] [p]
   simpa [pds,PyData.eqvAll] using this
  unfold dr at g ⊢
  rw [List.map_cons,pds,List.findIdx?_cons,List.findIdx?_cons,g,e]
theorem yH {A B:List Int} {q:Int} (hq:q∉A) (hl:(A++q::B).length<=500):gw ((A++q::B).map W.int) (.int q)=.ok (.int (A.length:Int)):=by
 have e:(A++q::B).findIdx? (fun x=>decide (x=q))=some A.length:=by
  rw [List.findIdx?_eq_some_iff_getElem]
  refine ⟨by rw [List.length_append,List.length_cons]; omega,by simp,fun j hj=>?_⟩
  have hjA:A[j]'hj≠q:=fun h=>hq (h ▸ List.getElem_mem _)
  rw [List.getElem_append_left hj]
  simpa using hjA
 unfold gw
 rw [T9,fj,Bool.and_self,if_pos rfl,yI,e]
 exact if_pos (by rw [List.length_append,List.length_cons] at hl; omega)
inductive Bt (es:List Ent) (k:Nat):Nat->List Nat->Prop where
 | self:Bt es k k []
 | step {i:Nat} {e:Ent} {pn:List Nat}:es[i]?=some e->k<i+1->Bt es k e.2.1 pn->Bt es k (i+1) (i::pn)
def mo (es:List Ent) (i:Nat):Int:=((es.getD i ([],0,0)).2.2:Int)
def rwB (es:List Ent) (pn:List Nat):List Int:=pn.reverse.map (mo es)
theorem Pt.le {es:List Ent} (hp:∀ (i:Nat) (e:Ent),es[i]?=some e->e.2.1<=i):∀ {n:Nat} {l r:List Int},Pt es n l r->∀ x∈l,0<=x/\x<=(n:Int)
 | _,_,_,.zero=>fun x hx=>by rw [List.mem_singleton.mp hx]; decide
 | _,_,_,.succ h p=>fun x hx=>by
  have:=hp _ _ h
  rcases List.mem_cons.mp hx with q | q
  ·omega
  ·have:=Pt.le hp p x q
   omega
theorem Pt.head {es:List Ent} (hp:∀ (i:Nat) (e:Ent),es[i]?=some e->e.2.1<=i) {n:Nat} {l r:List Int} (p:Pt es n l r):∃ t,l=(n:Int)::t/\∀ x∈t,0<=x/\x<(n:Int):=by
 cases p with
 | zero=>exact ⟨[],rfl,fun x hx=>by cases hx⟩
 | @succ i e l r h p=>
  refine ⟨l,rfl,fun x hx=>?_⟩
  have:=Pt.le hp p x hx
  have:=hp _ _ h
  omega
theorem Pt.split {es:List Ent} (hp:∀ (i:Nat) (e:Ent),es[i]?=some e->e.2.1<=i):∀ {n:Nat} {l r:List Int},Pt es n l r->∀ {a:Int},a∈l->∃ (k:Nat) (l1 r1:List Int) (pn:List Nat),a=(k:Int)/\k<=n/\Pt es k l1 r1/\l=(pn.map fun (i:Nat)=>((i+1:Nat):Int))++l1/\Bt es k n pn/\(∀ i∈pn,i<es.length)
 | _,_,_,.zero,a,ha=>⟨0,_,_,[],List.mem_singleton.mp ha,Nat.le_refl _,.zero,rfl,.self,fun i hi=>by cases hi⟩
 | _,_,_,.succ (i:=i) (e:=e) h p,a,ha=>by
  by_cases q:a=((i+1:Nat):Int)
  ·exact ⟨i+1,_,_,[],q,Nat.le_refl _,.succ h p,rfl,.self,fun i hi=>by cases hi⟩
  ·have ha:a∈_:=(List.mem_cons.mp ha).resolve_left q
   obtain ⟨k,l1,r1,pn,e1,e2,e3,e4,e5,e6⟩:=Pt.split hp p ha
   have:=hp _ _ h
   refine ⟨k,l1,r1,i::pn,e1,by omega,e3,by rw [e4]; rfl,.step h (by omega) e5,fun j hj=>?_⟩
   rcases List.mem_cons.mp hj with rfl | hj
   ·exact (List.getElem?_eq_some_iff.mp h).1
   ·exact e6 j hj
theorem ft {b:List Int} {es:List Ent} {n k:Nat} {l r l1 r1:List Int} {pn:List Nat} (hp:∀ (i:Nat) (e:Ent),es[i]?=some e->e.2.1<=i) (hl:es.length<=100) (hn:n<=es.length) (p:Pt es n l r) (p1:Pt es k l1 r1) (hs:l=(pn.map fun (i:Nat)=>((i+1:Nat):Int))++l1) (hpn:∀ i∈pn,i<es.length):B8 [.lst (i7 b es),.int (k:Int),.int (n:Int)]=.ok (lI (rwB es pn)):=by
 have k1:=iu (b:=b) hp hl hn p
 have hll:=Pt.len hp p
 obtain ⟨t,ht,htl⟩:=p1.head hp
 have hrev:l.reverse=t.reverse++(k:Int)::(pn.reverse.map fun (i:Nat)=>((i+1:Nat):Int)):=by
  rw [hs,ht,List.reverse_append,List.reverse_cons,List.append_assoc,List.map_reverse]; rfl
 have hlen:(t.reverse++(k:Int)::(pn.reverse.map fun (i:Nat)=>((i+1:Nat):Int))).length<=500:=by
  rw [<- hrev,List.length_reverse]; omega
 have k2:kj [.lst (i7 b es),.int (n:Int)]=.ok (lI l.reverse):=by
  exists rpB,rB,k1
 rw [hrev] at k2
 have hix:=yH (A:=t.reverse) (B:=pn.reverse.map fun (i:Nat)=>((i+1:Nat):Int)) (q:=(k:Int)) (fun h=>by have:=htl _ (List.mem_reverse.mp h); omega) hlen
 have hcut:D7 (t.reverse++(k:Int)::(pn.reverse.map fun (i:Nat)=>((i+1:Nat):Int))) (some ((t.reverse.length:Int)+1)) none=pn.reverse.map fun (i:Nat)=>((i+1:Nat):Int):=by
  have:=gK (xs:=t.reverse++(k:Int)::(pn.reverse.map fun (i:Nat)=>((i+1:Nat):Int))) (n:=t.reverse.length+1) (by rw [List.length_append,List.length_cons]; omega)
  rw [show ((t.reverse.length:Int)+1)=((t.reverse.length+1:Nat):Int) by omega,this,List.drop_append,List.drop_eq_nil_of_le (by omega)]
  simp
 have hpl:pn.length<=500:=by
  rw [List.length_append,List.length_cons,List.length_map,List.length_reverse] at hlen
  rw [List.length_reverse] at hlen
  omega
 have e:∀ N mg me ρ,(∀ i∈pn.reverse,∃ ρ1,mg (.int ((i+1:Nat):Int)) (ρ++List.replicate (N-ρ.length) Sl.un)=some ρ1/\me ρ1=.ok (.int (mo es i)))->k4 N mg yes me ((pn.reverse.map fun (i:Nat)=>((i+1:Nat):Int)).map W.int) ρ=.ok (lI (rwB es pn)):=fun N mg me ρ h=>by
  rw [List.map_map]
  refine (j7 (fun i=>W.int (mo es i)) (W.int∘fun (i:Nat)=>((i+1:Nat):Int)) pn.reverse ρ (by rw [List.length_reverse]; omega) h).trans ?_
  unfold rwB
  rw [J4]
 generalize hg:t.reverse++(k:Int)::(pn.reverse.map fun (i:Nat)=>((i+1:Nat):Int))=g at *
 exists rpB,Y0,k2,hix,hcut
 rw [e]
 ·exists rp18
 ·intro i hi
  have hil:=hpn i (List.mem_reverse.mp hi)
  have hg:es[i]?=some (es.getD i ([],0,0)):=by rw [List.getD_eq_getElem?_getD,List.getElem?_eq_getElem hil]; rfl
  have r1:=iF (b:=b) hg
  unfold mo
  generalize es.getD i ([],0,0)=e at r1
  have b2:L2.atI [tI e.1,.int (e.2.1:Int),.int (e.2.2:Int)] 2=some (.int (e.2.2:Int)):=rfl
  refine ⟨_,rfl,?_⟩
  exists r1,b2
section
variable {b:List Int} {es:List Ent} (L R:Nat->List Int)
def F_ (b:List Int) (es:List Ent) (L:Nat->List Int) (n:Nat):Option Int:=(L n).tail.find? fun a=>x4 (sA b es n) (sA b es a.toNat)
def oW:Option Int->W
 | none=>.non
 | some a=>.int a
inductive LW (F:Nat->Option Int) (N:Nat):W->Prop where
 | none:(∀ n,n<=N->F n=none)->LW F N .non
 | some {n:Nat} {a:Int}:n<=N->F n=some a->(∀ i,i<n->F i=none)->LW F N (.tup [.int a,.int (n:Int)])
theorem bU {ms:List Mv} {A:Nat} {T:List Nat} (hK:FlK b ms es A T) {a:Nat} (h:a<=es.length):(sA b es a).length=b.length:=by
 have:=bT (b:=b) (es:=es) (a:=a) (by omega)
 rcases List.mem_cons.mp this with q | q
 ·rw [q]
 ·obtain ⟨e,he,q⟩:=List.mem_map.mp q
  rw [<- q]; exact hK.len e he
theorem uq (hp:∀ (i:Nat) (e:Ent),es[i]?=some e->e.2.1<=i) (hl:es.length<=100) (hL:∀ n,n<=es.length->Pt es n (L n) (R n)) (hs:∀ a,a<=es.length->(sA b es a).length=b.length):Ok (Q0 [.lst (i7 b es)]) (LW (F_ b es L) es.length):=by
 have he:K2 [.lst (i7 b es)]=.ok ((i7 b es).mapIdx fun i x=>W.tup [.int (i:Int),x]):=rfl
 exists rpB,ah,he
 refine w9 (C1 (fun i ρ=>∃ (x y z:Sl),ρ = [.par (.lst (i7 b es)),x,y,z]/\∀ j,j<i->F_ b es L j=none) ⟨_,_,_,rfl,fun j hj=>absurd hj (Nat.not_lt_zero _)⟩ ?_ ?_)
 ·rintro i u ρ hu ⟨x,y,z,rfl,hall⟩
  rw [List.getElem?_mapIdx] at hu
  have hi:i<es.length+1:=by
   rcases Nat.lt_or_ge i (es.length+1) with q | q
   ·exact q
   ·rw [List.getElem?_eq_none (by simpa using q)] at hu; cases hu
  obtain ⟨x1,y1,hr⟩:=aH (b:=b) hi
  have hr2:(i7 b es)[i]?=some (.tup [tI (sA b es i),x1,y1]):=by
   have:=hr
   unfold L2.atI at this
   have e:L2.ixN (i7 b es).length (i:Int)=some i:=by
    unfold L2.ixN
    rw [if_pos (by omega),if_pos (by simp; omega),Int.toNat_natCast]
   rw [e] at this
   exact this
  rw [hr2] at hu
  cases hu
  have p:=hL i (by omega)
  have k1:=iu (b:=b) hp hl (by omega) p
  obtain ⟨t,ht,htl⟩:=p.head hp
  have hll:=Pt.len hp p
  have hF:F_ b es L i=t.find? fun a=>x4 (sA b es i) (sA b es a.toNat):=by unfold F_; rw [ht]; rfl
  have hcut:D7 (L i) (some 1) none=t:=by
   have:=gK (xs:=L i) (n:=1) (by rw [ht,List.length_cons]; omega)
   rw [ht] at this ⊢
   exact this
  have a0:L2.atI [tI (sA b es i),x1,y1] 0=some (tI (sA b es i)):=rfl
  refine ⟨_,rfl,?_⟩
  exists k1
  rw [hcut]
  refine lP (fun j ρ=>∃ z,ρ = [.par (.lst (i7 b es)),.par (.int (i:Int)),.par (.tup [tI (sA b es i),x1,y1]),z]/\∀ j',j'<j->x4 (sA b es i) (sA b es (t.getD j' 0).toNat)=false) ⟨_,rfl,fun j hj=>absurd hj (Nat.not_lt_zero _)⟩ ?_ ?_
  ·rintro j u ρ hu ⟨z,rfl,hj'⟩
   obtain ⟨hj,rfl⟩:=int_at hu
   have hta:=memD htl hj
   obtain ⟨a,ha⟩:∃ a:Nat,t.getD j 0=(a:Int):=⟨(t.getD j 0).toNat,by omega⟩
   rw [ha] at hta ⊢
   obtain ⟨x2,y2,hr3⟩:=aH (b:=b) (es:=es) (a:=a) (by omega)
   have b0:L2.atI [tI (sA b es a),x2,y2] 0=some (tI (sA b es a)):=rfl
   have kc:=eh (a:=sA b es i) (b:=sA b es a) (by rw [hs a (by omega),hs i (by omega)])
   refine ⟨_,rfl,?_⟩
   exists a0,hr3,b0,kc
   refine cf (fun h=>?_) (fun h=>?_)
   ·exists rp18
    refine .some (by omega) ?_ hall
    rw [hF,List.find?_eq_some_iff_getElem]
    refine ⟨by rw [Int.toNat_natCast]; exact h,j,hj,?_,fun j2 hj2=>?_⟩
    ·rw [List.getD_eq_getElem?_getD,List.getElem?_eq_getElem hj] at ha
     exact ha
    ·have:=hj' j2 hj2
     rw [List.getD_eq_getElem?_getD,List.getElem?_eq_getElem (by omega)] at this
     simpa using this
   ·exists rp18
    refine ⟨_,rfl,fun j2 hj2=>?_⟩
    by_cases q:j2=j
    ·subst q; rw [ha,Int.toNat_natCast]; exact h
    ·exact hj' j2 (by omega)
  ·rintro ρ ⟨z,rfl,hj'⟩
   refine ⟨_,_,_,rfl,fun j hj=>?_⟩
   by_cases q:j=i
   ·subst q
    rw [hF,List.find?_eq_none]
    intro a ha
    obtain ⟨j2,hj2,rfl⟩:=List.getElem_of_mem ha
    have:=hj' j2 (by rw [List.length_map]; exact hj2)
    rw [List.getD_eq_getElem?_getD,List.getElem?_eq_getElem hj2] at this
    simpa using this
   ·exact hall j (by omega)
 ·rintro ρ ⟨x,y,z,rfl,hall⟩
  exists rp18
  refine .none fun n hn=>hall n ?_
  rw [List.length_mapIdx]
  simpa using Nat.lt_succ_of_le hn
end
theorem Pt.zm {es:List Ent}:∀ {n:Nat} {l r:List Int},Pt es n l r->(0:Int)∈l
 | _,_,_,.zero=>List.mem_cons_self
 | _,_,_,.succ _ p=>List.mem_cons_of_mem _ p.zm
section
variable {b:List Int} {es:List Ent} {L R:Nat->List Int}
theorem vC (hp:∀ (i:Nat) (e:Ent),es[i]?=some e->e.2.1<=i) (hL:∀ n,n<=es.length->Pt es n (L n) (R n)) {n:Nat} (hn:n<=es.length) {a:Int} (h:F_ b es L n=some a):∃ (k:Nat) (l1 r1 l0 r0:List Int) (pn1 pn0:List Nat),a=(k:Int)/\k<=n/\Pt es k l1 r1/\L n=(pn1.map fun (i:Nat)=>((i+1:Nat):Int))++l1/\Bt es k n pn1/\(∀ i∈pn1,i<es.length)/\Pt es 0 l0 r0/\l1=(pn0.map fun (i:Nat)=>((i+1:Nat):Int))++l0/\Bt es 0 k pn0/\(∀ i∈pn0,i<es.length):=by
 have ha:a∈L n:=List.mem_of_mem_tail (List.mem_of_find?_eq_some h)
 obtain ⟨k,l1,r1,pn,e1,e2,e3,e4,e5,e6⟩:=Pt.split hp (hL n hn) ha
 obtain ⟨k0,l0,r0,pn0,f1,f2,f3,f4,f5,f6⟩:=Pt.split hp e3 e3.zm
 have:k0=0:=by omega
 subst this
 exact ⟨k,l1,r1,l0,r0,pn,pn0,e1,e2,e3,e4,e5,e6,f3,f4,f5,f6⟩
end
theorem iC {f g:Nat->Int}:∀ {n:Nat},(∀ k,k<n->f k<=g k)->c0 n f<=c0 n g
 | 0,_=>Int.le_refl 0
 | n+1,h=>Int.add_le_add (iC fun k hk=>h k (Nat.lt_succ_of_lt hk)) (h n (Nat.lt_succ_self n))
theorem cU {f g:Nat->Int} {r:Nat}:∀ {n:Nat},r<n->(∀ k,k<n->f k<=g k)->f r<g r->c0 n f<c0 n g
 | 0,h,_,_=>absurd h (Nat.not_lt_zero _)
 | n+1,h,hl,hr=>by
  show c0 n f+f n<c0 n g+g n
  have h1:=hl n (Nat.lt_succ_self n)
  by_cases q:r=n
  ·subst q
   have:=iC (n:=r) fun k hk=>hl k (Nat.lt_succ_of_lt hk)
   omega
  ·have:=cU (n:=n) (by omega) (fun k hk=>hl k (Nat.lt_succ_of_lt hk)) hr
   omega
theorem sI {b:List Int} {es:List Ent} {i:Nat} {e:Ent} (h:es[i]?=some e):sA b es (i+1)=e.1:=by
 unfold sA stS
 rw [List.getD_eq_getElem?_getD,List.getElem?_cons_succ,List.getElem?_map,h]; rfl
theorem nP {s:List Int} {m:Mv} {p:Nat} (h:p<s.length):(C4 s m).getD p 0=s.getD p 0+(m.2.getD p 0-m.1.getD p 0):=by
 unfold C4
 rw [List.getD_eq_getElem?_getD,List.getElem?_map,List.getElem?_range h]; rfl
theorem gL {a c:List Int} (h:x4 a c=true) {p:Nat} (hp:p<a.length):c.getD p 0<=a.getD p 0:=by
 unfold x4 at h
 exact of_decide_eq_true (List.all_eq_true.mp h p (by simpa using hp))
section
variable {b:List Int} {ms:List Mv} {es:List Ent} {A:Nat} {T:List Nat}
theorem aF (hK:FlK b ms es A T) {i:Nat} {e:Ent} (he:es[i]?=some e) {p:Nat} (hp:p<b.length):e.2.2<ms.length/\(mvN ms e.2.2).1.getD p 0<=(sA b es e.2.1).getD p 0/\(sA b es (i+1)).getD p 0=(sA b es e.2.1).getD p 0+stM ms e.2.2 p:=by
 have hm:=List.mem_of_getElem? he
 have hi:=(List.getElem?_eq_some_iff.mp he).1
 obtain ⟨h1,h2⟩:=hK.beh e hm
 have hl:=bU hK (a:=e.2.1) (by have:=hK.par i e he; omega)
 refine ⟨hK.k8 e hm,gL h1 (by rw [hl]; exact hp),?_⟩
 rw [sI he,h2]
 exact nP (by rw [hl]; exact hp)
theorem Bt.weigh (hK:FlK b ms es A T) {y:Nat->Int} (hd:∀ j,j<ms.length->c0 b.length (fun p=>y p*stM ms j p)<=0) {k n:Nat} {pn:List Nat} (B:Bt es k n pn):c0 b.length (fun p=>y p*(sA b es n).getD p 0)<=c0 b.length fun p=>y p*(sA b es k).getD p 0:=by
 induction B with
 | self=>exact Int.le_refl _
 | @step i e pn he _ _ ih=>
  refine Int.le_trans ?_ ih
  by_cases h0:b.length=0
  ·rw [h0]; exact Int.le_refl _
  have e1:c0 b.length (fun p=>y p*(sA b es (i+1)).getD p 0)=c0 b.length (fun p=>y p*(sA b es e.2.1).getD p 0)+c0 b.length fun p=>y p*stM ms e.2.2 p:=by
   rw [<- A9]
   exact g5 fun p hp=>by rw [(aF hK he hp).2.2,Int.mul_add]
  have:=hd e.2.2 (aF hK he (p:=0) (by omega)).1
  omega
structure Lft (b:List Int) (es:List Ent) (k n:Nat):Prop where
 hk:k<n
 hn:n<=es.length
 le:∀ p,p<b.length->(sA b es k).getD p 0<=(sA b es n).getD p 0
 lt:∃ p,p<b.length/\(sA b es k).getD p 0<(sA b es n).getD p 0
theorem xT {L R:Nat->List Int} (hK:FlK b ms es A T) (hL:∀ n,n<=es.length->Pt es n (L n) (R n)) {n k:Nat} (hn:n<=es.length) (hF:F_ b es L n=some (k:Int)):Lft b es k n:=by
 obtain ⟨t,ht,htl⟩:=(hL n hn).head hK.par
 unfold F_ at hF
 rw [ht] at hF
 have hk:=(htl _ (List.mem_of_find?_eq_some hF)).2
 have hc:x4 (sA b es n) (sA b es (k:Int).toNat)=true:=List.find?_some (p:=fun a:Int=>x4 (sA b es n) (sA b es a.toNat)) hF
 rw [Int.toNat_natCast] at hc
 have l1:=bU hK (a:=k) (by omega)
 have l2:=bU hK hn
 have le:∀ p,p<b.length->(sA b es k).getD p 0<=(sA b es n).getD p 0:=fun p hp=>gL hc (by rw [l2]; exact hp)
 refine ⟨by omega,hn,le,Classical.byContradiction fun q=>?_⟩
 have e:sA b es k=sA b es n:=by
  refine List.ext_getElem (by rw [l1,l2]) fun p h1 h2=>?_
  have hp:p<b.length:=by omega
  have a1:=le p hp
  have a2:¬ (sA b es k).getD p 0<(sA b es n).getD p 0:=fun z=>q ⟨p,hp,z⟩
  rw [List.getD_eq_getElem?_getD,List.getD_eq_getElem?_getD,List.getElem?_eq_getElem h1,List.getElem?_eq_getElem h2] at a1 a2
  change (sA b es k)[p]<=(sA b es n)[p] at a1
  change ¬ (sA b es k)[p]<(sA b es n)[p] at a2
  omega
 unfold sA at e
 have k1:k<(stS b es).length:=by rw [K8]; omega
 have k2:n<(stS b es).length:=by rw [K8]; omega
 rw [List.getD_eq_getElem?_getD,List.getD_eq_getElem?_getD,List.getElem?_eq_getElem k1,List.getElem?_eq_getElem k2] at e
 exact List.pairwise_iff_getElem.mp hK.nod k n k1 k2 (by omega) e
theorem Lft.no_wts (hK:FlK b ms es A T) {k n:Nat} {pn:List Nat} (h:Lft b es k n) (B:Bt es k n pn) {y:Nat->Int} (hy:∀ p,p<b.length->1<=y p) (hd:∀ j,j<ms.length->c0 b.length (fun p=>y p*stM ms j p)<=0):False:=by
 obtain ⟨r,hr,hl⟩:=h.lt
 have h1:=B.weigh hK hd
 have h2:=cU (f:=fun p=>y p*(sA b es k).getD p 0) (g:=fun p=>y p*(sA b es n).getD p 0) hr (fun p hp=>Int.mul_le_mul_of_nonneg_left (h.le p hp) (by have:=hy p hp; omega)) (Int.mul_lt_mul_of_pos_left hl (by have:=hy r hr; omega))
 omega
theorem nk (hK:FlK b ms es (es.length+1) []) {s:List Int} (hs:s∈stS b es) {j:Nat} (hj:j<ms.length) (hc:x4 s (mvN ms j).1=true):C4 s (mvN ms j)∈stS b es:=by
 obtain ⟨a,ha,rfl⟩:=List.getElem_of_mem hs
 have ea:(stS b es)[a]=sA b es a:=by
  unfold sA
  rw [List.getD_eq_getElem?_getD,List.getElem?_eq_getElem ha]; rfl
 rw [ea] at hc ⊢
 rw [K8] at ha
 rcases hK.set a j (.inl ha) hj hc with ⟨e,he,q⟩ | q | ⟨e,he,_,q⟩
 ·have:=(hK.beh e he).2
  rw [q] at this
  exact List.mem_cons_of_mem _ (List.mem_map.mpr ⟨e,he,this⟩)
 ·show bhN b ms es a j∈_
  rw [q]; exact List.mem_cons_self
 ·exact List.mem_cons_of_mem _ (List.mem_map.mpr ⟨e,he,q⟩)
theorem bP (hK:FlK b ms es A T) {s:List Int} (hs:s∈stS b es):s.length=b.length:=by
 rcases List.mem_cons.mp hs with q | q
 ·rw [q]
 ·obtain ⟨e,he,q⟩:=List.mem_map.mp q
  rw [<- q]; exact hK.len e he
theorem Bt.again (hK:FlK b ms es (es.length+1) []) {k n:Nat} {pn:List Nat} (B:Bt es k n pn) {s:List Int} (hs:s∈stS b es) (hc:∀ p,p<b.length->(sA b es k).getD p 0<=s.getD p 0):∃ s'∈stS b es,∀ p,p<b.length->s'.getD p 0=s.getD p 0+((sA b es n).getD p 0-(sA b es k).getD p 0):=by
 induction B with
 | self=>exact ⟨s,hs,fun p _=>by omega⟩
 | @step i e pn he _ _ ih=>
  obtain ⟨s',hs',q⟩:=ih
  have hl:=bP hK hs'
  have hm:=List.mem_of_getElem? he
  refine ⟨_,nk hK hs' (hK.k8 e hm) (eT fun p hp=>?_),fun p hp=>?_⟩
  ·rw [hl] at hp
   have:=aF hK he hp
   rw [q p hp]
   have:=hc p hp
   omega
  ·have:=(aF hK he hp).2.2
   rw [nP (by rw [hl]; exact hp),q p hp,this]
   show _+_+stM ms e.2.2 p=_
   omega
theorem mG {α:Type} (f:α->Int):∀ {l:List α} {x:α},x∈l->∃ y∈l,∀ z∈l,f z<=f y
 | [],_,h=>by cases h
 | [y],_,_=>⟨y,List.mem_singleton.mpr rfl,fun z hz=>by rw [List.mem_singleton.mp hz]; exact Int.le_refl _⟩
 | y::u::l,_,_=>by
  obtain ⟨v,hv,h⟩:=mG f (l:=u::l) List.mem_cons_self
  by_cases q:f v<=f y
  ·refine ⟨y,List.mem_cons_self,fun z hz=>?_⟩
   rcases List.mem_cons.mp hz with e | e
   ·rw [e]; exact Int.le_refl _
   ·have:=h z e
    omega
  ·refine ⟨v,List.mem_cons_of_mem _ hv,fun z hz=>?_⟩
   rcases List.mem_cons.mp hz with e | e
   ·rw [e]; omega
   ·exact h z e
theorem Lft.no_whole (hK:FlK b ms es (es.length+1) []) {k n:Nat} {pn:List Nat} (h:Lft b es k n) (B:Bt es k n pn):False:=by
 have hkm:sA b es k∈(stS b es).filter fun s=>x4 s (sA b es k):=by
  have:=h.hk
  have:=h.hn
  exact List.mem_filter.mpr ⟨bT (by omega),eT fun p _=>Int.le_refl _⟩
 obtain ⟨s,hs,hmax⟩:=mG (fun s=>c0 b.length fun p=>s.getD p 0) hkm
 obtain ⟨hs,hc⟩:=List.mem_filter.mp hs
 have hl:=bP hK hs
 have hc:∀ p,p<b.length->(sA b es k).getD p 0<=s.getD p 0:=fun p hp=>gL hc (by rw [hl]; exact hp)
 obtain ⟨s',hs',q⟩:=B.again hK hs hc
 have hl':=bP hK hs'
 have h1:=hmax s' (List.mem_filter.mpr ⟨hs',eT fun p hp=>by
  rw [hl'] at hp
  rw [q p hp]
  have:=hc p hp
  have:=h.le p hp
  omega⟩)
 obtain ⟨r,hr,hlt⟩:=h.lt
 have h2:=cU (f:=fun p=>s.getD p 0) (g:=fun p=>s'.getD p 0) hr (fun p hp=>by
  show s.getD p 0<=s'.getD p 0
  rw [q p hp]
  have:=h.le p hp
  omega) (by
  show s.getD r 0<s'.getD r 0
  rw [q r hr]; omega)
 exact absurd h1 (by show ¬ c0 b.length (fun p=>s'.getD p 0)<=c0 b.length fun p=>s.getD p 0; omega)
end
theorem lu {m:Nat} {x y:Nat->Int} (hm:m<=6):N1 [tI (vec m x),tI (vec m y),.int 1]=.ok (tI (vec m fun p=>x p+1*y p)):=by
 have hz:=O6 (tI (vec m x)) (tI (vec m y)) _ _ rfl rfl
 rw [O4 (by rw [j8,j8]),j8] at hz
 have e:∀ N mg me ρ (h:∀ j,j<m->∃ ρ1,mg (.tup [.int ((vec m x).getD j 0),.int ((vec m y).getD j 0)]) (ρ++List.replicate (N-ρ.length) Sl.un)=some ρ1/\me ρ1=.ok (.int (x j+1*y j))),k4 N mg yes me ((List.range m).map fun j=>W.tup [.int ((vec m x).getD j 0),.int ((vec m y).getD j 0)]) ρ=.ok (lI (vec m fun j=>x j+1*y j)):=fun N mg me ρ h=>by
  rw [j7 (fun j=>.int (x j+1*y j)) _ _ ρ (by simpa using (by omega:m<=1000)) (fun k hk=>h k (by simpa using hk)),J4]
 exists rpB,ag,hz
 rw [e]
 ·exists rp18
 ·intro j hj
  have v1:(vec m x).getD j 0=x j:=k7 hj
  have v2:(vec m y).getD j 0=y j:=k7 hj
  rw [v1,v2]
  refine ⟨_,rfl,?_⟩
  exists rp18
structure WtA (ms:List Mv) (m:Nat) (y:List Int):Prop where
 len:y.length=m
 pos:∀ p,p<m->1<=y.getD p 0/\y.getD p 0<=2^400
 down:∀ j,j<ms.length->c0 m (fun p=>y.getD p 0*stM ms j p)<=0
inductive Lev (ms:List Mv) (m:Nat):W->Prop where
 | b {p:Nat} {y:List Int}:Lev ms m (.tup [.str "bag",.int (p:Int),tI y])
 | w {y:List Int}:WtA ms m y->Lev ms m (.tup [.str "weights",tI y])
theorem Lev.wt {ms:List Mv} {m:Nat} {w:W} {y:List Int} (h:Lev ms m w) (e:w=.tup [.str "weights",tI y]):WtA ms m y:=by
 cases h with
 | b=>cases e
 | @w z hz=>
  injection e with e
  injection e with _ e
  injection e with e _
  injection e with e
  rw [<- (List.map_inj_right fun _ _ h=>by injection h).mp e]
  exact hz
theorem uF {m:Nat} (h1:1<=m) (h6:m<=6):fRepT (.tup [.int 0]) (.int (m:Int))=.ok (tI (vec m fun _=>0)):=by
 show (if _ then _ else _)=_
 rw [if_pos ⟨by simp,by simp; omega,by omega,by omega⟩,Int.toNat_natCast]
 have:(List.replicate m [W.int 0]).flatten=(vec m fun _=>0).map W.int:=by
  clear h1 h6
  induction m with
  | zero=>rfl
  | succ m ih=>
   rw [List.replicate_succ,List.flatten_cons,ih]
   unfold vec
   rw [List.range_succ_eq_map,List.map_cons,List.map_cons,List.map_map,List.map_map,List.map_map]; rfl
 rw [this]
theorem pK {ms:List Mv} {m:Nat} (h1:1<=m) (h6:m<=6) (h8:ms.length<=8) (hms:∀ x∈ms,okB m x):Ok (V1 [tM_ ms,.int (m:Int)]) (Lev ms m):=by
 have fr:=uF h1 h6
 have s1:j6 false (W.str "weights") (W.str "bag")=.ok (.bl false):=rfl
 have s2:j6 false (W.str "bag") (W.str "bag")=.ok (.bl true):=rfl
 exists rpB,iW,fr
 refine w9 (C1 (fun i ρ=>∃ (x:Nat->Int) (a b:Sl),ρ = [.par (tM_ ms),.par (.int (m:Int)),.val (tI (vec m x)),a,b]/\i<=m/\(∀ p,p<m->0<=x p/\x p<=(i:Int)*2^300)/\(∀ p,p<i->1<=x p)/\∀ j,j<ms.length->c0 m (fun p=>x p*stM ms j p)<=0) ⟨_,_,_,rfl,by omega,fun p _=>⟨Int.le_refl _,by simp⟩,fun p hp=>absurd hp (Nat.not_lt_zero _),fun j _=>S6 fun p _=>by rw [Int.zero_mul]; exact Int.le_refl _⟩ ?_ ?_)
 ·rintro i u ρ hu ⟨x,a,b,rfl,him,hx,hx1,hx2⟩
  obtain ⟨hi,rfl⟩:=fu hu
  obtain ⟨w,e1,hw⟩:=kB h1 h6 (fun m hm=>(hms m hm).1) h8 hi (fun j hj p hp=>kY hms hj hp)
  cases hw with
  | @w y hy=>
   have a0:L2.atI [W.str "weights",tI y] 0=some (.str "weights"):=rfl
   have a1:L2.atI [W.str "weights",tI y] 1=some (tI y):=rfl
   have ey:y=vec m fun p=>y.getD p 0:=by
    have:=An y
    rw [hy.len] at this
    exact this.symm
   have k1:=lu (x:=x) (y:=fun p=>y.getD p 0) h6
   rw [<- ey] at k1
   refine ⟨_,rfl,?_⟩
   exists e1,a0,a1,s1,k1
   refine ⟨fun p=>x p+1*y.getD p 0,_,_,rfl,by omega,fun p hp=>?_,fun p hp=>?_,fun j hj=>?_⟩
   ·have q1:=hx p hp
    have q2:=hy.nn p hp
    have:((i+1:Nat):Int)*2^300=(i:Int)*2^300+2^300:=by rw [Int.natCast_succ,Int.add_mul,Int.one_mul]
    show 0<=x p+1*y.getD p 0/\x p+1*y.getD p 0<=_
    omega
   ·have q1:=hx p (by omega)
    have q2:=hy.nn p (by omega)
    show 1<=x p+1*y.getD p 0
    by_cases e:p=i
    ·subst e
     have:=hy.one
     omega
    ·have:=hx1 p (by omega)
     omega
   ·have q1:=hx2 j hj
    have q2:=hy.down j hj
    have e:c0 m (fun p=>(x p+1*y.getD p 0)*stM ms j p)=c0 m (fun p=>x p*stM ms j p)+c0 m fun p=>y.getD p 0*stM ms j p:=by
     rw [<- A9]
     exact g5 fun p _=>by rw [Int.one_mul,Int.add_mul]
    show c0 m (fun p=>(x p+1*y.getD p 0)*stM ms j p)<=0
    omega
  | @b y hy=>
   have a0:L2.atI [W.str "bag",tI y] 0=some (.str "bag"):=rfl
   have a1:L2.atI [W.str "bag",tI y] 1=some (tI y):=rfl
   refine ⟨_,rfl,?_⟩
   exists e1,a0,a1,s2
   exact .b
 ·rintro ρ ⟨x,a,b,rfl,him,hx,hx1,hx2⟩
  rw [List.length_map,List.length_range] at hx hx1
  have l5:=j8 m x
  obtain ⟨v,e,g,ys,rfl,hg,hyl,hye⟩:=bD (.inr rfl) (xs:=vec m x) (by rw [l5]; omega) (fun z hz=>by
   obtain ⟨p,hp,rfl⟩:=List.mem_map.mp hz
   have q:=hx p (by simpa using hp)
   refine ⟨q.1,Int.le_trans q.2 (Int.le_trans (Int.mul_le_mul_of_nonneg_right (show (m:Int)<=6 by omega) (by decide)) (by decide))⟩) ⟨0,by rw [l5]; omega,by
    rw [k7 (by omega)]
    have:=hx1 0 (by omega)
    omega⟩
  have hye:∀ p,p<m->x p=g*ys.getD p 0:=fun p hp=>by
   have:=hye p (by rw [l5]; exact hp)
   rwa [k7 hp] at this
  exists e
  refine .w ⟨by rw [hyl,l5],fun p hp=>?_,fun j hj=>gc hg ?_⟩
  ·have q:=hx p hp
   have q2:x p<=2^400:=Int.le_trans q.2 (Int.le_trans (Int.mul_le_mul_of_nonneg_right (show (m:Int)<=6 by omega) (by decide)) (by decide))
   have:=dc hg q.1 q2 (hye p hp)
   have:=bx hg (show 0<g*ys.getD p 0 by rw [<- hye p hp]; exact hx1 p hp)
   omega
  ·rw [<- eZ hye]
   exact hx2 j hj
inductive FW (b:List Int) (es:List Ent) (L:Nat->List Int) (wh:Bool) (wl:W):W->Prop where
 | lift {n k:Nat} {pn0 pn1:List Nat}:n<=es.length->F_ b es L n=some (k:Int)->Bt es 0 k pn0->Bt es k n pn1->FW b es L wh wl (.tup [.str "lift",lI (rwB es pn0),lI (rwB es pn1)])
 | all:wh=true->FW b es L wh wl (.tup [.str "all",lS (stS b es)])
 | wts {y:List Int}:wh=false->wl=.tup [.str "weights",tI y]->FW b es L wh wl (.tup [.str "weights",tI y])
 | opn {p:Nat} {y:List Int}:wh=false->wl=.tup [.str "bag",.int (p:Int),tI y]->FW b es L wh wl (.tup [.str "open"])
theorem Bd {b:List Int} {es:List Ent} (hl:es.length<=100):S8 [.lst (i7 b es)]=.ok (lS (stS b es)):=by
 have e:∀ N mg me ρ (h:∀ o∈(none::es.map some),∃ ρ1,mg (jF b o) (ρ++List.replicate (N-ρ.length) Sl.un)=some ρ1/\me ρ1=.ok (tI (stO b o))),k4 N mg yes me (i7 b es) ρ=.ok (lS (stS b es)):=fun N mg me ρ h=>by
  rw [ww,j7 (fun o=>tI (stO b o)) _ _ ρ (by simp; omega) h,<- st_O]
  show _=R.ok (W.lst (((none::es.map some).map (stO b)).map tI))
  rw [List.map_map]; rfl
 exists rpB,aV
 rw [e]
 ·exists rp18
 ·intro o ho
  refine ⟨_,rfl,?_⟩
  cases o with
  | none=>
   have a0:L2.atI [tI b,W.non,W.non] 0=some (tI b):=rfl
   have ro:jF b none=.tup [tI b,.non,.non]:=rfl
   exists ro,a0
   rfl
  | some e=>
   have a0:L2.atI [tI e.1,.int (e.2.1:Int),.int (e.2.2:Int)] 0=some (tI e.1):=rfl
   have ro:jF b (some e)=.tup [tI e.1,.int (e.2.1:Int),.int (e.2.2:Int)]:=rfl
   exists ro,a0
   rfl
theorem kD {b:List Int} {es:List Ent} {L R:Nat->List Int} {ms:List Mv} {most:Nat} {wh:Bool} {wl:W} (e2:V1 [tM_ ms,.int (b.length:Int)]=.ok wl) (hw:Lev ms b.length wl) (hfl:V2 [.tup [tI b,tM_ ms],.int (most:Int)]=.ok (.tup [.lst (i7 b es),.bl wh])) (hp:∀ (i:Nat) (e:Ent),es[i]?=some e->e.2.1<=i) (hl:es.length<=100) (hL:∀ n,n<=es.length->Pt es n (L n) (R n)) (hs:∀ a,a<=es.length->(sA b es a).length=b.length):Ok (N3 [.tup [tI b,tM_ ms],.int (most:Int)]) (FW b es L wh wl):=by
 have f0:L2.atI [W.lst (i7 b es),W.bl wh] 0=some (.lst (i7 b es)):=rfl
 have f1:L2.atI [W.lst (i7 b es),W.bl wh] 1=some (.bl wh):=rfl
 have m0:L2.atI [tI b,tM_ ms] 0=some (tI b):=rfl
 have m1:L2.atI [tI b,tM_ ms] 1=some (tM_ ms):=rfl
 obtain ⟨w,e1,hw1⟩:=uq L R hp hl hL hs
 cases hw1 with
 | @some n a hn hF hless=>
  obtain ⟨k,l1,r1,l0,r0,pn1,pn0,rfl,hk,p1,hs1,B1,hb1,p0,hs0,B0,hb0⟩:=vC hp hL hn hF
  have k1:=ft (b:=b) hp hl hn (hL n hn) p1 hs1 hb1
  have k0:=ft (b:=b) hp hl (show k<=es.length by omega) p1 p0 hs0 hb0
  have k0:B8 [.lst (i7 b es),.int 0,.int (k:Int)]=.ok (lI (rwB es pn0)):=k0
  have k2:bG [.lst (i7 b es),.int (k:Int)]=.ok (lI (rwB es pn0)):=by
   exists rpB,ge,k0
  have g0:L2.atI [W.int (k:Int),.int (n:Int)] 0=some (.int (k:Int)):=rfl
  have g1:L2.atI [W.int (k:Int),.int (n:Int)] 1=some (.int (n:Int)):=rfl
  exists rpB,M9,hfl,f0,e1,g0,g1,k1,k2
  exact ⟨_,rfl,.lift hn hF B0 B1⟩
 | none hall=>
  have ki:=Bd (b:=b) hl
  have s1:j6 false (W.str "weights") (W.str "weights")=.ok (.bl true):=rfl
  have s2:j6 false (W.str "bag") (W.str "weights")=.ok (.bl false):=rfl
  cases wh with
  | true=>
   exists rpB,M9,hfl,f0,f1,e1,ki
   exact ⟨_,rfl,.all rfl⟩
  | false=>
   cases hw with
   | @b p y=>
    have a0:L2.atI [W.str "bag",.int (p:Int),tI y] 0=some (.str "bag"):=rfl
    exists rpB,M9,hfl,f0,f1,e1,m0,m1,e2,a0,s2
    exact ⟨_,rfl,.opn rfl rfl⟩
   | @w y _=>
    have a0:L2.atI [W.str "weights",tI y] 0=some (.str "weights"):=rfl
    exists rpB,M9,hfl,f0,f1,e1,m0,m1,e2,a0,s1
    exact ⟨_,rfl,.wts rfl rfl⟩
theorem dM (f:Nat->Int):∀ n:Nat,((List.range n).map f).sum=c0 n f
 | 0=>rfl
 | n+1=>by
  rw [List.range_succ,List.map_append,List.sum_append,dM f n]
  show _+(f n+0)=c0 n f+f n
  omega
theorem oJ {b:List Int} {es:List Ent} {a:Nat} (h:a<es.length+1):∃ x y:W,(i7 b es).getD a .non=.tup [tI (sA b es a),x,y]:=by
 obtain ⟨x,y,hr⟩:=aH (b:=b) h
 unfold L2.atI at hr
 have e:L2.ixN (i7 b es).length (a:Int)=some a:=by
  unfold L2.ixN
  rw [if_pos (by omega),if_pos (by simp; omega),Int.toNat_natCast]
 rw [e] at hr
 exact ⟨x,y,by rw [List.getD_eq_getElem?_getD,show (i7 b es)[a]?=_ from hr]; rfl⟩
theorem mulT {i j:Int} (hi:-(2^410)<=i/\i<=2^410) (hj:-(2^60)<=j/\j<=2^60):fI CMulB m4 (.int i) (.int j)=.ok (.int (i*j)):=by
 have b1:=A2 hi
 have b2:=A2 hj
 exact U6 (by omega)
theorem eV (z:Int):J9 [.int z]=.ok (.bl true):=by exists rpB,ai
theorem ir {y:List Int} (hl:y.length<=1000):∀ N mg me ρ (_:∀ x∈y,∃ ρ1,mg (.int x) (ρ++List.replicate (N-ρ.length) Sl.un)=some ρ1/\me ρ1=.ok (.bl true)),k4 N mg yes me (y.map W.int) ρ=.ok (.lst ((y.map fun _=>true).map W.bl)):=fun N mg me ρ h=>by
 rw [j7 (fun _=>W.bl true) _ _ ρ hl h,List.map_map]; rfl
theorem ni (y:List Int):dv (y.map fun _=>true)=true:=by
 unfold dv
 rw [List.all_map,List.all_eq_true]
 exact fun _ _=>rfl
theorem vo {ms:List Mv} {m:Nat} {y:List Int} (h6:m<=6) (hms:∀ x∈ms,okB m x) (hy:WtA ms m y):Ok (D4 [tI y,tM_ ms,.int (m:Int)]) fun v=>v=.bl true:=by
 have hst:=fun j (hj:j<ms.length) p (hp:p<m)=>kY hms hj hp
 have hyl:=hy.len
 have d0:decide ((y.length:Int)=(m:Int))=true:=decide_eq_true (by omega)
 exists rpB,N0,d0
 rw [ir (by omega)]
 rotate_left
 ·intro x hx
  obtain ⟨p,hp,rfl⟩:=List.getElem_of_mem hx
  have hq:=(hy.pos p (by omega)).1
  rw [List.getD_eq_getElem?_getD,List.getElem?_eq_getElem hp] at hq
  change 1<=y[p] at hq
  have d1:decide (0<y[p])=true:=decide_eq_true (by omega)
  refine ⟨_,rfl,?_⟩
  exists eV,d1
 exists ni
 refine w9 (C1 (fun i ρ=>∃ (c d:Sl),ρ = [.par (tI y),.par (tM_ ms),.par (.int (m:Int)),c,d]) ⟨_,_,rfl⟩ ?_ ?_)
 ·rintro i u ρ hu ⟨c,d,rfl⟩
  obtain ⟨mv,hm,hmi,rfl⟩:=uf hu
  have hi:i<ms.length:=(List.getElem?_eq_some_iff.mp hmi).1
  have est:∀ p,stM ms i p=mv.2.getD p 0-mv.1.getD p 0:=fun p=>by
   have e:ms.getD i ([],[])=mv:=by rw [List.getD_eq_getElem?_getD,hmi]; rfl
   unfold stM
   rw [e]
  have hk:=(hms mv hm).1
  have ec:∀ N mg me ρ (h:∀ p∈List.range m,∃ ρ1,mg (.int (p:Nat)) (ρ++List.replicate (N-ρ.length) Sl.un)=some ρ1/\me ρ1=.ok (.int (y.getD p 0*stM ms i p))),k4 N mg yes me ((List.range m).map fun p=>W.int (p:Nat)) ρ=.ok (lI (vec m fun p=>y.getD p 0*stM ms i p)):=fun N mg me ρ h=>by
   rw [j7 (fun p=>W.int (y.getD p 0*stM ms i p)) _ _ ρ (by simp; omega) h,J4]
  have hs:kg (vec m fun p=>y.getD p 0*stM ms i p)<=0:=by
   show (vec m fun p=>y.getD p 0*stM ms i p).sum<=0
   rw [dM]; exact hy.down i hi
  have d2:decide (0<kg (vec m fun p=>y.getD p 0*stM ms i p))=false:=decide_eq_false (by omega)
  refine ⟨_,rfl,?_⟩
  exists rp18
  rw [ec]
  rotate_left
  ·intro p hp
   have hp:p<m:=by simpa using hp
   have l1:=hk.1
   have l2:=hk.2.1
   have q1:=hy.pos p hp
   have q2:=hst i hi p hp
   rw [est] at q2
   have m1:=mulT (i:=y.getD p 0) (j:=mv.2.getD p 0-mv.1.getD p 0) ⟨Int.le_trans (by decide) q1.1,Int.le_trans q1.2 (by decide)⟩ ⟨Int.le_trans (by decide) q2.1,Int.le_trans q2.2 (by decide)⟩
   refine ⟨_,rfl,?_⟩
   exists m1
   rw [est]
  exists d2
  exact ⟨_,_,rfl⟩
 ·rintro ρ ⟨c,d,rfl⟩
  exists rp18
theorem vp {b:List Int} {es:List Ent} (hl:es.length<=100) (hs:∀ s∈stS b es,s.length<=6):Ok (E5 [lS (stS b es),.lst (i7 b es)]) fun v=>v=.bl true:=by
 have ll:=K8 b es
 have lr:(i7 b es).length=es.length+1:=by simp
 have d0:decide (((stS b es).length:Int)=((es.length+1:Nat):Int))=true:=decide_eq_true (by rw [ll])
 have hz:=O6 (lS (stS b es)) (.lst (i7 b es)) _ _ rfl rfl
 have hzm:=rX tI (fun w:W=>w) (a:=stS b es) (b:=i7 b es) (by rw [ll,lr]) [] .non
 rw [List.map_id'] at hzm
 rw [hzm] at hz
 exists rpB,N7,hz,d0
 refine w9 (C1 (fun i ρ=>∃ (c d:Sl),ρ = [.par (lS (stS b es)),.par (.lst (i7 b es)),c,d]) ⟨_,_,rfl⟩ ?_ ?_)
 ·rintro i u ρ hu ⟨c,d,rfl⟩
  obtain ⟨hi,rfl⟩:=fw hu
  rw [ll] at hi
  obtain ⟨x1,y1,hr⟩:=oJ (b:=b) (es:=es) hi
  rw [hr,show (stS b es).getD i []=sA b es i from rfl]
  have a0:L2.atI [tI (sA b es i),x1,y1] 0=some (tI (sA b es i)):=rfl
  have q:=hs _ (bT (b:=b) hi)
  refine ⟨_,rfl,?_⟩
  exists rp18
  rw [ir (by omega)]
  rotate_left
  ·intro x _
   refine ⟨_,rfl,?_⟩
   exists eV
  have d1:decide (sA b es i=sA b es i)=true:=decide_eq_true rfl
  exists ni,a0,nr,d1
  exact ⟨_,_,rfl⟩
 ·rintro ρ ⟨c,d,rfl⟩
  exists rp18
theorem oN {b:List Int} {ms:List Mv} {es:List Ent} {L R':Nat->List Int} {A:Nat} {T:List Nat} {wh:Bool} {wl w:W} (h6:b.length<=6) (hms:∀ x∈ms,okB b.length x) (hK:FlK b ms es A T) (hwh:wh=true->FlK b ms es (es.length+1) []) (hl:es.length<=100) (hL:∀ n,n<=es.length->Pt es n (L n) (R' n)) (hw:Lev ms b.length wl) (hF:FW b es L wh wl w) {hs:Bool} (hhs:hs=true↔∃ y,wl=.tup [.str "weights",tI y]):K0 [w,.tup [tI b,tM_ ms],.lst (i7 b es),.bl wh,.bl hs]=.ok (.bl true):=by
 have m0:L2.atI [tI b,tM_ ms] 0=some (tI b):=rfl
 have m1:L2.atI [tI b,tM_ ms] 1=some (tM_ ms):=rfl
 have i1:(toR (t5 "str" "str"):R Bool)=.ok true:=rfl
 have n1:j6 false (W.str "lift") (W.str "lift")=.ok (.bl true):=rfl
 have n2:j6 false (W.str "all") (W.str "lift")=.ok (.bl false):=rfl
 have n3:j6 false (W.str "weights") (W.str "lift")=.ok (.bl false):=rfl
 have n4:j6 false (W.str "open") (W.str "lift")=.ok (.bl false):=rfl
 have n5:j6 false (W.str "all") (W.str "all")=.ok (.bl true):=rfl
 have n6:j6 false (W.str "weights") (W.str "weights")=.ok (.bl true):=rfl
 cases hF with
 | @lift n k pn0 pn1 hn hF B0 B1=>
  have hlf:=xT hK hL hn hF
  have e1:wh=false:=by
   cases wh with
   | false=>rfl
   | true=>exact (hlf.no_whole (hwh rfl) B1).elim
  have e2:hs=false:=by
   cases hs with
   | false=>rfl
   | true=>
    obtain ⟨y,hy⟩:=hhs.mp rfl
    have hy:=hw.wt hy
    exact (hlf.no_wts hK B1 (fun p hp=>(hy.pos p hp).1) hy.down).elim
  subst e1 e2
  have a0:L2.atI [W.str "lift",lI (rwB es pn0),lI (rwB es pn1)] 0=some (.str "lift"):=rfl
  exists rpB,D2,a0,i1,n1
 | all e1=>
  subst e1
  have hK2:=hwh rfl
  obtain ⟨_,k1,rfl⟩:=vp (b:=b) (es:=es) hl (fun s hs=>by rw [bP hK2 hs]; exact h6)
  have a0:L2.atI [W.str "all",lS (stS b es)] 0=some (.str "all"):=rfl
  have a1:L2.atI [W.str "all",lS (stS b es)] 1=some (lS (stS b es)):=rfl
  exists rpB,D2,a0,a1,i1,n2,n5,k1
 | @wts y e1 e2=>
  subst e1
  have:hs=true:=hhs.mpr ⟨y,e2⟩
  subst this
  obtain ⟨_,k1,rfl⟩:=vo h6 hms (hw.wt e2)
  have a0:L2.atI [W.str "weights",tI y] 0=some (.str "weights"):=rfl
  have a1:L2.atI [W.str "weights",tI y] 1=some (tI y):=rfl
  exists rpB,D2,a0,a1,i1,n3,n6,m0,m1,k1
 | @opn p y e1 e2=>
  subst e1
  have:hs=false:=by
   cases hs with
   | false=>rfl
   | true=>
    obtain ⟨z,hz⟩:=hhs.mp rfl
    rw [e2] at hz
    cases hz
  subst this
  have a0:L2.atI [W.str "open"] 0=some (.str "open"):=rfl
  have q:fEq false (.tup [.str "open"]) (.tup [.str "open"])=.ok (.bl true):=qr (by simp only [shp,K9]; decide +kernel)
  exists rpB,D2,a0,i1,n4,q
theorem law_pure (ns:List Int) (_:ns.length<=63) (_:∀ x∈ns,Builtin.Int.intBits x<=1048576):eQ [.scr (ns.map W.int)]=.ok (.bl true):=by
 have fin:Ok (eQ [.scr (ns.map W.int)]) fun v=>v=.bl true:=by
  obtain ⟨_,e1,b,ms,rfl,h1,h6,hbn,hms,h8⟩:=ql (ns:=ns)
  obtain ⟨_,e40,d40,rfl,h400,h401⟩:=C2 (ns:=ns) (k:=40) (m:=2) (by omega) (by omega) (by omega)
  obtain ⟨_,e41,d41,rfl,h410,h411⟩:=C2 (ns:=ns) (k:=41) (m:=30) (by omega) (by omega) (by omega)
  obtain ⟨_,e42,d42,rfl,h420,h421⟩:=C2 (ns:=ns) (k:=42) (m:=2) (by omega) (by omega) (by omega)
  exists rpB,rC,e1,e40
  refine w9 (lQ (fun ρ=>∃ most:Nat,ρ = [.par (.scr (ns.map W.int)),.val (.tup [tI b,tM_ ms]),.val (.int (most:Int)),.un,.un,.un,.un]/\1<=most/\most<=30) ?_ ?_)
  ·refine cf (fun h=>?_) (fun h=>?_)
   ·exists e41
    exact ⟨(1+d41).toNat,by rw [Int.toNat_of_nonneg (by omega)],by omega,by omega⟩
   ·exists rp18
    exact ⟨30,rfl,by omega,by omega⟩
  rintro ρ ⟨most,rfl,hm1,hm30⟩
  obtain ⟨_,e2,es,wh,rfl,hE1,hE⟩:=qm (b:=b) (ms:=ms) (most:=most) h6 (fun m hm=>(hms m hm).1) h8 hm1 (by omega)
  obtain ⟨A,T,hK,hwh⟩:∃ A T,FlK b ms es A T/\(wh=true->FlK b ms es (es.length+1) []):=by
   rcases hE with ⟨_,h⟩ | ⟨hw,_,A,T,k,h,_⟩
   ·exact ⟨_,_,h,fun _=>h⟩
   ·exact ⟨_,_,h,fun q=>by rw [hw] at q; cases q⟩
  have hp:=hK.par
  have hl:es.length<=100:=by omega
  obtain ⟨L,R,hL⟩:∃ L R:Nat->List Int,∀ n,n<=es.length->Pt es n (L n) (R n):=by
   refine ⟨fun n=>if h:n<=es.length then (Pt.ex hp n h).choose else [],fun n=>if h:n<=es.length then (Pt.ex hp n h).choose_spec.choose else [],fun n hn=>?_⟩
   dsimp only
   rw [dif_pos hn,dif_pos hn]
   exact (Pt.ex hp n hn).choose_spec.choose_spec
  have hs:=fun a (ha:a<=es.length)=>bU hK ha
  obtain ⟨wl,e5,hwl⟩:=pK h1 h6 h8 hms
  obtain ⟨wf,e3,hwf⟩:=kD e5 hwl e2 hp hl hL hs
  obtain ⟨x,us,hs',rfl,e6,e7,hh⟩:∃ x us hs,wl=.tup us/\L2.atI us 0=some x/\j6 false x (.str "weights")=.ok (.bl hs)/\(hs=true↔∃ y,wl=.tup [.str "weights",tI y]):=by
   cases hwl with
   | b=>exact ⟨_,_,false,rfl,rfl,rfl,⟨fun h=>(by cases h),fun zz99=>by obtain ⟨_,h⟩:=zz99; exact (by cases h)⟩⟩
   | @w y _=>exact ⟨_,_,true,rfl,rfl,rfl,⟨fun _=>⟨y,rfl⟩,fun _=>rfl⟩⟩
  have k1:=oN h6 hms hK hwh hl hL hwl hwf hh
  have m0:L2.atI [tI b,tM_ ms] 0=some (tI b):=rfl
  have m1:L2.atI [tI b,tM_ ms] 1=some (tM_ ms):=rfl
  have rz:rdS .B (some (.hz wf))=.ok wf:=rfl
  have z:d42=0\/d42=1:=by omega
  have y1:j6 false (W.str "lift") (W.str "all")=.ok (.bl false):=rfl
  have y2:j6 false (W.str "weights") (W.str "all")=.ok (.bl false):=rfl
  have y3:j6 false (W.str "open") (W.str "all")=.ok (.bl false):=rfl
  have y4:j6 false (W.str "all") (W.str "all")=.ok (.bl true):=rfl
  rcases z with rfl | rfl
  all_goals
   exists e42,sCN,e3,e2,m0,m1,e5,e6,e7,rz,k1
   cases hwf with
   | @lift n k pn0 pn1 hn hF B0 B1=>
    have a0:L2.atI [W.str "lift",lI (rwB es pn0),lI (rwB es pn1)] 0=some (.str "lift"):=rfl
    exists a0,y1,e3,k1
   | all q=>
    have a0:L2.atI [W.str "all",lS (stS b es)] 0=some (.str "all"):=rfl
    exists a0,y4
    rw [io (us:=[.str "all",lS (stS b es)]) (ws:=(stS b es).map tI) (w:=.tup []) rfl rfl rfl ?_]
    ·exists oy,clI
     exists e3,k1
    ·unfold bO
     have hn2:g4 ((stS b es).map tI ++ [.tup []])=true:=noLs_snoc.mpr ⟨cq _,rfl⟩
     rw [hn2]
     simp [g4,noL,K8]
     omega
   | @wts y q1 q2=>
    have a0:L2.atI [W.str "weights",tI y] 0=some (.str "weights"):=rfl
    exists a0,y2,e3,k1
   | @opn p y q1 q2=>
    have a0:L2.atI [W.str "open"] 0=some (.str "open"):=rfl
    exists a0,y3,e3,k1
 obtain ⟨v,e,rfl⟩:=fin
 exact e
end K76
set_option maxHeartbeats 4000000
open PySem L2 TP
namespace K76
def C8 {K:Frag} {d:Mode}:=(eN (K:=K) (d:=d) (g:=B5) (fun _ _=>rfl) (fun _ _ _=>.int))
def nW {K:Frag} {d:Mode}:=(eN (K:=K) (d:=d) (g:=gSub) (fun _ _=>rfl) (fun _ _ _=>.int))
def xLt {K:Frag} {d:Mode}:=(eN (K:=K) (d:=d) (g:=gLt) (fun _ _=>rfl) (fun _ _ _=>.bl))
def xGt {K:Frag} {d:Mode}:=(eN (K:=K) (d:=d) (g:=gGt) (fun _ _=>rfl) (fun _ _ _=>.bl))
local macro_rules | `(tactic| trivial)=>`(tactic| first | exact Or.inl rfl | exact Or.inr rfl | exact Or.inr (Or.inl rfl) | exact Or.inr (Or.inr rfl) | assumption | exact ⟨rfl,rfl,rfl,by decide +kernel,rfl,by decide +kernel,by decide +kernel⟩ | exact Room.mono (by assumption) (by decide) | exact fY _ | rfl | exact ⟨rfl,by decide +kernel,by decide +kernel,by decide +kernel,by decide +kernel,by decide,by decide +kernel,by decide +kernel⟩)
def top (i:Nat):Stmt:=PySem.Challenge.pw_tokenmoor_k76_bounded_or_open.main.body.getD i (.Pass ⟨0,0,0,0⟩)
abbrev hxS (s:String) (t:Nat):Value:=.str (Str.ofString s) t
abbrev hxI (i:Int):Value:=.int i 0
abbrev hxO (c:String) (d:Data):Obj:=⟨.type c,none,d,#[]⟩
abbrev hxE (P:Params) (s:String) (t:Nat) (v:Value):DictEntry:=⟨PyData.keyHash P (Str.ofString s),.str (Str.ofString s) t,v⟩
abbrev hxF (n q:String) (st:Stmt) (dV kV doc pm:Value) (an:Option Addr) (cd ct:Value):Data:=.func (PySem.W.fnOf (Str.ofString n) (Str.ofString q) (L6 st) (y9 st) (c6 st) dV kV doc pm an cd ct)
abbrev hxG (n:String) (i:Nat) (pm:Value) (c:Nat):Obj:=hxO "function" (hxF n n (top i) .none .none .none pm none (.ref c) .none)
abbrev hxD (n:String) (t:Nat) (l a:Int) (r8:Nat) (r11:Nat) (v13 v14:Value) (r15:Nat) (x16:Int) (t18:Nat):Data:=.fields #[.str (Str.ofString n) t,.str (Str.ofString n) (t+1),.str (Str.ofString "/claim/cut.py") (t+2),hxI l,hxI a,hxI 0,hxI 0,hxI 3,.ref r8,.bool true,hxI 181,.ref r11,.none,v13,v14,.ref r15,hxI x16,hxI l,.str (Str.ofString "/claim/cut.py") t18]
abbrev n9:Value:=hxS "law_tokenmoor_k76_bounded_or_open" 453
abbrev pX:Value:=hxS "tokenmoor.balances" 272
abbrev m8:Value:=hxS "tokenmoor.ceilings" 280
abbrev du:Value:=hxS "tokenmoor.climbs" 379
abbrev pW:Value:=hxS "tokenmoor.crowns" 367
abbrev C3:Value:=hxS "tokenmoor.floods" 395
abbrev N6:Value:=hxS "tokenmoor.moors" 232
abbrev pV:Value:=hxS "tokenmoor.walks" 264
@[irreducible] def ng:Params->Frag:=fun P=>
 (nat_lit 2,⟨.none,none,(.dict #[] 0),#[]⟩) ::
 (nat_lit 3,hxO "dict" (.dict #[hxE P "__name__" 165 (hxS "law_tokenmoor_k76_bounded_or_open" 453),hxE P "__doc__" 166 .none,hxE P "__package__" 167 .none,hxE P "__loader__" 168 (.builtin "__main__.__loader__#opaque"),hxE P "__spec__" 169 .none,hxE P "__annotations__" 170 (.ref 6),hxE P "__builtins__" 171 (.ref 4),hxE P "__file__" 173 (hxS "/claim/cut.py" 172),hxE P "__cached__" 174 .none,hxE P "MoorError" 206 (.ref 24),hxE P "Stuck" 231 (.ref 44),hxE P "covers" 243 (.ref 53),hxE P "able" 251 (.ref 60),hxE P "after" 257 (.ref 65),hxE P "change" 263 (.ref 70),hxE P "shifted" 271 (.ref 75),hxE P "unit" 279 (.ref 80),hxE P "ceiling" 287 (.ref 85),hxE P "first_table" 293 (.ref 90),hxE P "coming" 302 (.ref 97),hxE P "leaving" 308 (.ref 102),hxE P "pivoted" 314 (.ref 107),hxE P "cleared" 320 (.ref 112),hxE P "bag_of" 334 (.ref 119),hxE P "weights_of" 340 (.ref 124),hxE P "in_least_numbers" 346 (.ref 129),hxE P "greatest_divisor" 355 (.ref 136),hxE P "level" 366 (.ref 143),hxE P "way_back" 378 (.ref 150),hxE P "way" 388 (.ref 157),hxE P "row_between" 394 (.ref 162),hxE P "flood" 410 (.ref 169),hxE P "stands_behind" 416 (.ref 174),hxE P "stands_in" 422 (.ref 179),hxE P "row_to" 430 (.ref 186),hxE P "bounded" 442 (.ref 193),hxE P "first_lift" 452 (.ref 200),hxE P "_law_cell_at" 462 (.ref 207),hxE P "_law_draw" 471 (.ref 214),hxE P "_law_numbers" 485 (.ref 221),hxE P "_law_scale" 493 (.ref 228),hxE P "_law_moor" 499 (.ref 233),hxE P "_law_whole" 506 (.ref 240),hxE P "_law_are_weights" 512 (.ref 245),hxE P "_law_are_stands" 518 (.ref 250),hxE P "_law_right" 529 (.ref 257),hxE P "law" 542 (.ref 264)] 47)) ::
 (nat_lit 15,hxO "tuple" (.seq #[(.type "ValueError")] 0)) ::
 (nat_lit 22,hxO "tuple" (.seq #[] 0)) ::
 (nat_lit 23,hxO "dict" (.dict #[hxE P "__module__" 196 (hxS "tokenmoor.errors" 187),hxE P "__firstlineno__" 200 (.int 2 199),hxE P "__static_attributes__" 201 (.ref 22),hxE P "__weakref__" 203 (.ref 25),hxE P "__doc__" 204 .none] 3)) ::
 (nat_lit 25,hxO "getset_descriptor" (.fields #[(hxS "__weakref__" 202),(.ref 24),(.builtin "ExceptionGroup.__weakref__"),.none])) ::
 (nat_lit 28,hxO "tuple" (.seq #[(.ref 24)] 0)) ::
 (nat_lit 40,hxO "code" (.fields #[(hxS "__init__" 219),(hxS "Stuck.__init__" 220),(hxS "/claim/cut.py" 221),(hxI 6),(hxI 2),(hxI 0),(hxI 0),(hxI 3),(.ref 35),(.bool true),(hxI 181),(.ref 36),.none,(.ref 37),(.ref 38),(.ref 39),(hxI 224),(hxI 6),(hxS "/claim/cut.py" 225)])) ::
 (nat_lit 42,hxO "tuple" (.seq #[(hxS "at" 227)] 0)) ::
 (nat_lit 43,hxO "dict" (.dict #[hxE P "__module__" 214 (hxS "tokenmoor.errors" 187),hxE P "__firstlineno__" 218 (.int 4 217),hxE P "__init__" 226 (.ref 41),hxE P "__static_attributes__" 228 (.ref 42),hxE P "__doc__" 229 .none] 2)) ::
 (nat_lit 52,hxO "code" (hxD "covers" 234 9 2 47 48 (.ref 49) (.ref 50) 51 241 242)) ::
 (nat_lit 53,hxG "covers" 4 N6 52) ::
 (nat_lit 59,hxO "code" (hxD "able" 244 14 2 54 55 (.ref 56) (.ref 57) 58 249 250)) ::
 (nat_lit 60,hxG "able" 5 N6 59) ::
 (nat_lit 64,hxO "code" (hxD "after" 252 16 2 61 62 .none .none 63 255 256)) ::
 (nat_lit 65,hxG "after" 6 N6 64) ::
 (nat_lit 69,hxO "code" (hxD "change" 258 20 1 66 67 .none .none 68 261 262)) ::
 (nat_lit 70,hxG "change" 7 N6 69) ::
 (nat_lit 74,hxO "code" (hxD "shifted" 266 23 3 71 72 .none .none 73 269 270)) ::
 (nat_lit 75,hxG "shifted" 9 pV 74) ::
 (nat_lit 79,hxO "code" (hxD "unit" 274 26 2 76 77 .none .none 78 277 278)) ::
 (nat_lit 80,hxG "unit" 11 pX 79) ::
 (nat_lit 84,hxO "code" (hxD "ceiling" 282 29 3 81 82 .none .none 83 285 286)) ::
 (nat_lit 85,hxG "ceiling" 13 m8 84) ::
 (nat_lit 89,hxO "code" (hxD "first_table" 288 43 3 86 87 .none .none 88 291 292)) ::
 (nat_lit 90,hxG "first_table" 14 m8 89) ::
 (nat_lit 96,hxO "code" (hxD "coming" 294 48 1 91 92 (.ref 93) (.ref 94) 95 300 301)) ::
 (nat_lit 97,hxG "coming" 15 m8 96) ::
 (nat_lit 101,hxO "code" (hxD "leaving" 303 53 3 98 99 .none .none 100 306 307)) ::
 (nat_lit 102,hxG "leaving" 16 m8 101) ::
 (nat_lit 106,hxO "code" (hxD "pivoted" 309 56 4 103 104 .none .none 105 312 313)) ::
 (nat_lit 107,hxG "pivoted" 17 m8 106) ::
 (nat_lit 111,hxO "code" (hxD "cleared" 315 59 4 108 109 .none .none 110 318 319)) ::
 (nat_lit 112,hxG "cleared" 18 m8 111) ::
 (nat_lit 118,hxO "code" (hxD "bag_of" 321 61 5 113 114 (.ref 115) (.ref 116) 117 332 333)) ::
 (nat_lit 119,hxG "bag_of" 19 m8 118) ::
 (nat_lit 123,hxO "code" (hxD "weights_of" 335 67 4 120 121 .none .none 122 338 339)) ::
 (nat_lit 124,hxG "weights_of" 20 m8 123) ::
 (nat_lit 128,hxO "code" (hxD "in_least_numbers" 341 70 1 125 126 .none .none 127 344 345)) ::
 (nat_lit 129,hxG "in_least_numbers" 21 m8 128) ::
 (nat_lit 135,hxO "code" (hxD "greatest_divisor" 347 75 2 130 131 (.ref 132) (.ref 133) 134 353 354)) ::
 (nat_lit 136,hxG "greatest_divisor" 22 m8 135) ::
 (nat_lit 142,hxO "code" (hxD "level" 356 81 2 137 138 (.ref 139) (.ref 140) 141 364 365)) ::
 (nat_lit 143,hxG "level" 23 m8 142) ::
 (nat_lit 149,hxO "code" (hxD "way_back" 369 90 2 144 145 (.ref 146) (.ref 147) 148 376 377)) ::
 (nat_lit 150,hxG "way_back" 25 pW 149) ::
 (nat_lit 156,hxO "code" (hxD "way" 381 98 2 151 152 (.ref 153) (.ref 154) 155 386 387)) ::
 (nat_lit 157,hxG "way" 27 du 156) ::
 (nat_lit 161,hxO "code" (hxD "row_between" 389 100 3 158 159 .none .none 160 392 393)) ::
 (nat_lit 162,hxG "row_between" 28 du 161) ::
 (nat_lit 168,hxO "code" (hxD "flood" 397 104 2 163 164 (.ref 165) (.ref 166) 167 408 409)) ::
 (nat_lit 169,hxG "flood" 30 C3 168) ::
 (nat_lit 173,hxO "code" (hxD "stands_behind" 411 119 2 170 171 .none .none 172 414 415)) ::
 (nat_lit 174,hxG "stands_behind" 31 C3 173) ::
 (nat_lit 178,hxO "code" (hxD "stands_in" 417 121 1 175 176 .none .none 177 420 421)) ::
 (nat_lit 179,hxG "stands_in" 32 C3 178) ::
 (nat_lit 185,hxO "code" (hxD "row_to" 423 123 2 180 181 (.ref 182) (.ref 183) 184 428 429)) ::
 (nat_lit 186,hxG "row_to" 33 C3 185) ::
 (nat_lit 192,hxO "code" (hxD "bounded" 431 125 2 187 188 (.ref 189) (.ref 190) 191 440 441)) ::
 (nat_lit 193,hxG "bounded" 34 C3 192) ::
 (nat_lit 199,hxO "code" (hxD "first_lift" 443 135 1 194 195 (.ref 196) (.ref 197) 198 450 451)) ::
 (nat_lit 200,hxG "first_lift" 35 C3 199) ::
 (nat_lit 206,hxO "code" (hxD "_law_cell_at" 455 142 2 201 202 (.ref 203) (.ref 204) 205 460 461)) ::
 (nat_lit 207,hxG "_law_cell_at" 37 n9 206) ::
 (nat_lit 213,hxO "code" (hxD "_law_draw" 463 146 3 208 209 (.ref 210) (.ref 211) 212 469 470)) ::
 (nat_lit 214,hxG "_law_draw" 38 n9 213) ::
 (nat_lit 220,hxO "code" (hxD "_law_numbers" 472 148 5 215 216 (.ref 217) (.ref 218) 219 483 484)) ::
 (nat_lit 221,hxG "_law_numbers" 39 n9 220) ::
 (nat_lit 227,hxO "code" (hxD "_law_scale" 486 158 1 222 223 (.ref 224) (.ref 225) 226 491 492)) ::
 (nat_lit 228,hxG "_law_scale" 40 n9 227) ::
 (nat_lit 232,hxO "code" (hxD "_law_moor" 494 165 1 229 230 .none .none 231 497 498)) ::
 (nat_lit 233,hxG "_law_moor" 41 n9 232) ::
 (nat_lit 239,hxO "code" (hxD "_law_whole" 500 180 1 234 235 (.ref 236) (.ref 237) 238 504 505)) ::
 (nat_lit 240,hxG "_law_whole" 42 n9 239) ::
 (nat_lit 244,hxO "code" (hxD "_law_are_weights" 507 182 3 241 242 .none .none 243 510 511)) ::
 (nat_lit 245,hxG "_law_are_weights" 43 n9 244) ::
 (nat_lit 249,hxO "code" (hxD "_law_are_stands" 513 191 2 246 247 .none .none 248 516 517)) ::
 (nat_lit 250,hxG "_law_are_stands" 44 n9 249) ::
 (nat_lit 256,hxO "code" (hxD "_law_right" 519 198 5 251 252 (.ref 253) (.ref 254) 255 527 528)) ::
 (nat_lit 257,hxG "_law_right" 45 n9 256) ::
 (nat_lit 263,hxO "code" (hxD "law" 530 208 1 258 259 (.ref 260) (.ref 261) 262 540 541)) ::
 (nat_lit 264,hxG "law" 46 n9 263) ::
 []
abbrev hk (w:World):Frag:=ng w.params
structure Blt (mg:Str->Option Value):Prop where
 all_:mg "all" = none
 bool_:mg "bool" = none
 enumerate_:mg "enumerate" = none
 int_:mg "int" = none
 isinstance_:mg "isinstance" = none
 len_:mg "len" = none
 list_:mg "list" = none
 min_:mg "min" = none
 range_:mg "range" = none
 reversed_:mg "reversed" = none
 str_:mg "str" = none
 sum_:mg "sum" = none
 tuple_:mg "tuple" = none
 zip_:mg "zip" = none
def En (w:World) (mg:Str->Option Value):Prop:=∃ h:Heap,(hk w).In h/\h.Ns mainGlobals mg
theorem bn {w:World} {mg:Str->Option Value} (Y:En w mg) {x:Str} (e:PySem.W.nsIn (hk w) mainGlobals x=some none):mg x=none:=Y.elim fun _ q=>PySem.W.mg_none_of q.1 q.2 e
theorem bl {w:World} {mg:Str->Option Value} (Y:En w mg):Blt mg:=⟨bn Y (by kernel_rfl),bn Y (by kernel_rfl),bn Y (by kernel_rfl),bn Y (by kernel_rfl),bn Y (by kernel_rfl),bn Y (by kernel_rfl),bn Y (by kernel_rfl),bn Y (by kernel_rfl),bn Y (by kernel_rfl),bn Y (by kernel_rfl),bn Y (by kernel_rfl),bn Y (by kernel_rfl),bn Y (by kernel_rfl),bn Y (by kernel_rfl)⟩
abbrev FD (nm:String) (i:Nat) (pm:Value) (c:Nat):FuncData:=PySem.W.fnOf nm nm (L6 (top i)) (y9 (top i)) (c6 (top i)) .none .none .none pm none (.ref c) .none
theorem dk {w:World} {mg:Str->Option Value} (Y:En w mg) {nm:String} {i c:Nat} {f:Addr} {pm:Value} {ps:List Str}
  (e:(PySem.W.nsIn (hk w) mainGlobals nm,(hk w).lookup f,PySem.W.codeIn (hk w) (.ref c) nm,PySem.W.keepIn (hk w) (.ref f))=(some (some (.ref f)),some (hxG nm i pm c),true,true))
  (hb:∀ (kV doc pm:Value) (an:Option Addr) (cdv ct:Value) (us:List Value),us.length=ps.length->bindArgs (PySem.W.fnOf nm nm (L6 (top i)) (y9 (top i)) (c6 (top i)) .none kV doc pm an cdv ct) ⟨us,[]⟩=pure (ps.zip us)):Def (hk w) mg nm (top i) ps f (FD nm i pm c):=by
 obtain ⟨h,X,G⟩:=Y
 injection e with a e
 injection e with l e
 injection e with c k
 have F:=yS (st:=top i) l c k
 exact ⟨F,PySem.W.mg_of X G a,F.binds hb⟩
theorem okF {P:Program} {w:World} {K:Frag} {mg:Str->Option Value} {base:Heap} {x:Str} {st:Stmt} {ps:List Str} {f:Addr} {fd:FuncData} (D:Def K mg x st ps f fd) {N:List Str} {k n l:Nat} {d:Mode} {m:Rho->R Fl} (S:f8 N ps (c6 st)) (hd:d=.F\/d=.V) (hn:ps.length=n) (hl:N.length=l) (b:∀ {cdv:Value} {A:Around} {outer:List Env} {s:Shared} {H:Hp} {E:XK},Room k (A.deeper (PyProof.Rows.envOfC x (c6 st) s.heap.objs.size f cdv))->PSs (T6 CX0 P w K mg base N x (c6 st) f cdv A outer s H E).nox (y9 st) (tSt K (fun _ _=>False) d m)):FnOk P w K mg base CX0 (k+1) f fd ps (spM K n d (g7 n l m)):=by
 subst hn hl
 exact D.F.ok S (fun _ _ _ _ h=>h.1) fun cdv A outer s H vs Q E hr h=>⟨_,b hr,nJ hd h⟩
theorem okL {P:Program} {w:World} {K:Frag} {mg:Str->Option Value} {base:Heap} {x:Str} {st:Stmt} {ps:List Str} {f:Addr} {fd:FuncData} (D:Def K mg x st ps f fd) {N:List Str} {k n l:Nat} {d:Mode} {m:Rho->R Fl} (S:f8 N ps (c6 st)) (hd:d=.F\/d=.V) (hn:ps.length=n) (hl:N.length=l) (b:∀ {A:Around} {outer:List Env} {s:Shared} {H:Hp} {E:XK},Room k (A.deeper (PyProof.Rows.envOfC x (c6 st) s.heap.objs.size f fd.code))->PSs (T6 CX0 P w K mg base N x (c6 st) f fd.code A outer s H E).nox (y9 st) (tSt K (fun _ _=>False) d m)):FnOk P w K mg base CX0 (k+1) f fd ps (spM K n d (g7 n l m)):=by
 subst hn hl
 exact D.F.okC S (fun _ _ _ _ h=>h.1) fun A outer s H vs Q E hr h=>⟨_,b hr,nJ hd h⟩
theorem okNn {P:Program} {w:World} {K:Frag} {mg:Str->Option Value} {base:Heap} {x:Str} {st:Stmt} {ps:List Str} {f:Addr} {fd:FuncData} (D:Def K mg x st ps f fd) {N:List Str} {k n l:Nat} {d:Mode} {m:Rho->R Fl} (S:f8 N ps (c6 st))  (hn:ps.length=n) (hl:N.length=l) (b:∀ {cdv:Value} {A:Around} {outer:List Env} {s:Shared} {H:Hp} {E:XK},Room k (A.deeper (PyProof.Rows.envOfC x (c6 st) s.heap.objs.size f cdv))->PSs (T6 CX0 P w K mg base N x (c6 st) f cdv A outer s H E).nox (y9 st) (tStN K (fun _ _=>False) d m)):FnOk P w K mg base CX0 (k+1) f fd ps (jD K n d (g7 n l m)):=by
 subst hn hl
 exact D.F.ok S (fun _ _ _ _ h=>h.1) fun cdv A outer s H vs Q E hr h=>⟨_,b hr,vg h⟩
theorem qcD {X:Cx} {K:Frag} {d:Mode} {e:Expr} {es:List Expr} {pos:Pos} {mr:Rho->R (List W)} {k:Nat} {f:Addr} {fd:FuncData} {ps:List Str} {x:Str} {st:Stmt} {p:Pos} {n N:Nat} {m:Rho->R Fl} (F:FnOk X.prog X.w X.K X.mg X.base CX0 k f fd ps (spM K n d (g7 n N m))) (D:Def X.K X.mg x st ps f fd)
  (ha:PA X (e::es) (tA K (fun _ _=>False) .B mr)) (hd:d=.F\/d=.V:=by first | exact .inl rfl | exact .inr rfl) (hr:Room k X.A:=by exact Room.mono (by assumption) (by decide)) (hg:Gl X x:=by rfl) (hdb:(x == ("__debug__" : Str))=false:=by decide) (he:starEach (e::es) X.env=(false,eval e X.env)::starEach es X.env:=by rfl) (hpl:(backTo pos (starEach es X.env)).any (·.1)=false:=by rfl) :
  PE X (.Call (.Name x p) (e::es) [] pos) (tM K (fun _ _=>False) d (bA (g7 n N m) mr)):=E8 F hd hr hg D.m D.F.kp D.b ha hdb he hpl
theorem Ba:((99,55,26, "leaving.<locals>.<lambda>"): Addr×Nat×Nat×Str)∈L2.lamT:=by
 unfold L2.lamT; exact List.mem_cons_self
theorem o5 {X:Cx} {K:Frag} {EX:EXT} {cs:Scope} {N':List Str} {n:Nat} {tg iter elt:Expr} {ifs:List Expr} {dd:Mode} {g:TG} {mg:W->Rho->Option Rho} {mi:Rho->R (List W)} {ta:Rho->R Bool} {ma:Rho->R W} {pos:Pos} (S:g3 X.env.scope cs X.N N') (hc:X.calm=true) (hi:PI X tg iter (tIt K EX false dd mi))
  (hg:∀ cl ex s H,PG (i5 X cs cl N' ex s H) tg g) (hgt:Gt K dd g mg) (hk:B6 X.N.length g) (ht:∀ cl ex s H,PIf (i5 X cs cl N' ex s H) ifs (tT K EX ta)) (he:∀ cl ex s H,PE (i5 X cs cl N' ex s H) elt (tM K EX .V ma))
  (hn:N'.length=n:=by rfl) (hs:∀ x,foldedSetIterable iter X.env x=pure x:=by intro _; rfl):PE X (.ListComp elt [⟨tg,iter,ifs,0⟩] cs pos) (tM K EX .F (l6 n mi mg ta ma)):=by
 subst hn; exact xi S hc hi hg hgt hk ht he hs
theorem cZ {X:Cx} {K:Frag} {EX:EXT} {d:Mode} {i n:Nat} {y:Str} {py:Pos} {cs:Scope} {N':List Str} {tg iter elt:Expr} {ifs:List Expr} {dd:Mode} {g:TG} {mg:W->Rho->Option Rho} {mi:Rho->R (List W)} {ta:Rho->R Bool} {ma:Rho->R W} {cpos pos:Pos} (S:g3 X.env.scope cs X.N N') (hc:X.calm=true) (hi:PI X tg iter (tIt K EX false dd mi))
  (hg:∀ cl ex s H,PG (i5 X cs cl N' ex s H) tg g) (hgt:Gt K dd g mg) (hk:B6 X.N.length g) (ht:∀ cl ex s H,PIf (i5 X cs cl N' ex s H) ifs (tT K EX ta)) (he:∀ cl ex s H,PE (i5 X cs cl N' ex s H) elt (tM K EX .V ma))
  (hN:X.N.Nodup) (hy:X.N[i]?=some y) (hl:Loc X.env.scope y)
  (hn:N'.length=n:=by rfl) (hsw:swapsWith (.ListComp elt [⟨tg,iter,ifs,0⟩] cs cpos) (some (.Name y py)) pos.line X.env=pure true:=by rfl) (hf:X.fn y=true\/X.env.scope.names.lookup y=some .local:=by first | exact .inl rfl | exact .inr rfl | assumption)
  (hs:∀ x,foldedSetIterable iter X.env x=pure x:=by intro _; rfl):PS X (.Assign [.Name y py] (.ListComp elt [⟨tg,iter,ifs,0⟩] cs cpos) pos) (tSt K EX d (sF i (l6 n mi mg ta ma))):=by
 subst hn; exact wZ S hc hi hg hgt hk ht he hN hy hl hsw hf hs
theorem pe {X:Cx} {K:Frag} {EX:EXT} {d:Mode} {i n:Nat} {y:Str} {py:Pos} {cs:Scope} {N':List Str} {yc:Str} {tg iter elt:Expr} {ifs:List Expr} {dd:Mode} {g:TG} {mg:W->Rho->Option Rho} {mi:Rho->R (List W)} {ta:Rho->R Bool} {ma:Rho->R W} {cpos pos:Pos} (S:B7 X.env.scope cs X.N N' yc) (hc:X.calm=true) (hi:PI X tg iter (tIt K EX false dd mi))
  (hg:∀ cl ex s H,PG (i8 X cs yc cl N' ex s H) tg g) (hgt:Gt K dd g mg) (hk:B6 X.N.length g) (ht:∀ cl ex s H,PIf (i8 X cs yc cl N' ex s H) ifs (tT K EX ta)) (he:∀ cl ex s H,PE (i8 X cs yc cl N' ex s H) elt (tM K EX .V ma))
  (hN:X.N.Nodup) (hy:X.N[i]?=some y) (hl:Loc X.env.scope y)
  (hn:N'.length=n:=by rfl) (hsw:swapsWith (.ListComp elt [⟨tg,iter,ifs,0⟩] cs cpos) (some (.Name y py)) pos.line X.env=pure true:=by rfl) (hf:X.fn y=true\/X.env.scope.names.lookup y=some .local:=by first | exact .inl rfl | exact .inr rfl | assumption)
  (hs:∀ x,foldedSetIterable iter X.env x=pure x:=by intro _; rfl):PS X (.Assign [.Name y py] (.ListComp elt [⟨tg,iter,ifs,0⟩] cs cpos) pos) (tSt K EX d (sF i (l6 n mi mg ta ma))):=by
 subst hn; exact tf S hc hi hg hgt hk ht he hN hy hl hsw hf hs
theorem us0 {P:List Value->Prop} (h:P []):∀ us:List Value,us.length=0->P us:=fun us e=>by
 rw [List.length_eq_zero_iff.mp e]; exact h
theorem us1 {P:List Value->Prop} (h:∀ a0,P [a0]):∀ us:List Value,us.length=1->P us:=fun us e=>by
 cases us with
 | nil=>cases e
 | cons a us=>exact us0 (P:=fun us=>P (a::us)) (h a) us (Nat.succ.inj e)
theorem us2 {P:List Value->Prop} (h:∀ a0 a1,P [a0,a1]):∀ us:List Value,us.length=2->P us:=fun us e=>by
 cases us with
 | nil=>cases e
 | cons a us=>exact us1 (P:=fun us=>P (a::us)) (fun a1=>h a a1) us (Nat.succ.inj e)
theorem us3 {P:List Value->Prop} (h:∀ a0 a1 a2,P [a0,a1,a2]):∀ us:List Value,us.length=3->P us:=fun us e=>by
 cases us with
 | nil=>cases e
 | cons a us=>exact us2 (P:=fun us=>P (a::us)) (fun a1 a2=>h a a1 a2) us (Nat.succ.inj e)
theorem us4 {P:List Value->Prop} (h:∀ a0 a1 a2 a3,P [a0,a1,a2,a3]):∀ us:List Value,us.length=4->P us:=fun us e=>by
 cases us with
 | nil=>cases e
 | cons a us=>exact us3 (P:=fun us=>P (a::us)) (fun a1 a2 a3=>h a a1 a2 a3) us (Nat.succ.inj e)
theorem us5 {P:List Value->Prop} (h:∀ a0 a1 a2 a3 a4,P [a0,a1,a2,a3,a4]):∀ us:List Value,us.length=5->P us:=fun us e=>by
 cases us with
 | nil=>cases e
 | cons a us=>exact us4 (P:=fun us=>P (a::us)) (fun a1 a2 a3 a4=>h a a1 a2 a3 a4) us (Nat.succ.inj e)
theorem bq:f8 ["stand", "other", "number", "wanted"] ["stand", "other"] (c6 (top 4)):=by trivial
theorem wd:f8 ["stand", "move"] ["stand", "move"] (c6 (top 5)):=by trivial
theorem oD:f8 ["move"] ["move"] (c6 (top 7)):=by trivial
theorem sy:f8 ["stand", "move"] ["stand", "move"] (c6 (top 6)):=by trivial
theorem lx:f8 ["stand", "step", "times"] ["stand", "step", "times"] (c6 (top 9)):=by trivial
theorem wc:f8 ["place", "many"] ["place", "many"] (c6 (top 11)):=by trivial
theorem N5:f8 ["moves", "place", "many", "steps", "table"] ["moves", "place", "many"] (c6 (top 14)):=by trivial
theorem br:f8 ["table", "column", "gain"] ["table"] (c6 (top 15)):=by trivial
theorem dP:f8 ["table", "held", "column", "lines"] ["table", "held", "column"] (c6 (top 16)):=by trivial
theorem lA:f8 ["row", "by", "column", "scale"] ["row", "by", "column", "scale"] (c6 (top 18)):=by trivial
theorem dO:f8 ["table", "line", "column", "scale", "by"] ["table", "line", "column", "scale"] (c6 (top 17)):=by trivial
theorem z7:f8 ["one", "other", "rest"] ["one", "other"] (c6 (top 22)):=by trivial
theorem z6:f8 ["numbers", "shared", "number"] ["numbers"] (c6 (top 21)):=by trivial
theorem Z0:f8 ["table", "place", "scale", "many_moves", "losses"] ["table", "place", "scale", "many_moves"] (c6 (top 20)):=by trivial
theorem W0:f8 ["table", "held", "column", "scale", "many_moves", "times", "line", "holder"] ["table", "held", "column", "scale", "many_moves"] (c6 (top 19)):=by trivial
theorem z8:f8 ["moves", "place", "many", "table", "held", "scale", "column", "line"] ["moves", "place", "many"] (c6 (top 13)):=by trivial
theorem U0:f8 ["moves", "many", "total", "place", "told"] ["moves", "many"] (c6 (top 23)):=by trivial
theorem O0:f8 ["tree", "number", "numbers", "at"] ["tree", "number"] (c6 (top 25)):=by trivial
theorem Az:f8 ["tree", "number"] ["tree", "number"] (c6 (top 27)):=by trivial
theorem X8:f8 ["tree", "elder", "number", "path"] ["tree", "elder", "number"] (c6 (top 28)):=by trivial
theorem bR:f8 ["moor", "stand"] ["moor", "stand"] (c6 (top 31)):=by trivial
theorem F7:f8 ["moor", "most", "rows", "known", "at", "stand", "behind", "number"] ["moor", "most"] (c6 (top 30)):=by trivial
theorem ib:f8 ["rows"] ["rows"] (c6 (top 32)):=by trivial
theorem oC:f8 ["rows", "number"] ["rows", "number"] (c6 (top 33)):=by trivial
theorem J0:f8 ["rows", "number", "row", "elder"] ["rows"] (c6 (top 35)):=by trivial
theorem M4:f8 ["moor", "most", "told", "rows", "lift", "height"] ["moor", "most"] (c6 (top 34)):=by trivial
theorem cW:f8 ["_law_script", "_law_k"] ["_law_script", "_law_k"] (c6 (top 37)):=by trivial
theorem ic:f8 ["_law_script", "_law_k", "_law_many"] ["_law_script", "_law_k", "_law_many"] (c6 (top 38)):=by trivial
theorem x6:f8 ["_law_script", "_law_at", "_law_places", "_law_menu", "_law_scale_here", "_law_found", "_law_k", "_law_held"] ["_law_script", "_law_at", "_law_places", "_law_menu", "_law_scale_here"] (c6 (top 39)):=by trivial
theorem Z2:f8 ["_law_script", "_law_kind"] ["_law_script"] (c6 (top 40)):=by trivial
theorem m5:f8 ["_law_script", "_law_places", "_law_scale_here", "_law_moves", "_law_k", "_law_at", "_law_take", "_law_put", "_law_far", "_law_times", "_law_begin"] ["_law_script"] (c6 (top 41)):=by trivial
theorem fm:f8 ["_law_found"] ["_law_found"] (c6 (top 42)):=by trivial
theorem D0:f8 ["_law_found", "_law_moves", "_law_places", "_law_take", "_law_put"] ["_law_found", "_law_moves", "_law_places"] (c6 (top 43)):=by trivial
theorem E3:f8 ["_law_found", "_law_rows", "_law_stand", "_law_row"] ["_law_found", "_law_rows"] (c6 (top 44)):=by trivial
theorem fo:f8 ["_law_found", "_law_land", "_law_rows", "_law_whole_here", "_law_has_weights"] ["_law_found", "_law_land", "_law_rows", "_law_whole_here", "_law_has_weights"] (c6 (top 45)):=by trivial
theorem L9:f8 ["_law_script", "_law_land", "_law_most", "_law_found", "_law_rows", "_law_whole_here", "_law_has_weights"] ["_law_script"] (c6 (top 46)):=by trivial
section
variable {P:Program} {w:World} {mg:Str->Option Value} {base:Heap} (Y:En w mg)
include Y
theorem dD:Def (hk w) mg "covers" (top 4) ["stand", "other"] 53 (FD "covers" 4 N6 52):=dk Y (by kernel_rfl) fun _ _ _ _ _ _=>us2 fun _ _=>rfl
theorem fQ:FnOk P w (hk w) mg base CX0 1 53 (FD "covers" 4 N6 52) ["stand", "other"] (spM (hk w) 2 .F Q2):=
 okF (dD Y) bq (.inl rfl) rfl rfl fun hr=>(c8 (F0 PassesOwn.never rfl (lG (by rfl) (bl Y).zip_ (b7 (qv .U 0) (b7 (qv .U 1) b9))) (@v8 _ (hk w) _ _ _ _ 2 rfl (h7 (@e9 _ _ 2 _ bq.nd rfl (by trivial) (by trivial)) (h7 (@e9 _ _ 3 _ bq.nd rfl (by trivial) (by trivial)) v7)) (by rfl) (by rfl) (by rfl)) (A0 (.inr rfl) (h9 (.inr rfl) j4 (h9 (.inr rfl) j4 v9))) (c9 (n0 (j5 jR xLt (qv .B 2) (qv .B 3)) (c9 (g2 F5)) m9))) (c9 (g2 F5)))
theorem kx:Def (hk w) mg "able" (top 5) ["stand", "move"] 60 (FD "able" 5 N6 59):=dk Y (by kernel_rfl) fun _ _ _ _ _ _=>us2 fun _ _=>rfl
theorem mm:FnOk P w (hk w) mg base CX0 2 60 (FD "able" 5 N6 59) ["stand", "move"] (spM (hk w) 2 .F cH):=
 okF (kx Y) wd (.inl rfl) rfl rfl fun hr=>(c9 (g2 (qcD (fQ Y) (dD Y) (b7 (qv .B 0) (b7 (j3 (f9 (qv .B 1) d8)) b9)))))
theorem dF:Def (hk w) mg "change" (top 7) ["move"] 70 (FD "change" 7 N6 69):=dk Y (by kernel_rfl) fun _ _ _ _ _ _=>us1 fun _=>rfl
theorem fS:FnOk P w (hk w) mg base CX0 1 70 (FD "change" 7 N6 69) ["move"] (spM (hk w) 1 .F X2):=
 okF (dF Y) oD (.inl rfl) rfl rfl fun hr=>(c9 (g2 (P3 K5 (K4 (c:=true)) (by rfl) (bl Y).tuple_ t0 (b7 (i4 (o5 (show g3 (c6 (top 7)) _ ["move"] ["move", "take", "put"] from by trivial) rfl (bV (by rfl) (bl Y).zip_ (b7 (j3 (f9 (qv .B 0) d8)) (b7 (j3 (f9 (qv .B 0) d8)) b9))) (fun _ _ _ _=>(@v8 _ (hk w) _ _ _ _ 2 rfl (h7 (@e9 _ _ 1 _ (by decide +kernel:(["move", "take", "put"]:List Str).Nodup) rfl (Or.inl rfl) (.inr rfl)) (h7 (@e9 _ _ 2 _ (by decide +kernel:(["move", "take", "put"]:List Str).Nodup) rfl (Or.inl rfl) (.inr rfl)) v7)) (by rfl) (by rfl) (by rfl))) (A0 (.inr rfl) (h9 (.inr rfl) j4 (h9 (.inr rfl) j4 v9))) (U9 (y8 (show 1<=1 by decide) (y8 (show 1<=2 by decide) V0))) (fun _ _ _ _=>r6) (fun _ _ _ _=>(i6 fK nW (qv .B 2) (qv .B 1))))) b9))))
theorem ny:Def (hk w) mg "after" (top 6) ["stand", "move"] 65 (FD "after" 6 N6 64):=dk Y (by kernel_rfl) fun _ _ _ _ _ _=>us2 fun _ _=>rfl
theorem tQ:FnOk P w (hk w) mg base CX0 3 65 (FD "after" 6 N6 64) ["stand", "move"] (spM (hk w) 2 .F dz):=
 okF (ny Y) sy (.inl rfl) rfl rfl fun hr=>(c8 (n0 (J3 (C5 (l9 (i4 (qcD (mm Y) (kx Y) (b7 (qv .B 0) (b7 (qv .B 1) b9))))))) (c9 tj) m9) (c9 (g2 (P3 K5 (K4 (c:=true)) (by rfl) (bl Y).tuple_ t0 (b7 (i4 (o5 (show g3 (c6 (top 6)) _ ["stand", "move"] ["stand", "move", "number", "step"] from by trivial) rfl (bV (by rfl) (bl Y).zip_ (b7 (qv .B 0) (b7 (l9 (i4 (qcD (fS Y) (dF Y) (b7 (qv .B 1) b9)))) b9))) (fun _ _ _ _=>(@v8 _ (hk w) _ _ _ _ 2 rfl (h7 (@e9 _ _ 2 _ (by decide +kernel:(["stand", "move", "number", "step"]:List Str).Nodup) rfl (Or.inl rfl) (.inr rfl)) (h7 (@e9 _ _ 3 _ (by decide +kernel:(["stand", "move", "number", "step"]:List Str).Nodup) rfl (Or.inl rfl) (.inr rfl)) v7)) (by rfl) (by rfl) (by rfl))) (A0 (.inr rfl) (h9 (.inr rfl) j4 (h9 (.inr rfl) j4 v9))) (U9 (y8 (show 2<=2 by decide) (y8 (show 2<=3 by decide) V0))) (fun _ _ _ _=>r6) (fun _ _ _ _=>(i6 v0 C8 (qv .B 2) (qv .B 3))))) b9)))))
theorem bK:Def (hk w) mg "shifted" (top 9) ["stand", "step", "times"] 75 (FD "shifted" 9 pV 74):=dk Y (by kernel_rfl) fun _ _ _ _ _ _=>us3 fun _ _ _=>rfl
theorem dS:FnOk P w (hk w) mg base CX0 1 75 (FD "shifted" 9 pV 74) ["stand", "step", "times"] (spM (hk w) 3 .F N1):=
 okF (bK Y) lx (.inl rfl) rfl rfl fun hr=>(c9 (g2 (P3 K5 (K4 (c:=true)) (by rfl) (bl Y).tuple_ t0 (b7 (i4 (o5 (show g3 (c6 (top 9)) _ ["stand", "step", "times"] ["stand", "step", "times", "number", "by"] from by trivial) rfl (bV (by rfl) (bl Y).zip_ (b7 (qv .B 0) (b7 (qv .B 1) b9))) (fun _ _ _ _=>(@v8 _ (hk w) _ _ _ _ 2 rfl (h7 (@e9 _ _ 3 _ (by decide +kernel:(["stand", "step", "times", "number", "by"]:List Str).Nodup) rfl (Or.inl rfl) (.inr rfl)) (h7 (@e9 _ _ 4 _ (by decide +kernel:(["stand", "step", "times", "number", "by"]:List Str).Nodup) rfl (Or.inl rfl) (.inr rfl)) v7)) (by rfl) (by rfl) (by rfl))) (A0 (.inr rfl) (h9 (.inr rfl) j4 (h9 (.inr rfl) j4 v9))) (U9 (y8 (show 3<=3 by decide) (y8 (show 3<=4 by decide) V0))) (fun _ _ _ _=>r6) (fun _ _ _ _=>(i6 v0 C8 (qv .B 3) (i6 x8 (w8 (C:=CMulB) (g:=m4) (fun _ _=>rfl) (fun _ _ _=>.int)) (qv .B 2) (qv .B 4)))))) b9))))
theorem ko:Def (hk w) mg "unit" (top 11) ["place", "many"] 80 (FD "unit" 11 pX 79):=dk Y (by kernel_rfl) fun _ _ _ _ _ _=>us2 fun _ _=>rfl
theorem lX:FnOk P w (hk w) mg base CX0 1 80 (FD "unit" 11 pX 79) ["place", "many"] (spM (hk w) 2 .F cG):=
 okF (ko Y) wc (.inl rfl) rfl rfl fun hr=>(c9 (g2 (P3 K5 (K4 (c:=true)) (by rfl) (bl Y).tuple_ t0 (b7 (i4 (o5 (show g3 (c6 (top 11)) _ ["place", "many"] ["place", "many", "at"] from by trivial) rfl (M5 (by rfl) (bl Y).range_ (b7 (qv .B 1) b9)) (fun _ _ _ _=>(@e9 _ _ 2 _ (by decide +kernel:(["place", "many", "at"]:List Str).Nodup) rfl (Or.inl rfl) (.inr rfl))) j4 (t6 (show 2<=2 by decide)) (fun _ _ _ _=>r6) (fun _ _ _ _=>(pf (j5 (fN (al hr)) (ck (neg:=false)) (qv .B 2) (qv .B 0)) d8 d8)))) b9))))
theorem ax:Def (hk w) mg "first_table" (top 14) ["moves", "place", "many"] 90 (FD "first_table" 14 m8 89):=dk Y (by kernel_rfl) fun _ _ _ _ _ _=>us3 fun _ _ _=>rfl
theorem eE:FnOk P w (hk w) mg base CX0 2 90 (FD "first_table" 14 m8 89) ["moves", "place", "many"] (spM (hk w) 3 .F F3):=
 okF (ax Y) N5 (.inl rfl) rfl rfl fun hr=>(c8 (j9 (i:=3) N5.nd rfl (by trivial) (o5 (show g3 (c6 (top 14)) _ ["moves", "place", "many", "steps", "table"] ["moves", "place", "many", "steps", "table", "move"] from by trivial) rfl (E7 (qv .B 0)) (fun _ _ _ _=>(@e9 _ _ 5 _ (by decide +kernel:(["moves", "place", "many", "steps", "table", "move"]:List Str).Nodup) rfl (Or.inl rfl) (.inr rfl))) j4 (t6 (show 5<=5 by decide)) (fun _ _ _ _=>r6) (fun _ _ _ _=>(t9 (qcD (fS Y) (dF Y) (b7 (qv .B 5) b9))))) (by rfl) (by trivial)) (c8 (pe (i:=4) (show B7 (c6 (top 14)) _ ["moves", "place", "many", "steps", "table"] ["moves", "place", "many", "steps", "table", "at"] "at" from ⟨rfl,⟨fun _ _=>rfl,fun _=>rfl⟩,by decide +kernel,by rfl,by decide +kernel,by decide +kernel,by decide +kernel,by decide,by decide +kernel,by decide +kernel⟩) rfl (M5 (by rfl) (bl Y).range_ (b7 (qv .B 2) b9)) (fun _ _ _ _=>(@e9 _ _ 5 _ (by decide +kernel:(["moves", "place", "many", "steps", "table", "at"]:List Str).Nodup) rfl (Or.inr rfl) (.inl (by first | rfl | exact beq_self_eq_true _)))) j4 (t6 (show 5<=5 by decide)) (fun _ _ _ _=>r6) (fun _ _ _ _=>(t9 (i6 df dh (l9 (i4 (P3 K5 (K4 (c:=true)) (by rfl) (bl Y).tuple_ t0 (b7 (i4 (o5 (by exact nC ⟨rfl,by decide +kernel,by decide +kernel,by decide +kernel,by decide +kernel,by decide,by decide +kernel,by decide +kernel⟩) rfl (E7 (qv .B 3)) (fun _ _ _ _=>(@e9 _ _ 6 _ (by decide +kernel:(["moves", "place", "many", "steps", "table", "at", "step"]:List Str).Nodup) rfl (Or.inl rfl) (.inr rfl))) j4 (t6 (show 6<=6 by decide)) (fun _ _ _ _=>r6) (fun _ _ _ _=>(fA Y5 (fX (g:=P8) (fun _=>rfl) (fun _ _=>.int)) (j3 (f9 (qv .B 6) (qv .B 5))))))) b9)))) (l9 (i4 (qcD (lX Y) (ko Y) (b7 (qv .B 5) (b7 (qv .B 2) b9)))))))) N5.nd rfl (by trivial)) (c8 (@ce _ _ _ _ _ _ _ 4 _ _ _ _ rfl (by trivial) (t9 (i6 df dh (l9 (i4 (P3 K5 (K4 (c:=true)) (by rfl) (bl Y).tuple_ t0 (b7 (i4 (o5 (show g3 (c6 (top 14)) _ ["moves", "place", "many", "steps", "table"] ["moves", "place", "many", "steps", "table", "step"] from by trivial) rfl (E7 (qv .B 3)) (fun _ _ _ _=>(@e9 _ _ 5 _ (by decide +kernel:(["moves", "place", "many", "steps", "table", "step"]:List Str).Nodup) rfl (Or.inl rfl) (.inr rfl))) j4 (t6 (show 5<=5 by decide)) (fun _ _ _ _=>r6) (fun _ _ _ _=>(ca (f9 (qv .B 5) (qv .B 1)))))) b9)))) (l9 (i4 (i6 iO iR (i4 (x3 (f7 b9))) (qv .C 2)))))) (by decide) (by decide) (by rfl) (by rfl) (by rfl) (by rfl) (by rfl)) (c9 (@bX _ _ _ _ _ 4 _ _ (.inl rfl) (by rfl) (by trivial) (by decide) (by decide))))))
theorem dE:Def (hk w) mg "coming" (top 15) ["table"] 97 (FD "coming" 15 m8 96):=dk Y (by kernel_rfl) fun _ _ _ _ _ _=>us1 fun _=>rfl
theorem fR:FnOk P w (hk w) mg base CX0 1 97 (FD "coming" 15 m8 96) ["table"] (spM (hk w) 1 .F Q3):=
 okF (dE Y) br (.inl rfl) rfl rfl fun hr=>(c8 (F0 PassesOwn.never rfl (@fE _ _ _ _ _ _ _ _ _ _ (by rfl) (bl Y).enumerate_ (b7 (f9 (qv .B 0) (fA Y5 (fX (g:=P8) (fun _=>rfl) (fun _ _=>.int)) d8)) b9) (by rfl) (by rfl)) (@v8 _ (hk w) _ _ _ _ 2 rfl (h7 (@e9 _ _ 1 _ br.nd rfl (by trivial) (by trivial)) (h7 (@e9 _ _ 2 _ br.nd rfl (by trivial) (by trivial)) v7)) (by rfl) (by rfl) (by rfl)) (A0 (.inr rfl) (h9 (.inr rfl) j4 (h9 (.inr rfl) j4 v9))) (c9 (n0 (j5 R8 xGt (qv .B 2) d8) (c9 (@bX _ _ _ _ _ 1 _ _ (.inl rfl) (by rfl) (by trivial) (by decide) (by decide))) m9))) (c9 (g2 R6)))
theorem gB:Def (hk w) mg "leaving" (top 16) ["table", "held", "column"] 102 (FD "leaving" 16 m8 101):=dk Y (by kernel_rfl) fun _ _ _ _ _ _=>us3 fun _ _ _=>rfl
theorem lZ:FnOk P w (hk w) mg base CX0 3 102 (FD "leaving" 16 m8 101) ["table", "held", "column"] (spM (hk w) 3 .F aq):=
 okL (gB Y) dP (.inl rfl) rfl rfl fun hr=>(c8 (cZ (i:=3) (show g3 (c6 (top 16)) _ ["table", "held", "column", "lines"] ["table", "held", "column", "lines", "line"] from by trivial) rfl (M5 (by rfl) (bl Y).range_ (b7 (o9 w6 w4 (by rfl) (bl Y).len_ PySem.boot_len (b7 (qv .B 1) b9)) b9)) (fun _ _ _ _=>(@e9 _ _ 4 _ (by decide +kernel:(["table", "held", "column", "lines", "line"]:List Str).Nodup) rfl (Or.inl rfl) (.inr rfl))) j4 (t6 (show 4<=4 by decide)) (fun _ _ _ _=>(lJ (j5 R8 xGt (j3 (f9 (j3 (f9 (qv .B 0) (qv .B 4))) (qv .B 2))) d8))) (fun _ _ _ _=>(qv .V 4)) dP.nd rfl (by trivial)) (c9 (g2 (@xa _ _ _ _ 101 _ _ _ _ _ _ _ _ _ _ _ _ _ 1 _ Ba (by kernel_rfl) (by rfl) (by rfl) (by rfl) (by rfl) (by rfl) (by rfl) rfl _ (by exact hr) (by rfl) (bl Y).min_ (b7 (qv .B 3) b9) (by rfl) (by rfl) (by rfl) (by rfl) (by rfl) (by rfl)))))
theorem gG:Def (hk w) mg "cleared" (top 18) ["row", "by", "column", "scale"] 112 (FD "cleared" 18 m8 111):=dk Y (by kernel_rfl) fun _ _ _ _ _ _=>us4 fun _ _ _ _=>rfl
theorem mf:FnOk P w (hk w) mg base CX0 1 112 (FD "cleared" 18 m8 111) ["row", "by", "column", "scale"] (spM (hk w) 4 .F ar):=
 okF (gG Y) lA (.inl rfl) rfl rfl fun hr=>(c9 (g2 (P3 K5 (K4 (c:=true)) (by rfl) (bl Y).tuple_ t0 (b7 (i4 (o5 (show g3 (c6 (top 18)) _ ["row", "by", "column", "scale"] ["row", "by", "column", "scale", "number", "mate"] from by trivial) rfl (bV (by rfl) (bl Y).zip_ (b7 (qv .B 0) (b7 (qv .B 1) b9))) (fun _ _ _ _=>(@v8 _ (hk w) _ _ _ _ 2 rfl (h7 (@e9 _ _ 4 _ (by decide +kernel:(["row", "by", "column", "scale", "number", "mate"]:List Str).Nodup) rfl (Or.inl rfl) (.inr rfl)) (h7 (@e9 _ _ 5 _ (by decide +kernel:(["row", "by", "column", "scale", "number", "mate"]:List Str).Nodup) rfl (Or.inl rfl) (.inr rfl)) v7)) (by rfl) (by rfl) (by rfl))) (A0 (.inr rfl) (h9 (.inr rfl) j4 (h9 (.inr rfl) j4 v9))) (U9 (y8 (show 4<=4 by decide) (y8 (show 4<=5 by decide) V0))) (fun _ _ _ _=>r6) (fun _ _ _ _=>(i6 fM (w8 (C:=O3) (g:=ao) (fun _ _=>rfl) (fun _ _ _=>.int)) (i6 fK nW (i6 x8 (w8 (C:=CMulB) (g:=m4) (fun _ _=>rfl) (fun _ _ _=>.int)) (qv .B 4) (j3 (f9 (qv .B 1) (qv .B 2)))) (i6 x8 (w8 (C:=CMulB) (g:=m4) (fun _ _=>rfl) (fun _ _ _=>.int)) (j3 (f9 (qv .B 0) (qv .B 2))) (qv .B 5))) (qv .B 3))))) b9))))
theorem gz:Def (hk w) mg "pivoted" (top 17) ["table", "line", "column", "scale"] 107 (FD "pivoted" 17 m8 106):=dk Y (by kernel_rfl) fun _ _ _ _ _ _=>us4 fun _ _ _ _=>rfl
theorem lY:FnOk P w (hk w) mg base CX0 2 107 (FD "pivoted" 17 m8 106) ["table", "line", "column", "scale"] (spM (hk w) 4 .F S5):=
 okF (gz Y) dO (.inl rfl) rfl rfl fun hr=>(c8 (@fB _ _ _ _ _ _ _ 4 _ _ dO.nd rfl (by trivial) (f9 (qv .B 0) (qv .B 1)) (by rfl) (by trivial)) (c9 (g2 (o5 (show g3 (c6 (top 17)) _ ["table", "line", "column", "scale", "by"] ["table", "line", "column", "scale", "by", "at", "row"] from by trivial) rfl (@lK _ _ _ _ _ _ _ _ _ _ (by rfl) (bl Y).enumerate_ (b7 (qv .B 0) b9) (by rfl) (by rfl)) (fun _ _ _ _=>(@v8 _ (hk w) _ _ _ _ 2 rfl (h7 (@e9 _ _ 5 _ (by decide +kernel:(["table", "line", "column", "scale", "by", "at", "row"]:List Str).Nodup) rfl (Or.inl rfl) (.inr rfl)) (h7 (@e9 _ _ 6 _ (by decide +kernel:(["table", "line", "column", "scale", "by", "at", "row"]:List Str).Nodup) rfl (Or.inl rfl) (.inr rfl)) v7)) (by rfl) (by rfl) (by rfl))) (A0 (.inr rfl) (h9 (.inr rfl) j4 (h9 (.inr rfl) j4 v9))) (U9 (y8 (show 5<=5 by decide) (y8 (show 5<=6 by decide) V0))) (fun _ _ _ _=>r6) (fun _ _ _ _=>(pf (j5 (fN (al hr)) (ck (neg:=false)) (qv .B 5) (qv .B 1)) (qv .V 6) (t9 (qcD (mf Y) (gG Y) (b7 (qv .B 6) (b7 (qv .B 4) (b7 (qv .B 2) (b7 (qv .B 3) b9))))))))))))
theorem N8:Def (hk w) mg "greatest_divisor" (top 22) ["one", "other"] 136 (FD "greatest_divisor" 22 m8 135):=dk Y (by kernel_rfl) fun _ _ _ _ _ _=>us2 fun _ _=>rfl
theorem Z7:FnOk P w (hk w) mg base CX0 1 136 (FD "greatest_divisor" 22 m8 135) ["one", "other"] (spM (hk w) 2 .F A1):=
 okF (N8 Y) z7 (.inl rfl) rfl rfl fun hr=>(c8 (aJ PassesOwn.never (j5 jQ fW (qv .B 1) d8) (c8 (q5 (i:=2) z7.nd rfl (by trivial) (i6 U3 (w8 (C:=K3) (g:=L5) (fun _ _=>rfl) (fun _ _ _=>.int)) (qv .B 0) (qv .B 1)) (by rfl) (by trivial)) (c8 (q5 (i:=0) z7.nd rfl (by trivial) (qv .V 1) (by rfl) (by trivial)) (c9 (q5 (i:=1) z7.nd rfl (by trivial) (qv .V 2) (by rfl) (by trivial)))))) (c9 (@bX _ _ _ _ _ 0 _ _ (.inl rfl) (by rfl) (by trivial) (by decide) (by decide))))
theorem A5:Def (hk w) mg "in_least_numbers" (top 21) ["numbers"] 129 (FD "in_least_numbers" 21 m8 128):=dk Y (by kernel_rfl) fun _ _ _ _ _ _=>us1 fun _=>rfl
theorem D1:FnOk P w (hk w) mg base CX0 2 129 (FD "in_least_numbers" 21 m8 128) ["numbers"] (spM (hk w) 1 .F v5):=
 okF (A5 Y) z6 (.inl rfl) rfl rfl fun hr=>(c8 (q5 (i:=1) z6.nd rfl (by trivial) d8 (by rfl) (by trivial)) (c8 (F0 PassesOwn.never rfl (bZ (qv .U 0)) (@e9 _ _ 2 _ z6.nd rfl (by trivial) (by trivial)) j4 (c9 (j9 (i:=1) z6.nd rfl (by trivial) (qcD (Z7 Y) (N8 Y) (b7 (qv .B 1) (b7 (qv .B 2) b9))) (by rfl) (by trivial)))) (c9 (g2 (P3 K5 (K4 (c:=true)) (by rfl) (bl Y).tuple_ t0 (b7 (i4 (o5 (show g3 (c6 (top 21)) _ ["numbers", "shared", "number"] ["numbers", "shared", "#number", "number"] from by trivial) rfl (E7 (qv .B 0)) (fun _ _ _ _=>(@e9 _ _ 3 _ (by decide +kernel:(["numbers", "shared", "#number", "number"]:List Str).Nodup) rfl (Or.inl rfl) (.inr rfl))) j4 (t6 (show 3<=3 by decide)) (fun _ _ _ _=>r6) (fun _ _ _ _=>(i6 fM (w8 (C:=O3) (g:=ao) (fun _ _=>rfl) (fun _ _ _=>.int)) (qv .B 3) (qv .B 1))))) b9))))))
theorem aZ:Def (hk w) mg "weights_of" (top 20) ["table", "place", "scale", "many_moves"] 124 (FD "weights_of" 20 m8 123):=dk Y (by kernel_rfl) fun _ _ _ _ _ _=>us4 fun _ _ _ _=>rfl
theorem fO:FnOk P w (hk w) mg base CX0 3 124 (FD "weights_of" 20 m8 123) ["table", "place", "scale", "many_moves"] (spM (hk w) 4 .F P9):=
 okF (aZ Y) Z0 (.inl rfl) rfl rfl fun hr=>(c8 (cZ (i:=4) (show g3 (c6 (top 20)) _ ["table", "place", "scale", "many_moves", "losses"] ["table", "place", "scale", "many_moves", "losses", "gain"] from by trivial) rfl (E7 (l9 (i4 (@jJ _ _ _ _ _ _ _ _ _ _ _ (j3 (f9 (qv .B 0) (fA Y5 (fX (g:=P8) (fun _=>rfl) (fun _ _=>.int)) d8))) (da (qv .B 3)) db (by rfl))))) (fun _ _ _ _=>(@e9 _ _ 5 _ (by decide +kernel:(["table", "place", "scale", "many_moves", "losses", "gain"]:List Str).Nodup) rfl (Or.inl rfl) (.inr rfl))) j4 (t6 (show 5<=5 by decide)) (fun _ _ _ _=>r6) (fun _ _ _ _=>(fA Y5 (fX (g:=P8) (fun _=>rfl) (fun _ _=>.int)) (qv .B 5))) Z0.nd rfl (by trivial)) (c9 (g2 (qcD (D1 Y) (A5 Y) (b7 (l9 (i4 (qcD (dS Y) (bK Y) (b7 (qv .B 4) (b7 (l9 (i4 (qcD (lX Y) (ko Y) (b7 (qv .B 1) (b7 (o9 w6 w4 (by rfl) (bl Y).len_ PySem.boot_len (b7 (qv .B 4) b9)) b9))))) (b7 (qv .B 2) b9)))))) b9)))))
theorem jl:Def (hk w) mg "bag_of" (top 19) ["table", "held", "column", "scale", "many_moves"] 119 (FD "bag_of" 19 m8 118):=dk Y (by kernel_rfl) fun _ _ _ _ _ _=>us5 fun _ _ _ _ _=>rfl
theorem pz:FnOk P w (hk w) mg base CX0 3 119 (FD "bag_of" 19 m8 118) ["table", "held", "column", "scale", "many_moves"] (spM (hk w) 5 .F bH):=
 okF (jl Y) W0 (.inl rfl) rfl rfl fun hr=>(c8 (j9 (i:=5) W0.nd rfl (by trivial) (i6 xC (xH (c:=true)) (i4 (O1 (f7 b9))) (o9 w6 w4 (by rfl) (bl Y).len_ PySem.boot_len (b7 (j3 (f9 (qv .B 0) d8)) b9))) (by rfl) (by trivial)) (c8 (@jK _ _ _ _ _ _ _ _ 5 _ _ _ _ rfl (by trivial) (qv .B 2) (qv .V 3) (by decide) (by decide) (@fH _ _ _ _ _ _ _ (@pv _ 5 _ _ (by rfl) (by trivial) (by decide) (by decide)) (qv .B 2) set_list (by intro _; rfl)) (by rfl) (by rfl)) (c8 (F0 PassesOwn.never rfl (@fE _ _ _ _ _ _ _ _ _ _ (by rfl) (bl Y).enumerate_ (b7 (qv .U 1) b9) (by rfl) (by rfl)) (@v8 _ (hk w) _ _ _ _ 2 rfl (h7 (@e9 _ _ 6 _ W0.nd rfl (by trivial) (by trivial)) (h7 (@e9 _ _ 7 _ W0.nd rfl (by trivial) (by trivial)) v7)) (by rfl) (by rfl) (by rfl)) (A0 (.inr rfl) (h9 (.inr rfl) j4 (h9 (.inr rfl) j4 v9))) (c9 (@jK _ _ _ _ _ _ _ _ 5 _ _ _ _ rfl (by trivial) (qv .B 7) (fA Y5 (fX (g:=P8) (fun _=>rfl) (fun _ _=>.int)) (j3 (f9 (j3 (f9 (qv .B 0) (qv .B 6))) (qv .B 2)))) (by decide) (by decide) (@fH _ _ _ _ _ _ _ (@pv _ 5 _ _ (by rfl) (by trivial) (by decide) (by decide)) (qv .B 7) set_list (by intro _; rfl)) (by rfl) (by rfl)))) (c9 (g2 (qcD (D1 Y) (A5 Y) (b7 (l9 (i4 (@pc _ _ _ _ _ _ true _ _ _ _ _ (qv .C 5) db (da (qv .B 4)) (by rfl)))) b9)))))))
theorem gJ:Def (hk w) mg "ceiling" (top 13) ["moves", "place", "many"] 85 (FD "ceiling" 13 m8 84):=dk Y (by kernel_rfl) fun _ _ _ _ _ _=>us3 fun _ _ _=>rfl
theorem mj:FnOk P w (hk w) mg base CX0 4 85 (FD "ceiling" 13 m8 84) ["moves", "place", "many"] (spM (hk w) 3 .F av):=
 okF (gJ Y) z8 (.inl rfl) rfl rfl fun hr=>(c8 (j9 (i:=3) z8.nd rfl (by trivial) (qcD (eE Y) (ax Y) (b7 (qv .B 0) (b7 (qv .B 1) (b7 (qv .B 2) b9)))) (by rfl) (by trivial)) (c8 (cZ (i:=4) (show g3 (c6 (top 13)) _ ["moves", "place", "many", "table", "held", "scale", "column", "line"] ["moves", "place", "many", "table", "held", "scale", "column", "line", "at"] from by trivial) rfl (M5 (by rfl) (bl Y).range_ (b7 (qv .B 2) b9)) (fun _ _ _ _=>(@e9 _ _ 8 _ (by decide +kernel:(["moves", "place", "many", "table", "held", "scale", "column", "line", "at"]:List Str).Nodup) rfl (Or.inl rfl) (.inr rfl))) j4 (t6 (show 8<=8 by decide)) (fun _ _ _ _=>r6) (fun _ _ _ _=>(i6 v0 C8 (o9 w6 w4 (by rfl) (bl Y).len_ PySem.boot_len (b7 (qv .B 0) b9)) (qv .B 8))) z8.nd rfl (by trivial)) (c8 (q5 (i:=5) z8.nd rfl (by trivial) d8 (by rfl) (by trivial)) (c8 (j9 (i:=6) z8.nd rfl (by trivial) (qcD (fR Y) (dE Y) (b7 (qv .B 3) b9)) (by rfl) (by trivial)) (c8 (aJ PassesOwn.never (j5 de dg (qv .B 6) R6) (c8 (j9 (i:=7) z8.nd rfl (by trivial) (qcD (lZ Y) (gB Y) (b7 (qv .B 3) (b7 (qv .B 4) (b7 (qv .B 6) b9)))) (by rfl) (by trivial)) (c8 (n0 (j5 xE xK (qv .B 7) R6) (c9 (g2 (x3 (b7 B2 (b7 (t9 (qcD (pz Y) (jl Y) (b7 (qv .B 3) (b7 (qv .B 4) (b7 (qv .B 6) (b7 (qv .B 5) (b7 (o9 w6 w4 (by rfl) (bl Y).len_ PySem.boot_len (b7 (qv .B 0) b9)) b9))))))) b9))))) m9) (c8 (j9 (i:=3) z8.nd rfl (by trivial) (qcD (lY Y) (gz Y) (b7 (qv .B 3) (b7 (qv .B 7) (b7 (qv .B 6) (b7 (qv .B 5) b9))))) (by rfl) (by trivial)) (c8 (aM (@jK _ _ _ _ _ _ _ _ 4 _ _ _ _ rfl (by trivial) (qv .B 7) (qv .V 6) (by decide) (by decide) (@fH _ _ _ _ _ _ _ (@pv _ 4 _ _ (by rfl) (by trivial) (by decide) (by decide)) (qv .B 7) set_list (by intro _; rfl)) (by rfl) (by rfl))) (c8 (q5 (i:=5) z8.nd rfl (by trivial) (R7 (ph (R7 (qv .C 3) (qv .C 7))) (qv .C 6)) (by rfl) (by trivial)) (c9 (j9 (i:=6) z8.nd rfl (by trivial) (qcD (fR Y) (dE Y) (b7 (qv .B 3) b9)) (by rfl) (by trivial))))))))) (c9 (g2 (x3 (b7 B2 (b7 (t9 (qcD (fO Y) (aZ Y) (b7 (qv .B 3) (b7 (qv .B 1) (b7 (qv .B 5) (b7 (o9 w6 w4 (by rfl) (bl Y).len_ PySem.boot_len (b7 (qv .B 0) b9)) b9)))))) b9))))))))))
theorem gA:Def (hk w) mg "level" (top 23) ["moves", "many"] 143 (FD "level" 23 m8 142):=dk Y (by kernel_rfl) fun _ _ _ _ _ _=>us2 fun _ _=>rfl
theorem iP:FnOk P w (hk w) mg base CX0 5 143 (FD "level" 23 m8 142) ["moves", "many"] (spM (hk w) 2 .F V1):=
 okF (gA Y) U0 (.inl rfl) rfl rfl fun hr=>(c8 (j9 (i:=2) U0.nd rfl (by trivial) (i6 iO iR (i4 (x3 (f7 b9))) (qv .C 1)) (by rfl) (by trivial)) (c8 (F0 PassesOwn.never rfl (M5 (by rfl) (bl Y).range_ (b7 (qv .B 1) b9)) (@e9 _ _ 3 _ U0.nd rfl (by trivial) (by trivial)) j4 (c8 (j9 (i:=4) U0.nd rfl (by trivial) (qcD (mj Y) (gJ Y) (b7 (qv .B 0) (b7 (qv .B 3) (b7 (qv .B 1) b9)))) (by rfl) (by trivial)) (c8 (n0 (j5 B3 y6 (j3 (f9 (qv .B 4) d8)) B2) (c9 (g2 (x3 (b7 B2 (b7 (qv .V 3) (b7 (R7 (qv .C 4) d8) b9)))))) m9) (c9 (j9 (i:=2) U0.nd rfl (by trivial) (qcD (dS Y) (bK Y) (b7 (qv .B 2) (b7 (j3 (f9 (qv .B 4) d8)) (f7 b9)))) (by rfl) (by trivial)))))) (c9 (g2 (x3 (b7 B2 (b7 (t9 (qcD (D1 Y) (A5 Y) (b7 (qv .B 2) b9))) b9)))))))
theorem aw:Def (hk w) mg "way_back" (top 25) ["tree", "number"] 150 (FD "way_back" 25 pW 149):=dk Y (by kernel_rfl) fun _ _ _ _ _ _=>us2 fun _ _=>rfl
theorem ci:FnOk P w (hk w) mg base CX0 1 150 (FD "way_back" 25 pW 149) ["tree", "number"] (spM (hk w) 2 .F J7):=
 okF (aw Y) O0 (.inl rfl) rfl rfl fun hr=>(c8 (j9 (i:=2) O0.nd rfl (by trivial) (O1 b9) (by rfl) (by trivial)) (c8 (q5 (i:=3) O0.nd rfl (by trivial) (qv .V 1) (by rfl) (by trivial)) (c8 (aJ PassesOwn.never (j5 de dg (qv .B 3) R6) (c8 (@ce _ _ _ _ _ _ _ 2 _ _ _ _ rfl (by trivial) (qv .V 3) (by decide) (by decide) (by rfl) (by rfl) (by rfl) (by rfl) (by rfl)) (c9 (@fB _ _ _ _ _ _ _ 3 _ _ O0.nd rfl (by trivial) (f9 (j3 (f9 (qv .B 0) (qv .B 3))) d8) (by rfl) (by trivial))))) (c9 (@bX _ _ _ _ _ 2 _ _ (.inl rfl) (by rfl) (by trivial) (by decide) (by decide))))))
theorem zw:Def (hk w) mg "way" (top 27) ["tree", "number"] 157 (FD "way" 27 du 156):=dk Y (by kernel_rfl) fun _ _ _ _ _ _=>us2 fun _ _=>rfl
theorem AV:FnOk P w (hk w) mg base CX0 2 157 (FD "way" 27 du 156) ["tree", "number"] (spM (hk w) 2 .F kj):=
 okF (zw Y) Az (.inl rfl) rfl rfl fun hr=>(c9 (g2 (@xb _ _ _ _ _ _ _ _ _ rfl (by rfl) (bl Y).list_ (by rfl) (bl Y).reversed_ (b7 (l9 (i4 (qcD (ci Y) (aw Y) (b7 (qv .B 0) (b7 (qv .B 1) b9))))) b9) (by rfl) (by rfl) (by rfl))))
theorem Q5:Def (hk w) mg "row_between" (top 28) ["tree", "elder", "number"] 162 (FD "row_between" 28 du 161):=dk Y (by kernel_rfl) fun _ _ _ _ _ _=>us3 fun _ _ _=>rfl
theorem X9:FnOk P w (hk w) mg base CX0 3 162 (FD "row_between" 28 du 161) ["tree", "elder", "number"] (spM (hk w) 3 .F B8):=
 okF (Q5 Y) X8 (.inl rfl) rfl rfl fun hr=>(c8 (j9 (i:=3) X8.nd rfl (by trivial) (qcD (AV Y) (zw Y) (b7 (qv .B 0) (b7 (qv .B 2) b9))) (by rfl) (by trivial)) (c9 (g2 (o5 (show g3 (c6 (top 28)) _ ["tree", "elder", "number", "path"] ["tree", "elder", "number", "path", "at"] from by trivial) rfl (E7 (l9 (i4 (@pc _ _ _ _ _ _ true _ _ _ _ _ (qv .C 3) (da (i6 v0 C8 (@tu _ _ _ _ _ _ _ _ _ _ (al hr) (qv .B 3) (qv .B 1) (by rfl) (by rfl) (by rfl) (by rfl) (by rfl) (by rfl)) d8)) db (by rfl))))) (fun _ _ _ _=>(@e9 _ _ 4 _ (by decide +kernel:(["tree", "elder", "number", "path", "at"]:List Str).Nodup) rfl (Or.inl rfl) (.inr rfl))) j4 (t6 (show 4<=4 by decide)) (fun _ _ _ _=>r6) (fun _ _ _ _=>(ca (f9 (j3 (f9 (qv .B 0) (qv .B 4))) d8)))))))
theorem V4:Def (hk w) mg "stands_behind" (top 31) ["moor", "stand"] 174 (FD "stands_behind" 31 C3 173):=dk Y (by kernel_rfl) fun _ _ _ _ _ _=>us2 fun _ _=>rfl
theorem cj:FnOk P w (hk w) mg base CX0 4 174 (FD "stands_behind" 31 C3 173) ["moor", "stand"] (spM (hk w) 2 .F J8):=
 okF (V4 Y) bR (.inl rfl) rfl rfl fun hr=>(c9 (g2 (o5 (show g3 (c6 (top 31)) _ ["moor", "stand"] ["moor", "stand", "number", "move"] from by trivial) rfl (@lK _ _ _ _ _ _ _ _ _ _ (by rfl) (bl Y).enumerate_ (b7 (j3 (f9 (qv .B 0) d8)) b9) (by rfl) (by rfl)) (fun _ _ _ _=>(@v8 _ (hk w) _ _ _ _ 2 rfl (h7 (@e9 _ _ 2 _ (by decide +kernel:(["moor", "stand", "number", "move"]:List Str).Nodup) rfl (Or.inl rfl) (.inr rfl)) (h7 (@e9 _ _ 3 _ (by decide +kernel:(["moor", "stand", "number", "move"]:List Str).Nodup) rfl (Or.inl rfl) (.inr rfl)) v7)) (by rfl) (by rfl) (by rfl))) (A0 (.inr rfl) (h9 (.inr rfl) j4 (h9 (.inr rfl) j4 v9))) (U9 (y8 (show 2<=2 by decide) (y8 (show 2<=3 by decide) V0))) (fun _ _ _ _=>(lJ (C5 (l9 (i4 (qcD (mm Y) (kx Y) (b7 (qv .B 1) (b7 (qv .B 3) b9)))))))) (fun _ _ _ _=>(t9 (x3 (b7 (t9 (qcD (tQ Y) (ny Y) (b7 (qv .B 1) (b7 (qv .B 3) b9)))) (b7 (qv .V 2) b9))))))))
theorem gD:Def (hk w) mg "flood" (top 30) ["moor", "most"] 169 (FD "flood" 30 C3 168):=dk Y (by kernel_rfl) fun _ _ _ _ _ _=>us2 fun _ _=>rfl
theorem iQ:FnOk P w (hk w) mg base CX0 5 169 (FD "flood" 30 C3 168) ["moor", "most"] (spM (hk w) 2 .F V2):=
 okF (gD Y) F7 (.inl rfl) rfl rfl fun hr=>(c8 (j9 (i:=2) F7.nd rfl (by trivial) (O1 (b7 (t9 (x3 (b7 (ca (f9 (qv .B 0) d8)) (b7 R6 (b7 R6 b9))))) b9)) (by rfl) (by trivial)) (c8 (@xg _ _ _ _ _ _ _ _ _ 3 _ _ _ (al hr) F7.nd rfl (by trivial) (j3 (f9 (qv .B 0) d8)) F5 (by rfl) (by first | exact Or.inl rfl | exact Or.inr rfl | assumption)) (c8 (q5 (i:=4) F7.nd rfl (by trivial) d8 (by rfl) (by trivial)) (c8 (aJ PassesOwn.never (j5 jR xLt (qv .B 4) (o9 w6 w4 (by rfl) (bl Y).len_ PySem.boot_len (b7 (qv .B 2) b9))) (c8 (q5 (i:=5) F7.nd rfl (by trivial) (R7 (ph (R7 (qv .C 2) (qv .C 4))) d8) (by rfl) (by trivial)) (c8 (F0 PassesOwn.never rfl (bZ (xk (t9 (qcD (cj Y) (V4 Y) (b7 (qv .B 0) (b7 (qv .B 5) b9)))))) (@v8 _ (hk w) _ _ _ _ 2 rfl (h7 (@e9 _ _ 6 _ F7.nd rfl (by trivial) (by trivial)) (h7 (@e9 _ _ 7 _ F7.nd rfl (by trivial) (by trivial)) v7)) (by rfl) (by rfl) (by rfl)) (A0 (.inr rfl) (h9 (.inr rfl) j4 (h9 (.inr rfl) j4 v9))) (c8 (n0 (@AI _ _ _ _ _ _ 3 _ _ (al hr) rfl (by trivial) (qv .B 6) (by decide) (by decide) (by rfl)) (c9 xh) m9) (c8 (n0 (j5 B3 y6 (o9 w6 w4 (by rfl) (bl Y).len_ PySem.boot_len (b7 (qv .B 2) b9)) (qv .B 1)) (c9 (aM (g2 (x3 (b7 (qv .V 2) (b7 F5 b9)))))) m9) (c8 (@xf _ _ _ _ _ _ _ _ _ 3 _ _ _ (al hr) rfl (by trivial) (qv .B 6) F5 (by decide) (by decide) (by rfl)) (c9 (@ce _ _ _ _ _ _ _ 2 _ _ _ _ rfl (by trivial) (t9 (x3 (b7 (qv .V 6) (b7 (qv .V 4) (b7 (qv .V 7) b9))))) (by decide) (by decide) (by rfl) (by rfl) (by rfl) (by rfl) (by rfl))))))) (c9 (@AJ _ _ _ _ _ _ _ 4 _ _ _ _ F7.nd rfl (by trivial) d8 yD (by trivial)))))) (c9 (aM (g2 (x3 (b7 (qv .V 2) (b7 F5 b9))))))))))
theorem cK:Def (hk w) mg "stands_in" (top 32) ["rows"] 179 (FD "stands_in" 32 C3 178):=dk Y (by kernel_rfl) fun _ _ _ _ _ _=>us1 fun _=>rfl
theorem ie:FnOk P w (hk w) mg base CX0 1 179 (FD "stands_in" 32 C3 178) ["rows"] (spM (hk w) 1 .F S8):=
 okF (cK Y) ib (.inl rfl) rfl rfl fun hr=>(c9 (g2 (o5 (show g3 (c6 (top 32)) _ ["rows"] ["rows", "row"] from by trivial) rfl (E7 (qv .B 0)) (fun _ _ _ _=>(@e9 _ _ 1 _ (by decide +kernel:(["rows", "row"]:List Str).Nodup) rfl (Or.inl rfl) (.inr rfl))) j4 (t6 (show 1<=1 by decide)) (fun _ _ _ _=>r6) (fun _ _ _ _=>(ca (f9 (qv .B 1) d8))))))
theorem jg:Def (hk w) mg "row_to" (top 33) ["rows", "number"] 186 (FD "row_to" 33 C3 185):=dk Y (by kernel_rfl) fun _ _ _ _ _ _=>us2 fun _ _=>rfl
theorem px:FnOk P w (hk w) mg base CX0 4 186 (FD "row_to" 33 C3 185) ["rows", "number"] (spM (hk w) 2 .F bG):=
 okF (jg Y) oC (.inl rfl) rfl rfl fun hr=>(c9 (g2 (qcD (X9 Y) (Q5 Y) (b7 (qv .B 0) (f7 (b7 (qv .B 1) b9))))))
theorem ba:Def (hk w) mg "first_lift" (top 35) ["rows"] 200 (FD "first_lift" 35 C3 199):=dk Y (by kernel_rfl) fun _ _ _ _ _ _=>us1 fun _=>rfl
theorem fP:FnOk P w (hk w) mg base CX0 2 200 (FD "first_lift" 35 C3 199) ["rows"] (spM (hk w) 1 .F Q0):=
 okF (ba Y) J0 (.inl rfl) rfl rfl fun hr=>(c8 (F0 PassesOwn.never rfl (@fE _ _ _ _ _ _ _ _ _ _ (by rfl) (bl Y).enumerate_ (b7 (qv .U 0) b9) (by rfl) (by rfl)) (@v8 _ (hk w) _ _ _ _ 2 rfl (h7 (@e9 _ _ 1 _ J0.nd rfl (by trivial) (by trivial)) (h7 (@e9 _ _ 2 _ J0.nd rfl (by trivial) (by trivial)) v7)) (by rfl) (by rfl) (by rfl)) (A0 (.inr rfl) (h9 (.inr rfl) j4 (h9 (.inr rfl) j4 v9))) (c9 (F0 PassesOwn.never rfl (bZ (xk (t9 (@pc _ _ _ _ _ _ true _ _ _ _ _ (i4 (qcD (ci Y) (aw Y) (b7 (qv .B 0) (b7 (qv .B 1) b9)))) (da d8) db (by rfl))))) (@e9 _ _ 3 _ J0.nd rfl (by trivial) (by trivial)) j4 (c9 (n0 (C5 (l9 (i4 (qcD (fQ Y) (dD Y) (b7 (j3 (f9 (qv .B 2) d8)) (b7 (j3 (f9 (j3 (f9 (qv .B 0) (qv .B 3))) d8)) b9)))))) (c9 (g2 (x3 (b7 (qv .V 3) (b7 (qv .V 1) b9))))) m9))))) (c9 (g2 R6)))
theorem D5:Def (hk w) mg "bounded" (top 34) ["moor", "most"] 193 (FD "bounded" 34 C3 192):=dk Y (by kernel_rfl) fun _ _ _ _ _ _=>us2 fun _ _=>rfl
theorem Z8:FnOk P w (hk w) mg base CX0 6 193 (FD "bounded" 34 C3 192) ["moor", "most"] (spM (hk w) 2 .V N3):=
 okF (D5 Y) M4 (.inr rfl) rfl rfl fun hr=>(c8 (j9 (i:=2) M4.nd rfl (by trivial) (qcD (iQ Y) (gD Y) (b7 (qv .B 0) (b7 (qv .B 1) b9))) (by rfl) (by trivial)) (c8 (q5 (i:=3) M4.nd rfl (by trivial) (R7 (qv .C 2) d8) (by rfl) (by trivial)) (c8 (j9 (i:=4) M4.nd rfl (by trivial) (qcD (fP Y) (ba Y) (b7 (qv .B 3) b9)) (by rfl) (by trivial)) (c8 (n0 (j5 de dg (qv .B 4) R6) (c9 (g2 (t9 (x3 (b7 B2 (b7 (t9 (qcD (px Y) (jg Y) (b7 (qv .B 3) (b7 (j3 (f9 (qv .B 4) d8)) b9)))) (b7 (t9 (qcD (X9 Y) (Q5 Y) (b7 (qv .B 3) (b7 (j3 (f9 (qv .B 4) d8)) (b7 (j3 (f9 (qv .B 4) d8)) b9))))) b9))))))) m9) (c8 (n0 (C5 (j3 (f9 (qv .B 2) d8))) (c9 (g2 (t9 (x3 (b7 B2 (b7 (t9 (qcD (ie Y) (cK Y) (b7 (qv .B 3) b9))) b9)))))) m9) (c8 (j9 (i:=5) M4.nd rfl (by trivial) (qcD (iP Y) (gA Y) (b7 (j3 (f9 (qv .B 0) d8)) (b7 (o9 w6 w4 (by rfl) (bl Y).len_ PySem.boot_len (b7 (j3 (f9 (qv .B 0) d8)) b9)) b9))) (by rfl) (by trivial)) (c9 (aM (g2 (pf (j5 B3 y6 (j3 (f9 (qv .B 5) d8)) B2) (qv .V 5) (t9 (x3 (b7 B2 b9)))))))))))))
theorem F4:Def (hk w) mg "_law_cell_at" (top 37) ["_law_script", "_law_k"] 207 (FD "_law_cell_at" 37 n9 206):=dk Y (by kernel_rfl) fun _ _ _ _ _ _=>us2 fun _ _=>rfl
theorem L1:FnOk P w (hk w) mg base CX0 1 207 (FD "_law_cell_at" 37 n9 206) ["_law_script", "_law_k"] (spM (hk w) 2 .F A6):=
 okF (F4 Y) cW (.inl rfl) rfl rfl fun hr=>(c8 (n0 (j5 R8 xGt (o9 w6 w4 (by rfl) (bl Y).len_ PySem.boot_len (b7 (qv .B 0) b9)) d8) (c9 (g2 (xj (f9 (qv .B 0) (i6 U3 (w8 (C:=K3) (g:=L5) (fun _ _=>rfl) (fun _ _ _=>.int)) (qv .B 1) (o9 w6 w4 (by rfl) (bl Y).len_ PySem.boot_len (b7 (qv .B 0) b9))))))) m9) (c9 (g2 d8)))
theorem i0:Def (hk w) mg "_law_draw" (top 38) ["_law_script", "_law_k", "_law_many"] 214 (FD "_law_draw" 38 n9 213):=dk Y (by kernel_rfl) fun _ _ _ _ _ _=>us3 fun _ _ _=>rfl
theorem n8:FnOk P w (hk w) mg base CX0 2 214 (FD "_law_draw" 38 n9 213) ["_law_script", "_law_k", "_law_many"] (spM (hk w) 3 .F l7):=
 okF (i0 Y) ic (.inl rfl) rfl rfl fun hr=>(c9 (g2 (i6 U3 (w8 (C:=K3) (g:=L5) (fun _ _=>rfl) (fun _ _ _=>.int)) (i6 tO (w8 (C:=aD) (g:=ao) (fun _ _=>rfl) (fun _ _ _=>.int)) (i6 U3 (w8 (C:=K3) (g:=L5) (fun _ _=>rfl) (fun _ _ _=>.int)) (i6 x8 (w8 (C:=CMulB) (g:=m4) (fun _ _=>rfl) (fun _ _ _=>.int)) (i6 v0 C8 (l9 (i4 (qcD (L1 Y) (F4 Y) (b7 (qv .B 0) (b7 (qv .B 1) b9))))) d8) (i6 v0 C8 (i6 v0 C8 (i6 x8 (w8 (C:=CMulB) (g:=m4) (fun _ _=>rfl) (fun _ _ _=>.int)) (qv .B 1) (qv .B 1)) (i6 x8 (w8 (C:=CMulB) (g:=m4) (fun _ _=>rfl) (fun _ _ _=>.int)) d8 (qv .B 1))) d8)) d8) d8) (qv .B 2))))
theorem m7:Def (hk w) mg "_law_numbers" (top 39) ["_law_script", "_law_at", "_law_places", "_law_menu", "_law_scale_here"] 221 (FD "_law_numbers" 39 n9 220):=dk Y (by kernel_rfl) fun _ _ _ _ _ _=>us5 fun _ _ _ _ _=>rfl
theorem L0:FnOk P w (hk w) mg base CX0 3 221 (FD "_law_numbers" 39 n9 220) ["_law_script", "_law_at", "_law_places", "_law_menu", "_law_scale_here"] (spM (hk w) 5 .F o7):=
 okF (m7 Y) x6 (.inl rfl) rfl rfl fun hr=>(c8 (j9 (i:=5) x6.nd rfl (by trivial) (O1 b9) (by rfl) (by trivial)) (c8 (F0 PassesOwn.never rfl (M5 (by rfl) (bl Y).range_ (b7 (qv .B 2) b9)) (@e9 _ _ 6 _ x6.nd rfl (by trivial) (by trivial)) j4 (c8 (@fB _ _ _ _ _ _ _ 7 _ _ x6.nd rfl (by trivial) (f9 (qv .B 3) (l9 (i4 (qcD (n8 Y) (i0 Y) (b7 (qv .B 0) (b7 (i6 v0 C8 (qv .B 1) (qv .B 6)) (b7 (o9 w6 w4 (by rfl) (bl Y).len_ PySem.boot_len (b7 (qv .B 3) b9)) b9))))))) (by rfl) (by trivial)) (c8 (n0 (PW.pt (wY (j5 B3 y6 (qv .B 4) d8) (sZ (j5 R8 xGt (qv .B 7) d8)))) (c9 (q5 (i:=7) x6.nd rfl (by trivial) (i6 U3 (w8 (C:=K3) (g:=L5) (fun _ _=>rfl) (fun _ _ _=>.int)) (i6 x8 (w8 (C:=CMulB) (g:=m4) (fun _ _=>rfl) (fun _ _ _=>.int)) (i6 v0 C8 (l9 (i4 (qcD (L1 Y) (F4 Y) (b7 (qv .B 0) (b7 (i6 v0 C8 (qv .B 1) (qv .B 6)) b9))))) (qv .B 6)) d8) (i6 v0 C8 (i6 fL (w8 (C:=R0) (g:=bF) (fun _ _=>rfl) (fun _ _ _=>.int)) d8 d8) d8)) (by rfl) (by trivial))) (c9 (q5 (i:=7) x6.nd rfl (by trivial) (i6 x8 (w8 (C:=CMulB) (g:=m4) (fun _ _=>rfl) (fun _ _ _=>.int)) (qv .B 7) (qv .B 4)) (by rfl) (by trivial)))) (c9 (@ce _ _ _ _ _ _ _ 5 _ _ _ _ rfl (by trivial) (qv .V 7) (by decide) (by decide) (by rfl) (by rfl) (by rfl) (by rfl) (by rfl)))))) (c9 (g2 (P3 K5 (K4 (c:=true)) (by rfl) (bl Y).tuple_ t0 (b7 (qv .C 5) b9))))))
theorem M0:Def (hk w) mg "_law_scale" (top 40) ["_law_script"] 228 (FD "_law_scale" 40 n9 227):=dk Y (by kernel_rfl) fun _ _ _ _ _ _=>us1 fun _=>rfl
theorem fV:FnOk P w (hk w) mg base CX0 3 228 (FD "_law_scale" 40 n9 227) ["_law_script"] (spM (hk w) 1 .F Q4):=
 okF (M0 Y) Z2 (.inl rfl) rfl rfl fun hr=>(c8 (j9 (i:=1) Z2.nd rfl (by trivial) (qcD (n8 Y) (i0 Y) (b7 (qv .B 0) (f7 (f7 b9)))) (by rfl) (by trivial)) (c8 (n0 (j5 B3 y6 (qv .B 1) d8) (c9 (g2 d8)) m9) (c8 (n0 (j5 R8 xGt (qv .B 1) d8) (c9 (g2 (i6 v0 C8 d8 (i6 U3 (w8 (C:=K3) (g:=L5) (fun _ _=>rfl) (fun _ _ _=>.int)) (i6 x8 (w8 (C:=CMulB) (g:=m4) (fun _ _=>rfl) (fun _ _ _=>.int)) (l9 (i4 (qcD (L1 Y) (F4 Y) (b7 (qv .B 0) (f7 b9))))) d8) (i6 fL (w8 (C:=R0) (g:=bF) (fun _ _=>rfl) (fun _ _ _=>.int)) d8 d8))))) m9) (c9 (g2 d8)))))
theorem cL:Def (hk w) mg "_law_moor" (top 41) ["_law_script"] 233 (FD "_law_moor" 41 n9 232):=dk Y (by kernel_rfl) fun _ _ _ _ _ _=>us1 fun _=>rfl
theorem ig:FnOk P w (hk w) mg base CX0 4 233 (FD "_law_moor" 41 n9 232) ["_law_script"] (spM (hk w) 1 .F S9):=
 okF (cL Y) m5 (.inl rfl) rfl rfl fun hr=>(@c8 _ _ _ _ _ _ _ _ (@q5 _ _ _ _ _ _ _ 1 _ _ m5.nd rfl (by trivial) (@R7 _ _ _ _ _ _ _ _ (@i4 _ _ _ _ _ (@xc _ _ _ _ _ _ _ _ _ _ _ _ _ _ _ _ _ _ _ _ _ _ _ _ _ _ _ _)) (@i4 _ _ _ _ _ (@E8 _ _ _ _ _ _ _ _ _ _ _ _ _ _ _ _ (n8 Y) (.inl rfl) (by trivial) (by rfl) (i0 Y).m (i0 Y).F.kp (i0 Y).b (@b7 _ _ _ _ _ _ _ _ (@qv _ _ _ _ .B 0 _ (by rfl) (by trivial) (by decide) (by decide)) (@f7 _ _ _ _ _ _ _ _ _ (@f7 _ _ _ _ _ _ _ _ _ (@b9 _ _ _ _))) (by rfl)) (by decide) (by rfl) (by rfl))) (by exact fun _ _=>rfl) (by rfl)) (by rfl) (by trivial)) (@c8 _ _ _ _ _ _ _ _ (@j9 _ _ _ _ _ _ _ 2 _ _ m5.nd rfl (by trivial) (@E8 _ _ _ _ _ _ _ _ _ _ _ _ _ _ _ _ (fV Y) (.inl rfl) (by trivial) (by rfl) (M0 Y).m (M0 Y).F.kp (M0 Y).b (@b7 _ _ _ _ _ _ _ _ (@qv _ _ _ _ .B 0 _ (by rfl) (by trivial) (by decide) (by decide)) (@b9 _ _ _ _) (by rfl)) (by decide) (by rfl) (by rfl)) (by rfl) (by trivial)) (@c8 _ _ _ _ _ _ _ _ (@j9 _ _ _ _ _ _ _ 3 _ _ m5.nd rfl (by trivial) (@O1 _ _ _ _ _ _ (@b9 _ _ _ _)) (by rfl) (by trivial)) (@c8 _ _ _ _ _ _ _ _ (@F0 _ _ _ _ _ _ _ _ _ _ _ _ _ PassesOwn.never rfl (@M5 _ _ _ _ _ _ _ _ _ (by rfl) (bl Y).range_ (@b7 _ _ _ _ _ _ _ _ (@j3 _ _ _ _ _ (@f9 _ _ _ _ _ _ _ _ (@l9 _ _ _ _ _ (@i4 _ _ _ _ _ (@tq _ _ _ _ _ _ _ _ _ _ _ _ _ _ _ _ _ _ _ _ _ _ _ _ _ _ _ _ _ _ _ _ _ _ _ _ _))) (@l9 _ _ _ _ _ (@i4 _ _ _ _ _ (@E8 _ _ _ _ _ _ _ _ _ _ _ _ _ _ _ _ (n8 Y) (.inl rfl) (by trivial) (by rfl) (i0 Y).m (i0 Y).F.kp (i0 Y).b (@b7 _ _ _ _ _ _ _ _ (@qv _ _ _ _ .B 0 _ (by rfl) (by trivial) (by decide) (by decide)) (@f7 _ _ _ _ _ _ _ _ _ (@f7 _ _ _ _ _ _ _ _ _ (@b9 _ _ _ _))) (by rfl)) (by decide) (by rfl) (by rfl)))) (by exact fun _ _=>rfl) (by rfl))) (@b9 _ _ _ _) (by rfl)) (by rfl)) (@e9 _ _ 4 _ m5.nd rfl (by trivial) (by trivial)) (@j4 _ _) (@c8 _ _ _ _ _ _ _ _ (@q5 _ _ _ _ _ _ _ 5 _ _ m5.nd rfl (by trivial) (@i6 _ _ _ _ _ _ _ _ _ _ _ _ _ v0 C8 (@d8 _ _ _ _ _ _ _) (@i6 _ _ _ _ _ _ _ _ _ _ _ _ _ x8 (w8 (C:=CMulB) (g:=m4) (fun _ _=>rfl) (fun _ _ _=>.int)) (@qv _ _ _ _ .B 1 _ (by rfl) (by trivial) (by decide) (by decide)) (@i6 _ _ _ _ _ _ _ _ _ _ _ _ _ v0 C8 (@i6 _ _ _ _ _ _ _ _ _ _ _ _ _ x8 (w8 (C:=CMulB) (g:=m4) (fun _ _=>rfl) (fun _ _ _=>.int)) (@d8 _ _ _ _ _ _ _) (@qv _ _ _ _ .B 4 _ (by rfl) (by trivial) (by decide) (by decide))) (@d8 _ _ _ _ _ _ _)))) (by rfl) (by trivial)) (@c8 _ _ _ _ _ _ _ _ (@j9 _ _ _ _ _ _ _ 6 _ _ m5.nd rfl (by trivial) (@E8 _ _ _ _ _ _ _ _ _ _ _ _ _ _ _ _ (L0 Y) (.inl rfl) (by trivial) (by rfl) (m7 Y).m (m7 Y).F.kp (m7 Y).b (@b7 _ _ _ _ _ _ _ _ (@qv _ _ _ _ .B 0 _ (by rfl) (by trivial) (by decide) (by decide)) (@b7 _ _ _ _ _ _ _ _ (@qv _ _ _ _ .B 5 _ (by rfl) (by trivial) (by decide) (by decide)) (@b7 _ _ _ _ _ _ _ _ (@qv _ _ _ _ .B 1 _ (by rfl) (by trivial) (by decide) (by decide)) (@b7 _ _ _ _ _ _ _ _ (@l9 _ _ _ _ _ (@i4 _ _ _ _ _ (@fD _ _ _ _ _ _ _ _ _ _ _ _ _ _ _ _ _ _ _ _ _ _))) (@b7 _ _ _ _ _ _ _ _ (@qv _ _ _ _ .B 2 _ (by rfl) (by trivial) (by decide) (by decide)) (@b9 _ _ _ _) (by rfl)) (by rfl)) (by rfl)) (by rfl)) (by rfl)) (by decide) (by rfl) (by rfl)) (by rfl) (by trivial)) (@c8 _ _ _ _ _ _ _ _ (@j9 _ _ _ _ _ _ _ 7 _ _ m5.nd rfl (by trivial) (@E8 _ _ _ _ _ _ _ _ _ _ _ _ _ _ _ _ (L0 Y) (.inl rfl) (by trivial) (by rfl) (m7 Y).m (m7 Y).F.kp (m7 Y).b (@b7 _ _ _ _ _ _ _ _ (@qv _ _ _ _ .B 0 _ (by rfl) (by trivial) (by decide) (by decide)) (@b7 _ _ _ _ _ _ _ _ (@i6 _ _ _ _ _ _ _ _ _ _ _ _ _ v0 C8 (@qv _ _ _ _ .B 5 _ (by rfl) (by trivial) (by decide) (by decide)) (@qv _ _ _ _ .B 1 _ (by rfl) (by trivial) (by decide) (by decide))) (@b7 _ _ _ _ _ _ _ _ (@qv _ _ _ _ .B 1 _ (by rfl) (by trivial) (by decide) (by decide)) (@b7 _ _ _ _ _ _ _ _ (@l9 _ _ _ _ _ (@i4 _ _ _ _ _ (@fD _ _ _ _ _ _ _ _ _ _ _ _ _ _ _ _ _ _ _ _ _ _))) (@b7 _ _ _ _ _ _ _ _ (@qv _ _ _ _ .B 2 _ (by rfl) (by trivial) (by decide) (by decide)) (@b9 _ _ _ _) (by rfl)) (by rfl)) (by rfl)) (by rfl)) (by rfl)) (by decide) (by rfl) (by rfl)) (by rfl) (by trivial)) (@c8 _ _ _ _ _ _ _ _ (@n0 _ _ _ _ _ _ _ _ _ _ _ (@j5 _ _ _ _ _ _ _ _ _ _ _ _ R8 xGt (@l9 _ _ _ _ _ (@i4 _ _ _ _ _ (@E8 _ _ _ _ _ _ _ _ _ _ _ _ _ _ _ _ (n8 Y) (.inl rfl) (by trivial) (by rfl) (i0 Y).m (i0 Y).F.kp (i0 Y).b (@b7 _ _ _ _ _ _ _ _ (@qv _ _ _ _ .B 0 _ (by rfl) (by trivial) (by decide) (by decide)) (@f7 _ _ _ _ _ _ _ _ _ (@f7 _ _ _ _ _ _ _ _ _ (@b9 _ _ _ _))) (by rfl)) (by decide) (by rfl) (by rfl)))) (@d8 _ _ _ _ _ _ _) (by trivial)) (@c8 _ _ _ _ _ _ _ _ (@j9 _ _ _ _ _ _ _ 8 _ _ m5.nd rfl (by trivial) (@E8 _ _ _ _ _ _ _ _ _ _ _ _ _ _ _ _ (n8 Y) (.inl rfl) (by trivial) (by rfl) (i0 Y).m (i0 Y).F.kp (i0 Y).b (@b7 _ _ _ _ _ _ _ _ (@qv _ _ _ _ .B 0 _ (by rfl) (by trivial) (by decide) (by decide)) (@b7 _ _ _ _ _ _ _ _ (@i6 _ _ _ _ _ _ _ _ _ _ _ _ _ v0 C8 (@qv _ _ _ _ .B 5 _ (by rfl) (by trivial) (by decide) (by decide)) (@qv _ _ _ _ .B 1 _ (by rfl) (by trivial) (by decide) (by decide))) (@b7 _ _ _ _ _ _ _ _ (@qv _ _ _ _ .B 1 _ (by rfl) (by trivial) (by decide) (by decide)) (@b9 _ _ _ _) (by rfl)) (by rfl)) (by rfl)) (by decide) (by rfl) (by rfl)) (by rfl) (by trivial)) (@c9 _ _ _ _ _ _ (@q5 _ _ _ _ _ _ _ 7 _ _ m5.nd rfl (by trivial) (@t9 _ _ _ _ _ (@i6 _ _ _ _ _ _ _ _ _ _ _ _ _ df dh (@l9 _ _ _ _ _ (@i4 _ _ _ _ _ (@jJ _ _ _ _ _ _ _ _ _ _ _ (@qv _ _ _ _ .B 6 _ (by rfl) (by trivial) (by decide) (by decide)) (@da _ _ _ _ _ (@qv _ _ _ _ .B 8 _ (by rfl) (by trivial) (by decide) (by decide))) (@db _ _ _) (by rfl)))) (@l9 _ _ _ _ _ (@i4 _ _ _ _ _ (@jJ _ _ _ _ _ _ _ _ _ _ _ (@qv _ _ _ _ .B 6 _ (by rfl) (by trivial) (by decide) (by decide)) (@db _ _ _) (@da _ _ _ _ _ (@qv _ _ _ _ .B 8 _ (by rfl) (by trivial) (by decide) (by decide))) (by rfl)))))) (by rfl) (by trivial)))) (@m9 _ _ _ _)) (@c9 _ _ _ _ _ _ (@aM _ _ _ _ _ _ _ (@aM _ _ _ _ _ _ _ (@ce _ _ _ _ _ _ _ 3 _ _ _ _ rfl (by trivial) (@t9 _ _ _ _ _ (@x3 _ _ _ _ _ _ _ (@b7 _ _ _ _ _ _ _ _ (@qv _ _ _ _ .V 6 _ (by rfl) (by trivial) (by decide) (by decide)) (@b7 _ _ _ _ _ _ _ _ (@qv _ _ _ _ .V 7 _ (by rfl) (by trivial) (by decide) (by decide)) (@b9 _ _ _ _) (by rfl)) (by rfl)))) (by decide) (by decide) (by rfl) (by rfl) (by rfl) (by rfl) (by rfl))))))))) (by intro _; rfl)) (@c8 _ _ _ _ _ _ _ _ (@q5 _ _ _ _ _ _ _ 9 _ _ m5.nd rfl (by trivial) (@R7 _ _ _ _ _ _ _ _ (@i4 _ _ _ _ _ (@O1 _ _ _ _ _ _ (@f7 _ _ _ _ _ _ _ _ _ (@f7 _ _ _ _ _ _ _ _ _ (@f7 _ _ _ _ _ _ _ _ _ (@b7 _ _ _ _ _ _ _ _ (@i6 _ _ _ _ _ _ _ _ _ _ _ _ _ fL (w8 (C:=R0) (g:=bF) (fun _ _=>rfl) (fun _ _ _=>.int)) (@d8 _ _ _ _ _ _ _) (@d8 _ _ _ _ _ _ _)) (@b9 _ _ _ _) (by rfl))))))) (@i4 _ _ _ _ _ (@E8 _ _ _ _ _ _ _ _ _ _ _ _ _ _ _ _ (n8 Y) (.inl rfl) (by trivial) (by rfl) (i0 Y).m (i0 Y).F.kp (i0 Y).b (@b7 _ _ _ _ _ _ _ _ (@qv _ _ _ _ .B 0 _ (by rfl) (by trivial) (by decide) (by decide)) (@f7 _ _ _ _ _ _ _ _ _ (@f7 _ _ _ _ _ _ _ _ _ (@b9 _ _ _ _))) (by rfl)) (by decide) (by rfl) (by rfl))) (by exact fun _ _=>rfl) (by rfl)) (by rfl) (by trivial)) (@c8 _ _ _ _ _ _ _ _ (@j9 _ _ _ _ _ _ _ 10 _ _ m5.nd rfl (by trivial) (@E8 _ _ _ _ _ _ _ _ _ _ _ _ _ _ _ _ (L0 Y) (.inl rfl) (by trivial) (by rfl) (m7 Y).m (m7 Y).F.kp (m7 Y).b (@b7 _ _ _ _ _ _ _ _ (@qv _ _ _ _ .B 0 _ (by rfl) (by trivial) (by decide) (by decide)) (@f7 _ _ _ _ _ _ _ _ _ (@b7 _ _ _ _ _ _ _ _ (@qv _ _ _ _ .B 1 _ (by rfl) (by trivial) (by decide) (by decide)) (@b7 _ _ _ _ _ _ _ _ (@l9 _ _ _ _ _ (@i4 _ _ _ _ _ (@fD _ _ _ _ _ _ _ _ _ _ _ _ _ _ _ _ _ _ _ _ _ _))) (@b7 _ _ _ _ _ _ _ _ (@qv _ _ _ _ .B 2 _ (by rfl) (by trivial) (by decide) (by decide)) (@b9 _ _ _ _) (by rfl)) (by rfl)) (by rfl))) (by rfl)) (by decide) (by rfl) (by rfl)) (by rfl) (by trivial)) (@c9 _ _ _ _ _ _ (@g2 _ _ _ _ _ _ _ (@x3 _ _ _ _ _ _ _ (@b7 _ _ _ _ _ _ _ _ (@t9 _ _ _ _ _ (@P3 _ _ _ _ _ _ _ _ _ _ _ _ _ _ K5 (K4 (c:=true)) (by rfl) (bl Y).tuple_ t0 (@b7 _ _ _ _ _ _ _ _ (@i4 _ _ _ _ _ (o5 (show g3 (c6 (top 41)) _ ["_law_script", "_law_places", "_law_scale_here", "_law_moves", "_law_k", "_law_at", "_law_take", "_law_put", "_law_far", "_law_times", "_law_begin"] ["_law_script", "_law_places", "_law_scale_here", "_law_moves", "_law_k", "_law_at", "_law_take", "_law_put", "_law_far", "_law_times", "_law_begin", "_law_held"] from by trivial) rfl (@E7 _ _ _ _ _ _ (@qv _ _ _ _ .B 10 _ (by rfl) (by trivial) (by decide) (by decide)) (by rfl)) (fun _ _ _ _=>(@e9 _ _ 11 _ (by decide +kernel:(["_law_script", "_law_places", "_law_scale_here", "_law_moves", "_law_k", "_law_at", "_law_take", "_law_put", "_law_far", "_law_times", "_law_begin", "_law_held"]:List Str).Nodup) rfl (Or.inl rfl) (.inr rfl))) (@j4 _ _) (t6 (show 11<=11 by decide)) (fun _ _ _ _=>(@r6 _ _ _)) (fun _ _ _ _=>(@i6 _ _ _ _ _ _ _ _ _ _ _ _ _ x8 (w8 (C:=CMulB) (g:=m4) (fun _ _=>rfl) (fun _ _ _=>.int)) (@qv _ _ _ _ .B 11 _ (by rfl) (by trivial) (by decide) (by decide)) (@qv _ _ _ _ .B 9 _ (by rfl) (by trivial) (by decide) (by decide)))))) (@b9 _ _ _ _) (by rfl)) (by decide) (by decide) (by rfl) (by rfl))) (@b7 _ _ _ _ _ _ _ _ (@t9 _ _ _ _ _ (@P3 _ _ _ _ _ _ _ _ _ _ _ _ _ _ K5 (K4 (c:=true)) (by rfl) (bl Y).tuple_ t0 (@b7 _ _ _ _ _ _ _ _ (@qv _ _ _ _ .C 3 _ (by rfl) (by trivial) (by decide) (by decide)) (@b9 _ _ _ _) (by rfl)) (by decide) (by decide) (by rfl) (by rfl))) (@b9 _ _ _ _) (by rfl)) (by rfl)))))))))))
theorem T0:Def (hk w) mg "_law_whole" (top 42) ["_law_found"] 240 (FD "_law_whole" 42 n9 239):=dk Y (by kernel_rfl) fun _ _ _ _ _ _=>us1 fun _=>rfl
theorem Z9:FnOk P w (hk w) mg base CX0 1 240 (FD "_law_whole" 42 n9 239) ["_law_found"] (spM (hk w) 1 .F J9):=
 okF (T0 Y) fm (.inl rfl) rfl rfl fun hr=>(c9 (g2 (W2 (o9 F6 X6 (by rfl) (bl Y).isinstance_ PyProof.Rows.boot_isinstance (b7 (qv .B 0) (b7 (@bu _ _ _ _ _ _ _ (by rfl) (bl Y).int_ Aj (by decide) (by decide)) b9))) (bY (jL (o9 F6 X6 (by rfl) (bl Y).isinstance_ PyProof.Rows.boot_isinstance (b7 (qv .B 0) (b7 (@bu _ _ _ _ _ _ _ (by rfl) (bl Y).bool_ vh (by decide) (by decide)) b9))))))))
theorem N9:Def (hk w) mg "_law_are_weights" (top 43) ["_law_found", "_law_moves", "_law_places"] 245 (FD "_law_are_weights" 43 n9 244):=dk Y (by kernel_rfl) fun _ _ _ _ _ _=>us3 fun _ _ _=>rfl
theorem ac:FnOk P w (hk w) mg base CX0 2 245 (FD "_law_are_weights" 43 n9 244) ["_law_found", "_law_moves", "_law_places"] (spM (hk w) 3 .F D4):=
 okF (N9 Y) D0 (.inl rfl) rfl rfl fun hr=>(c8 (n0 (PW.pt (aK (J3 (C5 (o9 F6 X6 (by rfl) (bl Y).isinstance_ PyProof.Rows.boot_isinstance (b7 (qv .B 0) (b7 (@bu _ _ _ _ _ _ _ (by rfl) (bl Y).tuple_ t0 (by decide) (by decide)) b9))))) (bW (j5 jQ fW (o9 w6 w4 (by rfl) (bl Y).len_ PySem.boot_len (b7 (qv .B 0) b9)) (qv .B 2))))) (c9 (g2 F5)) m9) (c8 (n0 (J3 (C5 (o9 (eC rfl) (jq (g:=dv)) (by rfl) (bl Y).all_ nK (b7 (l9 (i4 (o5 (show g3 (c6 (top 43)) _ ["_law_found", "_law_moves", "_law_places", "_law_take", "_law_put"] ["_law_found", "_law_moves", "_law_places", "_law_take", "_law_put", "_law_number"] from by trivial) rfl (E7 (qv .B 0)) (fun _ _ _ _=>(@e9 _ _ 5 _ (by decide +kernel:(["_law_found", "_law_moves", "_law_places", "_law_take", "_law_put", "_law_number"]:List Str).Nodup) rfl (Or.inl rfl) (.inr rfl))) j4 (t6 (show 5<=5 by decide)) (fun _ _ _ _=>r6) (fun _ _ _ _=>(W2 (l9 (i4 (qcD (Z9 Y) (T0 Y) (b7 (qv .B 5) b9)))) (bY (W1 R8 xGt (qv .B 5) d8))))))) b9)))) (c9 (g2 F5)) m9) (c8 (F0 PassesOwn.never rfl (bZ (qv .U 1)) (@v8 _ (hk w) _ _ _ _ 2 rfl (h7 (@e9 _ _ 3 _ D0.nd rfl (by trivial) (by trivial)) (h7 (@e9 _ _ 4 _ D0.nd rfl (by trivial) (by trivial)) v7)) (by rfl) (by rfl) (by rfl)) (A0 (.inr rfl) (h9 (.inr rfl) j4 (h9 (.inr rfl) j4 v9))) (c9 (n0 (j5 R8 xGt (o9 (nE rfl) (Al (g:=kg)) (by rfl) (bl Y).sum_ Ah (b7 (l9 (i4 (o5 (show g3 (c6 (top 43)) _ ["_law_found", "_law_moves", "_law_places", "_law_take", "_law_put"] ["_law_found", "_law_moves", "_law_places", "_law_take", "_law_put", "_law_k"] from by trivial) rfl (M5 (by rfl) (bl Y).range_ (b7 (qv .B 2) b9)) (fun _ _ _ _=>(@e9 _ _ 5 _ (by decide +kernel:(["_law_found", "_law_moves", "_law_places", "_law_take", "_law_put", "_law_k"]:List Str).Nodup) rfl (Or.inl rfl) (.inr rfl))) j4 (t6 (show 5<=5 by decide)) (fun _ _ _ _=>r6) (fun _ _ _ _=>(i6 x8 (w8 (C:=CMulB) (g:=m4) (fun _ _=>rfl) (fun _ _ _=>.int)) (j3 (f9 (qv .B 0) (qv .B 5))) (i6 fK nW (j3 (f9 (qv .B 4) (qv .B 5))) (j3 (f9 (qv .B 3) (qv .B 5))))))))) b9)) d8) (c9 (g2 F5)) m9))) (c9 (g2 F5)))))
theorem Q6:Def (hk w) mg "_law_are_stands" (top 44) ["_law_found", "_law_rows"] 250 (FD "_law_are_stands" 44 n9 249):=dk Y (by kernel_rfl) fun _ _ _ _ _ _=>us2 fun _ _=>rfl
theorem aU:FnOk P w (hk w) mg base CX0 2 250 (FD "_law_are_stands" 44 n9 249) ["_law_found", "_law_rows"] (spM (hk w) 2 .F E5):=
 okF (Q6 Y) E3 (.inl rfl) rfl rfl fun hr=>(c8 (n0 (PW.pt (aK (J3 (C5 (o9 F6 X6 (by rfl) (bl Y).isinstance_ PyProof.Rows.boot_isinstance (b7 (qv .B 0) (b7 (@bu _ _ _ _ _ _ _ (by rfl) (bl Y).list_ jo (by decide) (by decide)) b9))))) (bW (j5 jQ fW (o9 w6 w4 (by rfl) (bl Y).len_ PySem.boot_len (b7 (qv .B 0) b9)) (o9 w6 w4 (by rfl) (bl Y).len_ PySem.boot_len (b7 (qv .B 1) b9)))))) (c9 (g2 F5)) m9) (c8 (F0 PassesOwn.never rfl (lG (by rfl) (bl Y).zip_ (b7 (qv .U 0) (b7 (qv .U 1) b9))) (@v8 _ (hk w) _ _ _ _ 2 rfl (h7 (@e9 _ _ 2 _ E3.nd rfl (by trivial) (by trivial)) (h7 (@e9 _ _ 3 _ E3.nd rfl (by trivial) (by trivial)) v7)) (by rfl) (by rfl) (by rfl)) (A0 (.inr rfl) (h9 (.inr rfl) j4 (h9 (.inr rfl) j4 v9))) (c9 (n0 (PW.pt (aK (J3 (C5 (o9 F6 X6 (by rfl) (bl Y).isinstance_ PyProof.Rows.boot_isinstance (b7 (qv .B 2) (b7 (@bu _ _ _ _ _ _ _ (by rfl) (bl Y).tuple_ t0 (by decide) (by decide)) b9))))) (aK (J3 (C5 (o9 (eC rfl) (jq (g:=dv)) (by rfl) (bl Y).all_ nK (b7 (l9 (i4 (o5 (show g3 (c6 (top 44)) _ ["_law_found", "_law_rows", "_law_stand", "_law_row"] ["_law_found", "_law_rows", "_law_stand", "_law_row", "_law_held"] from by trivial) rfl (E7 (qv .B 2)) (fun _ _ _ _=>(@e9 _ _ 4 _ (by decide +kernel:(["_law_found", "_law_rows", "_law_stand", "_law_row", "_law_held"]:List Str).Nodup) rfl (Or.inl rfl) (.inr rfl))) j4 (t6 (show 4<=4 by decide)) (fun _ _ _ _=>r6) (fun _ _ _ _=>(t9 (qcD (Z9 Y) (T0 Y) (b7 (qv .B 4) b9))))))) b9)))) (bW (j5 (xD (al hr)) (ck (neg:=true)) (qv .B 2) (j3 (f9 (qv .B 3) d8))))))) (c9 (g2 F5)) m9))) (c9 (g2 F5))))
theorem T4:Def (hk w) mg "_law_right" (top 45) ["_law_found", "_law_land", "_law_rows", "_law_whole_here", "_law_has_weights"] 257 (FD "_law_right" 45 n9 256):=dk Y (by kernel_rfl) fun _ _ _ _ _ _=>us5 fun _ _ _ _ _=>rfl
theorem aa:FnOk P w (hk w) mg base CX0 3 257 (FD "_law_right" 45 n9 256) ["_law_found", "_law_land", "_law_rows", "_law_whole_here", "_law_has_weights"] (spM (hk w) 5 .F K0):=
 okF (T4 Y) fo (.inl rfl) rfl rfl fun hr=>(c8 (n0 (PW.pt (aK (J3 (C5 (o9 F6 X6 (by rfl) (bl Y).isinstance_ PyProof.Rows.boot_isinstance (b7 (qv .B 0) (b7 (@bu _ _ _ _ _ _ _ (by rfl) (bl Y).tuple_ t0 (by decide) (by decide)) b9))))) (aK (j5 jR xLt (o9 w6 w4 (by rfl) (bl Y).len_ PySem.boot_len (b7 (qv .B 0) b9)) d8) (bW (J3 (C5 (o9 F6 X6 (by rfl) (bl Y).isinstance_ PyProof.Rows.boot_isinstance (b7 (j3 (f9 (qv .B 0) d8)) (b7 (@bu _ _ _ _ _ _ _ (by rfl) (bl Y).str_ Ai (by decide) (by decide)) b9))))))))) (c9 (g2 F5)) m9) (c8 (n0 (j5 B3 y6 (j3 (f9 (qv .B 0) d8)) B2) (c9 (g2 (W2 (jL (qv .B 3)) (bY (jL (qv .B 4)))))) m9) (c8 (n0 (C5 (qv .B 3)) (c9 (g2 (W2 (W1 B3 y6 (j3 (f9 (qv .B 0) d8)) B2) (W2 (W1 B3 y6 (o9 w6 w4 (by rfl) (bl Y).len_ PySem.boot_len (b7 (qv .B 0) b9)) d8) (bY (qcD (aU Y) (Q6 Y) (b7 (j3 (f9 (qv .B 0) d8)) (b7 (qv .B 2) b9)))))))) m9) (c8 (n0 (C5 (qv .B 4)) (c9 (g2 (W2 (W1 B3 y6 (j3 (f9 (qv .B 0) d8)) B2) (W2 (W1 B3 y6 (o9 w6 w4 (by rfl) (bl Y).len_ PySem.boot_len (b7 (qv .B 0) b9)) d8) (bY (qcD (ac Y) (N9 Y) (b7 (j3 (f9 (qv .B 0) d8)) (b7 (j3 (f9 (qv .B 1) d8)) (b7 (o9 w6 w4 (by rfl) (bl Y).len_ PySem.boot_len (b7 (j3 (f9 (qv .B 1) d8)) b9)) b9))))))))) m9) (c9 (g2 (W1 (fN (al hr)) (ck (neg:=false)) (qv .B 0) (j3 (wX (b7 B2 b9))))))))))
theorem zx:Def (hk w) mg "law" (top 46) ["_law_script"] 264 (FD "law" 46 n9 263):=dk Y (by kernel_rfl) fun _ _ _ _ _ _=>us1 fun _=>rfl
theorem AW:FnOk P w (hk w) mg base CX0 7 264 (FD "law" 46 n9 263) ["_law_script"] (jD (hk w) 1 .F eQ):=
 okNn (zx Y) L9 rfl rfl fun hr=>(C0 (@q_n _ _ _ _ _ _ (j9 (i:=1) L9.nd rfl (by trivial) (qcD (ig Y) (cL Y) (b7 (qv .B 0) b9)) (by rfl) (by trivial)) (by first | exact .inl rfl | exact .inr rfl)) (C0 (@q_n _ _ _ _ _ _ (q5 (i:=2) L9.nd rfl (by trivial) d8 (by rfl) (by trivial)) (by first | exact .inl rfl | exact .inr rfl)) (C0 (@q_n _ _ _ _ _ _ (n0 (j5 B3 y6 (l9 (i4 (qcD (n8 Y) (i0 Y) (b7 (qv .B 0) (f7 (f7 b9)))))) d8) (c9 (q5 (i:=2) L9.nd rfl (by trivial) (i6 v0 C8 d8 (l9 (i4 (qcD (n8 Y) (i0 Y) (b7 (qv .B 0) (f7 (f7 b9))))))) (by rfl) (by trivial))) m9) (by first | exact .inl rfl | exact .inr rfl)) (C0 (@q_n _ _ _ _ _ _ (j9 (i:=3) L9.nd rfl (by trivial) (x3 b9) (by rfl) (by trivial)) (by first | exact .inl rfl | exact .inr rfl)) (C0 (jM (j5 B3 y6 (l9 (i4 (qcD (n8 Y) (i0 Y) (b7 (qv .B 0) (f7 (f7 b9)))))) d8) (aL (@iH _ _ _ _ _ _ _ 3 _ _ _ _ _ _ _ _ _ _ _ _ L9.nd rfl (by trivial) (Z8 Y) (by trivial) (by rfl) (D5 Y).m (D5 Y).F.kp (D5 Y).b (b7 (qv .B 1) (b7 (qv .B 2) b9)) (by decide) (by rfl) (by rfl) (by rfl) (by trivial))) (@fC _ _ _ _ (by first | exact .inl rfl | exact .inr rfl))) (C0 (@q_n _ _ _ _ _ _ (@AK _ _ _ _ _ _ _ _ _ _ _ (t9 (qcD (iQ Y) (gD Y) (b7 (qv .B 1) (b7 (qv .B 2) b9)))) (@v8 _ (hk w) _ _ _ _ 2 rfl (h7 (@e9 _ _ 4 _ L9.nd rfl (by trivial) (by trivial)) (h7 (@e9 _ _ 5 _ L9.nd rfl (by trivial) (by trivial)) v7)) (by rfl) (by rfl) (by rfl)) (A0 (.inl rfl) (h9 (.inl rfl) yK (h9 (.inl rfl) yK v9))) (by rfl) (by rfl) (by rfl)) (by first | exact .inl rfl | exact .inr rfl)) (C0 (@q_n _ _ _ _ _ _ (q5 (i:=6) L9.nd rfl (by trivial) (W1 B3 y6 (j3 (f9 (l9 (i4 (qcD (iP Y) (gA Y) (b7 (j3 (f9 (qv .B 1) d8)) (b7 (o9 w6 w4 (by rfl) (bl Y).len_ PySem.boot_len (b7 (j3 (f9 (qv .B 1) d8)) b9)) b9))))) d8)) B2) (by rfl) (by trivial)) (by first | exact .inl rfl | exact .inr rfl)) (C0 (jM (j5 B3 y6 (l9 (i4 (qcD (n8 Y) (i0 Y) (b7 (qv .B 0) (f7 (f7 b9)))))) d8) (aL (@iH _ _ _ _ _ _ _ 3 _ _ _ _ _ _ _ _ _ _ _ _ L9.nd rfl (by trivial) (Z8 Y) (by trivial) (by rfl) (D5 Y).m (D5 Y).F.kp (D5 Y).b (b7 (qv .B 1) (b7 (qv .B 2) b9)) (by decide) (by rfl) (by rfl) (by rfl) (by trivial))) (@fC _ _ _ _ (by first | exact .inl rfl | exact .inr rfl))) (C0 (@q_n _ _ _ _ _ _ (n0 (J3 (C5 (l9 (i4 (qcD (aa Y) (T4 Y) (b7 (qv .B 3) (b7 (qv .B 1) (b7 (qv .B 4) (b7 (qv .B 5) (b7 (qv .B 6) b9)))))))))) (c9 (g2 F5)) m9) (by first | exact .inl rfl | exact .inr rfl)) (C0 (jM (j5 B3 y6 (j3 (f9 (qv .B 3) d8)) B2) (aL (@lH _ _ _ _ _ _ _ 3 1 _ _ _ _ _ _ _ _ rfl (by trivial) (t9 (x3 b9)) (by rfl) (by rfl) (by decide) (by decide) (by exact fun _ _=>rfl) (by rfl) (by rfl) (by rfl) (by rfl) (by rfl))) (@fC _ _ _ _ (by first | exact .inl rfl | exact .inr rfl))) (aL (@q_n _ _ _ _ _ _ (g2 (qcD (aa Y) (T4 Y) (b7 (l9 (ph (qcD (Z8 Y) (D5 Y) (b7 (qv .B 1) (b7 (qv .B 2) b9))))) (b7 (qv .B 1) (b7 (qv .B 4) (b7 (qv .B 5) (b7 (qv .B 6) b9))))))) (by first | exact .inl rfl | exact .inr rfl)))))))))))))
end
def spLaw (K:Frag):Sp:=fun vs H Q _=>∃ (a:Addr) (ns:List Int),vs = [.ref a]/\SqL K H a (ns.map V.int)/\ns.length<=63/\(∀ x∈ns,Builtin.Int.intBits x<=1048576)/\cP H/\∀ H',Q (.bl true) H'
theorem all_ {l:PySem.W.OpenLaw} {w:World} {mg:Str->Option Value} {fa:Addr} (Y:En w mg) (hp:∀ ns:List Int,ns.length<=63->(∀ x∈ns,Builtin.Int.intBits x<=1048576)->eQ [.scr (ns.map W.int)]=.ok (.bl true)) (e:mg "law" = some (.ref fa)):∃ fd:FuncData,(∀ (s:Shared) (v:Value),BindsTo s fd ⟨[v],[]⟩ [("_law_script",v)])/\∀ base:Heap,(hk w).In base->base.Ns mainGlobals mg->FnOk l.prog w (hk w) mg base CX0 7 fa fd ["_law_script"] (spLaw (hk w)):=by
 cases e.symm.trans (zx Y).m
 exact ⟨FD "law" 46 n9 263,fun s v=>.of_eq rfl,fun base _ _=>pL (AW Y) hp⟩
end K76
open PySem PySem.W PyProof.Rows
namespace K76
def hxas:List Addr:=[2,3,15,22,23,25,28,40,42,43,52,53,59,60,64,65,69,70,74,75,79,80,84,85,89,90,96,97,101,102,106,107,111,112,118,119,123,124,128,129,135,136,142,143,149,150,156,157,161,162,168,169,173,174,178,179,185,186,192,193,199,200,206,207,213,214,220,221,227,228,232,233,239,240,244,245,249,250,256,257,263,264]
def view:Program:={ PySem.Challenge.pw_tokenmoor_k76_bounded_or_open with main:={ PySem.Challenge.pw_tokenmoor_k76_bounded_or_open.main with body:=[1,2,4,5,6,7,9,11,13,14,15,16,17,18,19,20,21,22,23,25,27,28,30,31,32,33,34,35,37,38,39,40,41,42,43,44,45,46].map top } }
def hook:PySem.W.Hook:=PySem.W.kmHook ng hxas (fun _=>by kernel_rfl) [99]
end K76
set_option maxHeartbeats 0 in
theorem PySem.Challenge.cw_tokenmoor_k76_bounded_or_open_holds : PySem.Challenge.rw_tokenmoor_k76_bounded_or_open.Holds := by
 w_on; o_law
 refine holds_open (q:=K76.view) (loose:=[]) (Xt:=fun s=>xlAt K76.view [] s&&recOk [] s) (XP:=XL K76.view [])
  (Yf:=K76.hook.obs) (Ya:=K76.hook.val) (YP:=K76.hook.says) (N:=3256) ?hl K76.hook.of K76.hook.keeps
  (fun s e=>xl_of s (Bool.and_eq_true_iff.mp e).1) XL.keeps (by rfl) (by rfl) (by rfl)
  (fun s e=>recFacts_of (Bool.and_eq_true_iff.mp e).2) (by rfl) (by first | assumption | decide +kernel)
  (by decide +kernel) ⟨rfl,rfl,rfl,rfl,rfl,by decide +kernel⟩ ?hw ?hc
 (case hl=>intro w; kernel_rfl)
 (case hw=>w_witness2)
 refine L2.walk_ofKB (l:=PySem.Challenge.rw_tokenmoor_k76_bounded_or_open) (n:=63) (k:=7) (x := "_law_script") (CX:=L2.CX0) (sp:=K76.spLaw) rfl (by decide) rfl ⟨rfl,by decide,by decide⟩ (fun w h Y=>PySem.W.km_in_of Y) (fun w h Y p hp=>by
  obtain rfl:p=((99,55,26, "leaving.<locals>.<lambda>"):PySem.Addr×Nat×Nat×PySem.Str):=by simpa [L2.lamT] using hp
  exact ⟨PySem.W.km_tabs_of Y 99 (by simp),L2.codeTab (PySem.W.codeHd_of_K (c:=101) (PySem.W.km_in_of Y) (by kernel_rfl)),by kernel_rfl,by unfold L2.lamT; rfl⟩)
  (fun w mg fa h X G e=>K76.all_ ⟨h,X,G⟩ K76.law_pure e)
  (fun K H a ns hl hb hO hS=>⟨a,ns,rfl,hS,hl,hb,TP.noLst_of hO,fun _=>rfl⟩) fun _ _ _ _ z=>z
