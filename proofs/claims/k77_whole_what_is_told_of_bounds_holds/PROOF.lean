import PyProof.Rows.All
import Wide.All
import OpenK.AllK
import Wide.FinOn
import Lean
import PyProof.EqAt
import PyProof.EqKinds
import PyProof.TupleCall
import PyProof.ZipIter
import PyProof.TupleIter
import PyProof.WalksMore
import PyProof.EnumMake
import PyProof.Draws
import PyProof.P3In
import KE.KSortTup
import PyProof.Rows.SortWalk
import KE.KMinKey
import KE.KLam
import KE.KNestM
import KE.IntBitsLaws
import KE.KRevIter
import PyProof.TupleOfGen
import PySem.Challenge.RW_tokenmoor_k77_whole_what_is_told_of_boun
open PySem.W (Frag)
set_option Elab.async false
set_option linter.all false
set_option maxRecDepth 100000
theorem Z1 {p q:Prop} (a:p) (b:q):p/\q:=⟨a,b⟩
noncomputable section
local macro_rules | `(tactic| omega)=>`(tactic| first | with_reducible assumption | decide | lia)
set_option genSizeOf false
set_option genSizeOfSpec false
namespace L2
open PySem PySem.Spec PyProof.Rows
abbrev Key:=Sum Int Str
def bU:Key->Value->Bool
 | .inl k,v=>Value.isInt k v
 | .inr x,v=>Value.isStrOf x v
def keyH (w:World):Key->Int
 | .inl k=>hashInt k
 | .inr x=>hashStr w x
theorem w4:∀ {k:Key} {v:Value},bU k v=true->(∃ i t,k=Sum.inl i/\v=Value.int i t)\/(∃ x t,k=Sum.inr x/\v=Value.str x t)
 | .inl i,v,h=>by
  obtain ⟨t,e⟩:=Value.isInt_shape (k:=i) (v:=v) h
  exact .inl ⟨i,t,rfl,e⟩
 | .inr x,v,h=>by
  obtain ⟨t,e⟩:=Value.isStrOf_shape (x:=x) (v:=v) h
  exact .inr ⟨x,t,rfl,e⟩
theorem nI (i:Int) (t:Tok):bU (.inl i) (.int i t)=true:=by simp [bU,Value.isInt]
theorem nH (x:Str) (t:Tok):bU (.inr x) (.str x t)=true:=by simp [bU,Value.isStrOf]
theorem yL (a b:Int):decide ((Sum.inl a:Key)=Sum.inl b)=(a == b):=by
 by_cases e:a=b
 ·subst e; simp
 ·have h:¬ (Sum.inl a:Key)=Sum.inl b:=fun q=>e (Sum.inl.inj q)
  rw [decide_eq_false h]
  exact (beq_eq_false_iff_ne.mpr e).symm
theorem yI (a b:Str):decide ((Sum.inr a:Key)=Sum.inr b)=decide (a=b):=by
 by_cases e:a=b
 ·subst e; simp
 ·have h:¬ (Sum.inr a:Key)=Sum.inr b:=fun q=>e (Sum.inr.inj q)
  rw [decide_eq_false h,decide_eq_false e]
theorem yK (a:Int) (b:Str):decide ((Sum.inl a:Key)=Sum.inr b)=false:=decide_eq_false (fun q=>nomatch q)
theorem yJ (a:Str) (b:Int):decide ((Sum.inr a:Key)=Sum.inl b)=false:=decide_eq_false (fun q=>nomatch q)
def v7 (prog:Program) (w:World):PySem.KeyKind prog w Key where
 is:=bU
 hash:=keyH w
 inj:=fun v a b ha hb=>by
  rcases w4 ha with ⟨i,t,rfl,rfl⟩ | ⟨x,t,rfl,rfl⟩
  ·rcases w4 hb with ⟨j,u,rfl,e⟩ | ⟨y,u,rfl,e⟩
   ·injection e with e1 _; rw [e1]
   ·exact nomatch e
  ·rcases w4 hb with ⟨j,u,rfl,e⟩ | ⟨y,u,rfl,e⟩
   ·exact nomatch e
   ·injection e with e1 _; rw [e1]
 byValue:=fun k v h=>by
  rcases w4 h with ⟨i,t,rfl,rfl⟩ | ⟨x,t,rfl,rfl⟩ <;> rfl
 pyHash:=fun hv h=>by
  rcases w4 hv with ⟨i,t,rfl,rfl⟩ | ⟨x,t,rfl,rfl⟩
  ·exact wpAny_pyHash_int h
  ·exact wpAny_pyHash_str h
 eqBool:=fun hu hv h=>by
  rcases w4 hu with ⟨i,t,rfl,rfl⟩ | ⟨x,t,rfl,rfl⟩
  ·rcases w4 hv with ⟨j,u,rfl,rfl⟩ | ⟨y,u,rfl,rfl⟩
   ·rw [yL] at h; exact wpAny_eqBool_int h
   ·rw [yK] at h; exact SeqAt.EqAt.int_str i t y u _ _ _ _ h
  ·rcases w4 hv with ⟨j,u,rfl,rfl⟩ | ⟨y,u,rfl,rfl⟩
   ·rw [yJ] at h; exact SeqAt.EqAt.str_int x t j u _ _ _ _ h
   ·rw [yI] at h; exact wpAny_eqBool_str h
 «strs»:=fun k x t v h=>by
  rcases w4 h with ⟨i,u,rfl,e⟩ | ⟨y,u,rfl,e⟩
  ·exact nomatch e
  ·injection e with e1 _
   subst e1
   cases v <;> rfl
theorem jk (prog:Program) (w:World) (i:Int) (t:Tok):(v7 prog w).is (.inl i) (.int i t)=true:=nI i t
theorem jj (prog:Program) (w:World) (x:Str) (t:Tok):(v7 prog w).is (.inr x) (.str x t)=true:=nH x t
end L2
namespace L2
open PySem PySem.Spec PyProof.Rows
inductive V where
 | non | bl (b:Bool) | int (i:Int) | str (x:Str) | byt (b:Array UInt8) | flt (b:UInt64) | ref (a:Addr) | ty (n:String)
 deriving DecidableEq
def RelV:V->Value->Prop
 | .non,u=>u=Value.none
 | .bl b,u=>u=Value.bool b
 | .int i,u=>∃ t,u=Value.int i t
 | .str x,u=>∃ t,u=Value.str x t
 | .byt b,u=>∃ t,u=Value.bytes b t
 | .flt b,u=>∃ t,u=Value.float b t
 | .ref a,u=>u=Value.ref a
 | .ty n,u=>u=Value.type n
abbrev Vals:List V->List Value->Prop:=Paired RelV
theorem Vals.length {xs:List V} {us:List Value} (r:Vals xs us):xs.length=us.length:=Paired.length r
theorem Vals.get:∀ {xs:List V} {us:List Value} {i:Nat} {x:V},Vals xs us->xs[i]?=some x->∃ u,us[i]?=some u/\RelV x u:=by
 intro xs us i x a
 induction a generalizing i with
 | nil=>intro e; cases e
 | cons r t ih=>
  intro e
  cases i with
  | zero=>cases e; exact ⟨_,rfl,r⟩
  | succ i=>exact ih e
theorem Vals.set {x:V} {u:Value} (r:RelV x u):∀ {xs:List V} {us:List Value} (i:Nat),Vals xs us->Vals (xs.set i x) (us.set i u):=by
 intro xs us i h
 induction h generalizing i with
 | nil=>exact .nil
 | cons q t ih=>
  cases i with
  | zero=>exact .cons r t
  | succ i=>exact .cons q (ih i)
theorem Vals.append:∀ {xs ys:List V} {us ws:List Value},Vals xs us->Vals ys ws->Vals (xs++ys) (us++ws):=by
 intro xs ys us ws a s
 induction a with
 | nil=>exact s
 | cons r t ih=>exact .cons r ih
theorem Vals.take:∀ {xs:List V} {us:List Value} (n:Nat),Vals xs us->Vals (xs.take n) (us.take n):=by
 intro xs us n h
 induction h generalizing n with
 | nil=>cases n <;> exact .nil
 | cons r t ih=>
  cases n with
  | zero=>exact .nil
  | succ n=>exact .cons r (ih n)
theorem Vals.drop:∀ {xs:List V} {us:List Value} (n:Nat),Vals xs us->Vals (xs.drop n) (us.drop n)
 | _,_,0,r=>r
 | _,_,_+1,.nil=>.nil
 | _,_,n+1,.cons _ t=>Vals.drop n t
def RelO:Option V->Option Value->Prop
 | some v,some u=>RelV v u
 | none,none=>True
 | _,_=>False
def KV {κ:Type}:List (κ×V)->List (κ×Value)->Prop:=Paired fun (p:κ×V) (q:κ×Value)=>p.1=q.1/\RelV p.2 q.2
def kV:Key->V
 | .inl i=>.int i
 | .inr x=>.str x
inductive HO where
 | lst (xs:List V)
 | tup (xs:List V)
 | dK (kvs:List (Key×V)) | dT (kvs:List (List Key×V))
 | set (S:Int->Bool) (n:Nat)
 | ins (C dx:Addr) (fs:List (Str×V))
 | own (x:Addr)
 | xd (fs:List (Str×V))
 | met (f x:Addr)
 | rng (lo hi:Int)
 | frz (o:Obj) (u:HO)
 | tbl (k:Nat×Nat×Str)
 | ext (φ:Heap->Prop)
abbrev Hp:=Addr->Option HO
@[irreducible] def lamT:List (Addr×Nat×Nat×Str):=[(99,55,26, "leaving.<locals>.<lambda>")]
def wn (q:Str) (oc:Obj):Prop:=∃ vs t,oc.data=.fields vs/\vs[1]?=some (.str q t)
def upd (H:Hp) (a:Addr) (o:HO):Hp:=fun b=>if b=a then some o else H b
theorem i7 {H:Hp} {a:Addr} {o:HO}:upd H a o a=some o:=by unfold upd; rw [if_pos rfl]
theorem d8 {H:Hp} {a b:Addr} {o:HO} (h:b≠a):upd H a o b=H b:=by unfold upd; rw [if_neg h]
theorem so {H:Hp} {a b:Addr} {o u:HO} (h:H a=some o) (h':H b=some u) (d:o≠u):a≠b:=by
 intro e; subst e; rw [h] at h'; exact d (Option.some.inj h')
theorem f7 {H:Hp} {a b:Addr} {o:HO} (h:H a=some o) (h':H b=none):a≠b:=by
 intro e; subst e; rw [h] at h'; cases h'
section
variable (P:Program) (w:World)
def ObjOk (H:Hp) (h:Heap) (a:Addr):HO->Prop
 | .lst xs=>xs.length<=sizeLine/\∃ (its:List Value) (n:Nat),Vals xs its/\h.get? a=some { cls:=.type "list",data:=.seq its.toArray n }
 | .tup xs=>xs.length<=sizeLine/\∃ its:List Value,Vals xs its/\IsTup h a its.toArray
 | .dK kvs=>kvs.length<=sizeLine/\(a == sysModules)=false/\∃ vs,KV kvs vs/\h.DictOf (v7 P w) a vs
 | .dT kvs=>kvs.length<=sizeLine/\(a == sysModules)=false/\∃ xs:List (List Key×Addr×Value),
   Paired (fun (p:List Key×V) (q:List Key×Addr×Value)=>p.1=q.1/\H q.2.1=some (.tup (p.1.map kV))/\RelV p.2 q.2.2) kvs xs /\
   ∃ o es ep,h.get? a=some o/\o.ExactDict/\o.data=.dict es ep/\es.toList=xs.map (entryOfKey (tupleKind (v7 P w)))/\(xs.map (·.1)).Nodup
 | .set S n=>h.SetOf (intKind P w) a S n
 | .ins C dx fs=>H dx=some (.own a)/\fs.length<=1000/\dx≠a/\h.get? a=some (PySem.W.instObj C dx) /\
   ∃ mA,h.Ns1 dx mA/\(∀ f,RelO (fs.lookup f) (mA f))/\PySem.Within mA (fs.map (·.1))
 | .own _=>∃ o,h.get? a=some o
 | .xd fs=>∃ mA,h.Ns1 a mA/\∀ f,RelO (fs.lookup f) (mA f)
 | .rng lo hi=>∃ t u v,h.get? a=some { cls:=.type "range",data:=.fields #[.int lo t,.int hi u,.int 1 v] }
 | .frz o u=>h.get? a=some o/\ObjOk H h a u
 | .tbl k=>∃ ps:Array Value,h.get? a=some { cls:=.none,data:=.fields ps }/\(ps=#[]\/∃ c' oc,ps=#[rawInt k.1,rawInt k.2.1,.ref c']/\H c'=some (.own a)/\c'≠a/\h.get? c'=some oc/\wn k.2.2 oc)
 | .met f x=>h.get? a=some (PySem.W.methodObj (.ref f) (.ref x))
 | .ext φ=>φ h/\(∃ o,h.get? a=some o)/\∀ h1 h2:Heap,φ h1->(∀ o,h1.get? a=some o->h2.get? a=some o)->φ h2
def HOk (H:Hp) (h:Heap):Prop:=∀ a o,H a=some o->ObjOk P w H h a o
end
section
variable {P:Program} {w:World} {H H':Hp} {h h':Heap} {a:Addr} {o:HO}
theorem ObjOk.lt (x:ObjOk P w H h a o):a<h.objs.size:=by
 cases o with
 | lst xs=>obtain ⟨_,_,_,_,e⟩:=x; exact Heap.lt_size e
 | tup xs=>obtain ⟨_,_,_,p⟩:=x; exact p.lt
 | dK kvs=>obtain ⟨_,_,_,_,o,_,_,e,_⟩:=x; exact Heap.lt_size e
 | dT kvs=>obtain ⟨_,_,_,_,o,_,_,e,_⟩:=x; exact Heap.lt_size e
 | set S n=>obtain ⟨o,_,_,_,e,_⟩:=x; exact Heap.lt_size e
 | ins C dx fs=>obtain ⟨_,_,_,e,_⟩:=x; exact Heap.lt_size e
 | own y=>obtain ⟨_,e⟩:=x; exact Heap.lt_size e
 | xd fs=>obtain ⟨_,⟨_,_,_,e,_⟩,_⟩:=x; exact Heap.lt_size e
 | rng lo hi=>obtain ⟨_,_,_,e⟩:=x; exact Heap.lt_size e
 | frz ob u=>obtain ⟨e,_⟩:=x; exact Heap.lt_size e
 | tbl k=>obtain ⟨_,e,_⟩:=x; exact Heap.lt_size e
 | met f y=>exact Heap.lt_size (show h.get? a=some _ from x)
 | ext φ=>obtain ⟨_,⟨_,e⟩,_⟩:=x; exact Heap.lt_size e
theorem Paired.mapP {α β:Type} {F G:α->β->Prop}:∀ {l₁:List α} {l₂:List β},Paired F l₁ l₂->(∀ a b,F a b->G a b)->Paired G l₁ l₂:=by
 intro l₁ l₂ h f
 induction h with
 | nil=>exact .nil
 | cons r t ih=>exact .cons (f _ _ r) ih
theorem ObjOk.stay (x:ObjOk P w H h a o) (k:∀ b u,(b=a\/H b=some (.own a))->h.get? b=some u->h'.get? b=some u)
  (ho:∀ b,H b=some (.own a)->H' b=some (.own a)) (ht:∀ b xs,H b=some (.tup xs)->H' b=some (.tup xs)):ObjOk P w H' h' a o:=by
 induction o with
 | lst xs=>obtain ⟨z,its,n,r,e⟩:=x; exact ⟨z,its,n,r,k _ _ (.inl rfl) e⟩
 | tup xs=>obtain ⟨z,its,r,ob,e,c⟩:=x; exact ⟨z,its,r,ob,k _ _ (.inl rfl) e,c⟩
 | dK kvs=>obtain ⟨z,y,vs,r,ob,es,ep,e,c⟩:=x; exact ⟨z,y,vs,r,ob,es,ep,k _ _ (.inl rfl) e,c⟩
 | dT kvs=>
  obtain ⟨z,y,xs,r,ob,es,ep,e,c⟩:=x
  exact ⟨z,y,xs,Paired.mapP r fun p q z=>⟨z.1,ht _ _ z.2.1,z.2.2⟩,ob,es,ep,k _ _ (.inl rfl) e,c⟩
 | set S n=>obtain ⟨ob,es,ep,t,e,c⟩:=x; exact ⟨ob,es,ep,t,k _ _ (.inl rfl) e,c⟩
 | ins C dx fs=>
  obtain ⟨d,z,ne,e,mA,⟨od,es,ep,e2,c⟩,r⟩:=x
  exact ⟨ho _ d,z,ne,k _ _ (.inl rfl) e,mA,⟨od,es,ep,k _ _ (.inr d) e2,c⟩,r⟩
 | own y=>obtain ⟨ob,e⟩:=x; exact ⟨ob,k _ _ (.inl rfl) e⟩
 | xd fs=>obtain ⟨mA,⟨od,es,ep,e,c⟩,r⟩:=x; exact ⟨mA,⟨od,es,ep,k _ _ (.inl rfl) e,c⟩,r⟩
 | rng lo hi=>obtain ⟨t,u,v,e⟩:=x; exact ⟨t,u,v,k _ _ (.inl rfl) e⟩
 | frz ob u ih=>obtain ⟨e,q⟩:=x; exact ⟨k _ _ (.inl rfl) e,ih q⟩
 | tbl q=>
  obtain ⟨ps,e,r⟩:=x
  exact ⟨ps,k a _ (.inl rfl) e,r.imp id fun zz1=>by obtain ⟨c',oc,e1,e2,ne,e3,e4⟩:=zz1; exact ⟨c',oc,e1,ho _ e2,ne,k c' _ (.inr e2) e3,e4⟩⟩
 | met f y=>
  have e:h.get? a=some (PySem.W.methodObj (.ref f) (.ref y)):=x
  show h'.get? a=some (PySem.W.methodObj (.ref f) (.ref y))
  exact k a _ (.inl rfl) e
 | ext φ=>obtain ⟨p,⟨o,e⟩,st⟩:=x; exact ⟨st _ _ p fun o q=>k _ _ (.inl rfl) q,⟨o,k _ _ (.inl rfl) e⟩,st⟩
theorem HOk.lt (x:HOk P w H h) (e:H a=some o):a<h.objs.size:=(x a o e).lt
theorem HOk.fresh (x:HOk P w H h) (e:h.objs.size<=a):H a=none:=by
 cases q:H a with
 | none=>rfl
 | some u=>exact absurd (Nat.lt_of_lt_of_le (x.lt q) e) (Nat.lt_irrefl _)
theorem HOk.kept (x:HOk P w H h) (k:∀ b u,h.get? b=some u->h'.get? b=some u):HOk P w H h':=fun a o e=>
 (x a o e).stay (fun b u _ q=>k b u q) (fun _ q=>q) fun _ _ q=>q
theorem HOk.laid (x:HOk P w H h) (k:∀ b u,h.get? b=some u->h'.get? b=some u) (hp:h.objs.size<=a) (new:ObjOk P w (upd H a o) h' a o):HOk P w (upd H a o) h':=fun b u e=>by
 have hn:=x.fresh hp
 by_cases hb:b=a
 ·subst hb; rw [i7] at e; cases e; exact new
 ·rw [d8 hb] at e
  exact (x b u e).stay (fun c v _ q=>k c v q) (fun c q=>by rw [d8 (f7 q hn)]; exact q) fun c xs q=>by rw [d8 (f7 q hn)]; exact q
end
def Rd (H:Hp) (a:Addr) (u:HO):Prop:=H a=some u\/∃ o,H a=some (.frz o u)
theorem Rd.ok {P:Program} {w:World} {H:Hp} {h:Heap} {a:Addr} {u:HO} (r:Rd H a u) (x:HOk P w H h):ObjOk P w H h a u:=by
 rcases r with r | ⟨o,r⟩
 ·exact x a u r
 ·obtain ⟨_,q⟩:=x a _ r
  exact q
def Mut:Option HO->Prop
 | some (.lst _)=>True
 | some (.dK _)=>True
 | some (.dT _)=>True
 | some (.set _ _)=>True
 | some (.ins _ _ _)=>True
 | some (.ext _)=>True
 | _=>False
section
variable {P:Program} {w:World} {H:Hp} {h h':Heap} {x e:Addr} {o':HO}
theorem HOk.write (ok:HOk P w H h) (mu:Mut (H x)) (he:e=x\/H e=some (.own x)) (k:∀ b u,b≠e->h.get? b=some u->h'.get? b=some u) (heo:∃ u,h'.get? e=some u)
  (new:ObjOk P w (upd H x o') h' x o'):HOk P w (upd H x o') h':=fun b u q=>by
 have nown:∀ c y,H c=some (.own y)->c≠x:=fun c y r z=>by subst z; rw [r] at mu; exact mu
 have ntup:∀ c xs,H c=some (.tup xs)->c≠x:=fun c xs r z=>by subst z; rw [r] at mu; exact mu
 by_cases hb:b=x
 ·subst hb; rw [i7] at q; cases q; exact new
 ·rw [d8 hb] at q
  by_cases hbe:b=e
  ·have q':H b=some (.own x):=by
    rcases he with z | z
    ·exact absurd (hbe.trans z) hb
    ·rw [hbe]; exact z
   rw [q] at q'; cases q'
   obtain ⟨v,hv⟩:=heo
   exact ⟨v,by rw [hbe]; exact hv⟩
  ·refine (ok b u q).stay (fun c v hc r=>k c v ?_ r) (fun c r=>by rw [d8 (nown c b r)]; exact r) fun c xs r=>by rw [d8 (ntup c xs r)]; exact r
   rcases hc with rfl | hc
   ·exact hbe
   ·rintro rfl
    rcases he with z | z
    ·exact nown c b hc z
    ·rw [hc] at z; cases z; exact hb rfl
end
structure Un (fs ex:List Addr) (H H':Hp) (h h':Heap):Prop where
 keep:∀ b o,h.get? b=some o->H b=none->b∉fs->b∉ex->h'.get? b=some o
 slot:∀ b o,h.get? b=some o->H b=none->b∈fs->b∉ex->∃ sl,h'.get? b=some { o with slots:=sl }
 free:∀ b o,h.get? b=some o->H b=none->b∉ex->H' b=none
 there:∀ b o,h.get? b=some o->b∉ex->∃ o',h'.get? b=some o'
 tups:∀ b xs,H b=some (.tup xs)->H' b=some (.tup xs)
 frzs:∀ b o u,H b=some (.frz o u)->H' b=some (.frz o u)
 tbls:∀ b k,H b=some (.tbl k)->H' b=some (.tbl k)
section
variable {fs fs' ex ex':List Addr} {H H1 H2:Hp} {h h1 h2 h':Heap} {a x e:Addr} {o:HO}
theorem Un.any (u:Un fs ex H H1 h h1) {b:Addr} {ob:Obj} (q:h.get? b=some ob) (n:H b=none) (hx:b∉ex):∃ sl,h1.get? b=some { ob with slots:=sl }:=by
 by_cases hb:b∈fs
 ·exact u.slot b ob q n hb hx
 ·exact ⟨ob.slots,u.keep b ob q n hb hx⟩
theorem Un.kept (k:∀ b u,h.get? b=some u->h'.get? b=some u):Un fs ex H H h h':=
 ⟨fun b ob q _ _ _=>k b ob q,fun b ob q _ _ _=>⟨ob.slots,k b ob q⟩,fun _ _ _ n _=>n,fun b ob q _=>⟨ob,k b ob q⟩,fun _ _ q=>q,fun _ _ _ q=>q,fun _ _ q=>q⟩
theorem Un.refl:Un fs ex H H h h:=Un.kept fun _ _ q=>q
theorem Un.laid (k:∀ b u,h.get? b=some u->h'.get? b=some u) (hp:h.objs.size<=a) (hn:H a=none):Un fs ex H (upd H a o) h h' where
 keep:=fun b u q _ _ _=>k b u q
 slot:=fun b u q _ _ _=>⟨u.slots,k b u q⟩
 free:=fun b u q n _=>by rw [d8 (Nat.ne_of_lt (Nat.lt_of_lt_of_le (Heap.lt_size q) hp))]; exact n
 there:=fun b u q _=>⟨u,k b u q⟩
 tups:=fun b xs q=>by rw [d8 (f7 q hn)]; exact q
 frzs:=fun b u xs q=>by rw [d8 (f7 q hn)]; exact q
 tbls:=fun b k q=>by rw [d8 (f7 q hn)]; exact q
theorem Un.write (mu:Mut (H x)) (he:e=x\/H e=some (.own x)) (k:∀ b u,b≠e->h.get? b=some u->h'.get? b=some u) (heo:∃ u,h'.get? e=some u):Un fs ex H (upd H x o) h h':=by
 have hx:∀ b,H b=none->b≠x:=fun b n z=>by subst z; rw [n] at mu; exact mu
 have hb:∀ b,H b=none->b≠e:=fun b n z=>by
  subst z
  rcases he with r | r
  ·exact hx b n r
  ·rw [n] at r; cases r
 have hm:∀ b u,H b=some u->¬ Mut (some u)->b≠x:=fun b u q nm z=>by subst z; rw [q] at mu; exact nm mu
 refine ⟨fun b u q n _ _=>k b u (hb b n) q,fun b u q n _ _=>⟨u.slots,k b u (hb b n) q⟩,fun b u q n _=>by rw [d8 (hx b n)]; exact n,fun b u q _=>?_,
  fun b xs q=>by rw [d8 (hm b _ q fun z=>z)]; exact q,fun b u xs q=>by rw [d8 (hm b _ q fun z=>z)]; exact q,fun b k q=>by rw [d8 (hm b _ q fun z=>z)]; exact q⟩
 by_cases hbe:b=e
 ·subst hbe; exact heo
 ·exact ⟨u,k b u hbe q⟩
end
def trk (h:Heap) (H:Hp):List Addr:=(List.range h.objs.size).filter fun a=>(H a).isSome
def Z5 (h:Heap) (H:Hp):Heap:=PySem.W.hideAll h (trk h H)
theorem nU (h:Heap) (H:Hp):(Z5 h H).objs.size=h.objs.size:=PySem.W.hideAll_size _ _
theorem qL {h:Heap} {H:Hp} {b:Addr} {o:Obj} (e:h.get? b=some o) (n:H b=none):(Z5 h H).get? b=some o:=
 PySem.W.hideAll_get _ e fun hm=>by
  have q:(H b).isSome=true:=(List.mem_filter.mp hm).2
  rw [n] at q; simp at q
theorem uG {h:Heap} {H:Hp} {b:Addr} {o:Obj} (e:(Z5 h H).get? b=some o):h.get? b=some o/\H b=none:=by
 have e':h.get? b=some o:=PySem.W.of_hideAll (trk h H) e
 refine ⟨e',?_⟩
 cases q:H b with
 | none=>rfl
 | some x=>
  have hm:b∈trk h H:=List.mem_filter.mpr ⟨List.mem_range.mpr (Heap.lt_size e'),by simp [q]⟩
  have z:(Z5 h H).get? b=none:=PySem.W.hideAll_none (trk h H) hm
  rw [z] at e; cases e
def wb (g h:Heap) (L:Addr):List (Addr×Obj):=(List.range h.objs.size).filterMap fun a=>if a=L\/(g.get? a).isSome=true then none else (h.get? a).map fun o=>(a,o)
def rest (g h:Heap) (L d:Addr):List (Addr×Obj):=(wb g h L).filter fun p=>decide (p.1≠d)
end L2
namespace L2
open PySem PySem.Spec PyProof.Rows
structure Mod (K:Frag) (mg:Str->Option Value) (base:Heap):Prop where
 kin:K.In base
 glob:base.Ns mainGlobals mg
 blt:∃ mb,base.Ns builtinsNs mb/\∀ x:Str,x ≠ "__name__" -> mb x=bootBuiltins x
 nolimit:base.NoLimit
 bmain:∃ bm o,mg "__builtins__" = some (.ref bm)/\bm≠builtinsNs/\base.get? bm=some o/\o.cls=.type "module" /\ o.dict=some builtinsNs/\o.data=.plain
structure Cx where
 prog:Program
 w:World
 K:Frag
 mg:Str->Option Value
 base:Heap
 A:Around
 N:List Str
 s₀:Shared
 H₀:Hp
 env:Env
 outer:List Env
 stack:List Env
 ex:List Addr
 fn:Str->Bool
 calm:Bool
 pn:List (Addr×Obj)
 xe:Value->Shared->Prop
def frs (l:List Env):List Addr:=l.filterMap (·.frame)
abbrev Cx.fs (X:Cx):List Addr:=frs X.outer
def Vis (sc:Scope) (x:Str):Prop:=sc.names.lookup x=some .local\/sc.names.lookup x=some .cell\/sc.names.lookup x=some .free
def Loc (sc:Scope) (x:Str):Prop:=sc.names.lookup x=some .local\/sc.names.lookup x=some .cell
def Look (env:Env) (h:Heap) (m:Str->Option Value) (x:Str) (u:Value):Prop:=
 (env.kindOf x=some .local/\m x=some u)\/((env.kindOf x=some .cell\/env.kindOf x=some .free)/\∃ c,env.cells.lookup x=some c/\h.IsCell c (some u))
structure Cx.Ok (X:Cx):Prop where
 mod:Mod X.K X.mg X.base
 kind:X.env.scope.kind=.function
 glob:X.env.globals=mainGlobals
 blt:X.env.builtins=builtinsNs
 above:X.s₀.heap.objs.size<=X.env.locals
 inj:∀ x y c,X.env.cells.lookup x=some c->X.env.cells.lookup y=some c->x=y
 has:∀ x,(X.env.kindOf x=some .cell\/X.env.kindOf x=some .free)->∃ c,X.env.cells.lookup x=some c
 cab:∀ x c,X.fn x=true->X.env.cells.lookup x=some c->X.s₀.heap.objs.size<=c
 hd:X.calm=true->X.A.handled=none
 frames:X.A.frames=some X.stack
 stk:X.stack=X.outer\/(X.stack=X.env::X.outer/\X.env.frame=some X.env.locals)
 exf:∀ b∈X.ex,b≠X.env.locals/\∀ x c,X.env.cells.lookup x=some c->c≠b
 bs:∀ b o,X.base.get? b=some o->X.s₀.heap.get? b=some o/\X.H₀ b=none
 bsz:X.base.objs.size<=X.s₀.heap.objs.size
 noex:∀ b o,X.base.get? b=some o->b∉X.ex
 exfs:∀ b∈X.ex,b∉X.fs
 funs:X.s₀.heap.FunFrames X.base X.outer
 frf:∀ b∈X.fs,X.H₀ b=none
 tab:∀ p∈lamT,X.H₀ p.1=some (.tbl p.2)
structure Inv (X:Cx) (pins:List (Addr×Obj)) (σ:List (Option V)) (H:Hp) (s:Shared):Prop where
 ok:X.Ok
 os:s.os=X.s₀.os
 bare:AllBare s.gens
 base:Un X.fs X.ex X.H₀ H X.s₀.heap s.heap
 loc:∃ m,s.heap.Ns X.env.locals m/\∀ (i:Nat) (x:Str) (v:V),X.N[i]?=some x->σ[i]?=some (some v)->Vis X.env.scope x->∃ u,RelV v u/\Look X.env s.heap m x u
 cell:∀ x c,X.env.cells.lookup x=some c->∃ v,s.heap.IsCell c v
 free:H X.env.locals=none
 freeC:∀ x c,X.env.cells.lookup x=some c->H c=none
 pin:∀ p∈X.pn++pins,s.heap.get? p.1=some p.2/\H p.1=none/\p.1≠X.env.locals/\p.1∉X.fs/\∀ v,p.2.data≠.cell v
 hok:HOk X.prog X.w H s.heap
 len:σ.length=X.N.length
section
variable {X:Cx} {pins:List (Addr×Obj)} {σ:List (Option V)} {H H':Hp} {s:Shared} {h':Heap}
theorem Cx.Ok.nofr (ok:X.Ok) {b:Addr} {o:Obj} (e:X.base.get? b=some o):b∉X.fs:=fun hb=>by
 have:=(ok.funs.mem hb).1
 rw [e] at this; cases this
theorem Inv.bs (I:Inv X pins σ H s):∀ b o,X.base.get? b=some o->s.heap.get? b=some o/\H b=none:=fun b o e=>
 ⟨I.base.keep b o (I.ok.bs b o e).1 (I.ok.bs b o e).2 (I.ok.nofr e) (I.ok.noex b o e),I.base.free b o (I.ok.bs b o e).1 (I.ok.bs b o e).2 (I.ok.noex b o e)⟩
theorem Inv.tab (I:Inv X pins σ H s):∀ p∈lamT,H p.1=some (.tbl p.2):=fun p hp=>I.base.tbls _ _ (I.ok.tab p hp)
theorem Inv.bk (I:Inv X pins σ H s):∀ b o,X.base.get? b=some o->s.heap.get? b=some o:=fun b o e=>(I.bs b o e).1
theorem Inv.mod (I:Inv X pins σ H s):Mod X.K X.mg X.base:=I.ok.mod
theorem Inv.kIn (I:Inv X pins σ H s):X.K.In s.heap:=I.ok.mod.kin.keeps I.bk
theorem Inv.nolimit (I:Inv X pins σ H s):s.heap.NoLimit:=I.ok.mod.nolimit.keeps I.bk
theorem Inv.fr (I:Inv X pins σ H s):∃ m,Fr X.base X.env.locals s.heap m:=
 let ⟨m,hn,_⟩:=I.loc
 ⟨m,hn,I.bk,Nat.le_trans I.ok.bsz I.ok.above⟩
theorem Inv.lt (I:Inv X pins σ H s):X.env.locals<s.heap.objs.size:=let ⟨_,hn,_⟩:=I.loc; hn.lt
theorem Inv.sz (I:Inv X pins σ H s):X.s₀.heap.objs.size<=s.heap.objs.size:=Nat.le_trans I.ok.above (Nat.le_of_lt I.lt)
theorem Inv.nofs (I:Inv X pins σ H s) {a:Addr} (h:s.heap.objs.size<=a):a∉X.fs:=fun hb=>by
 obtain ⟨_,o,ho,_⟩:=I.ok.funs.mem hb
 exact absurd (Nat.lt_of_lt_of_le (Heap.lt_size ho) (Nat.le_trans I.sz h)) (Nat.lt_irrefl _)
theorem Inv.cne (I:Inv X pins σ H s):∀ x c,X.env.cells.lookup x=some c->c≠X.env.locals:=fun x c e z=>by
 obtain ⟨v,o,ho,hd⟩:=I.cell x c e
 obtain ⟨m,⟨o',es,ep,ho',hd',_⟩,_⟩:=I.loc
 rw [z,ho'] at ho; cases ho; rw [hd'] at hd; cases hd
theorem Inv.funs (I:Inv X pins σ H s):s.heap.FunFrames X.base X.outer:=by
 have all:∀ (l:List Env),(∀ b∈frs l,b∈X.fs)->X.s₀.heap.FunFrames X.base l->s.heap.FunFrames X.base l:=by
  intro l
  induction l with
  | nil=>intro _ _; trivial
  | cons env r ih=>
   intro hs hl
   obtain ⟨hk,⟨L,o,hf,hn,ho,hd⟩,hr⟩:=hl
   have hL:L∈X.fs:=hs L (by unfold frs; rw [List.filterMap_cons,hf]; exact List.mem_cons_self)
   obtain ⟨sl,e⟩:=I.base.slot L o ho (I.ok.frf L hL) hL fun z=>I.ok.exfs L z hL
   exact ⟨hk,⟨L,_,hf,hn,e,hd⟩,ih (fun b hb=>hs b (by unfold frs; rw [List.filterMap_cons,hf]; exact List.mem_cons_of_mem _ hb)) hr⟩
 exact all X.outer (fun _ hb=>hb) I.ok.funs
theorem Inv.stack (I:Inv X pins σ H s):s.heap.FunFrames X.base X.stack:=by
 rcases I.ok.stk with e | ⟨e,hf⟩
 ·rw [e]; exact I.funs
 ·rw [e]
  obtain ⟨m,hn,_⟩:=I.loc
  refine .cons (by rw [I.ok.kind]; decide) hf hn ?_ I.funs
  exact Heap.get?_none_of_le (Nat.le_trans I.ok.bsz I.ok.above)
theorem Inv.stkSub (I:Inv X pins σ H s):∀ b∈frs X.stack,b∈X.env.locals::X.fs:=fun b hb=>by
 rcases I.ok.stk with e | ⟨e,hf⟩
 ·rw [e] at hb; exact List.mem_cons_of_mem _ hb
 ·rw [e] at hb
  unfold frs at hb
  rw [List.filterMap_cons,hf] at hb
  exact hb
theorem Inv.stkFree (I:Inv X pins σ H s):∀ b∈frs X.stack,H b=none:=fun b hb=>by
 rcases List.mem_cons.mp (I.stkSub b hb) with e | hb
 ·rw [e]; exact I.free
 ·obtain ⟨_,o,ho,_⟩:=I.ok.funs.mem hb
  exact I.base.free b o ho (I.ok.frf b hb) fun z=>I.ok.exfs b z hb
theorem Inv.step {g':Array GenState} {t':Nat} {d':Drawn} {ch:List Addr} (I:Inv X pins σ H s)
  (hch:∀ b∈ch,(b∈X.ex\/X.s₀.heap.objs.size<=b)/\b≠X.env.locals/\(∀ x c,X.env.cells.lookup x=some c->c≠b)/\∀ p∈X.pn++pins,p.1≠b)
  (keep:∀ b o,b≠X.env.locals->b∉X.fs->b∉ch->s.heap.get? b=some o->H b=none->h'.get? b=some o)
  (slot:∀ b o,b≠X.env.locals->b∈X.fs->b∉ch->s.heap.get? b=some o->H b=none->∃ sl,h'.get? b=some { o with slots:=sl }) (free:∀ b o,b∉ch->s.heap.get? b=some o->H b=none->H' b=none)
  (there:∀ b o,b∉ch->s.heap.get? b=some o->∃ o',h'.get? b=some o')
  (tups:∀ b xs,H b=some (.tup xs)->H' b=some (.tup xs)) (frzs:∀ b o u,H b=some (.frz o u)->H' b=some (.frz o u)) (tbls:∀ b k,H b=some (.tbl k)->H' b=some (.tbl k))
  (ns:∀ m,s.heap.Ns X.env.locals m->h'.Ns X.env.locals m) (hok:HOk X.prog X.w H' h') (hg:AllBare g') :
  Inv X pins σ H' { s with heap:=h',gens:=g',drawn:=d',toks:=t' }:=by
 have neL:∀ b o,X.s₀.heap.get? b=some o->b≠X.env.locals:=fun b o e=>Nat.ne_of_lt (Nat.lt_of_lt_of_le (Heap.lt_size e) I.ok.above)
 have neC:∀ b o,X.s₀.heap.get? b=some o->b∉X.ex->b∉ch:=fun b o e hx hb=>by
  rcases (hch b hb).1 with z | z
  ·exact hx z
  ·exact absurd (Nat.lt_of_lt_of_le (Heap.lt_size e) z) (Nat.lt_irrefl _)
 have cellK:∀ x c,X.env.cells.lookup x=some c->∀ v,s.heap.IsCell c v->h'.IsCell c v:=fun x c e v zz2=>by
  obtain ⟨o,ho,hd⟩:=zz2
  have nch:c∉ch:=fun z=>(hch c z).2.2.1 x c e rfl
  by_cases hc:c∈X.fs
  ·obtain ⟨sl,q⟩:=slot c o (I.cne x c e) hc nch ho (I.freeC x c e)
   exact ⟨_,q,hd⟩
  ·exact ⟨o,keep c o (I.cne x c e) hc nch ho (I.freeC x c e),hd⟩
 refine ⟨I.ok,I.os,hg,⟨fun b o e n hb hx=>?_,fun b o e n hb hx=>?_,fun b o e n hx=>?_,fun b o e hx=>?_,fun b xs e=>tups b xs (I.base.tups b xs e),fun b o xs e=>frzs b o xs (I.base.frzs b o xs e),fun b ps e=>?_⟩,?_,fun x c e=>?_,?_,fun x c e=>?_,fun p hp=>?_,hok,I.len⟩
 ·exact keep b o (neL b o e) hb (neC b o e hx) (I.base.keep b o e n hb hx) (I.base.free b o e n hx)
 ·obtain ⟨sl,e1⟩:=I.base.slot b o e n hb hx
  obtain ⟨sl',e2⟩:=slot b _ (neL b o e) hb (neC b o e hx) e1 (I.base.free b o e n hx)
  exact ⟨sl',e2⟩
 ·obtain ⟨o',e1⟩:=I.base.there b o e hx
  exact free b o' (neC b o e hx) e1 (I.base.free b o e n hx)
 ·obtain ⟨o',e1⟩:=I.base.there b o e hx
  exact there b o' (neC b o e hx) e1
 ·exact tbls b ps (I.base.tbls b ps e)
 ·obtain ⟨m,hn,hl⟩:=I.loc
  refine ⟨m,ns m hn,fun i x v e1 e2 e3=>?_⟩
  obtain ⟨u,r,l⟩:=hl i x v e1 e2 e3
  refine ⟨u,r,?_⟩
  rcases l with l | ⟨k,c,e,z⟩
  ·exact .inl l
  ·exact .inr ⟨k,c,e,cellK x c e _ z⟩
 ·obtain ⟨v,z⟩:=I.cell x c e
  exact ⟨v,cellK x c e v z⟩
 ·obtain ⟨m,⟨o,_,_,ho,_⟩,_⟩:=I.loc
  exact free _ o (fun z=>(hch _ z).2.1 rfl) ho I.free
 ·obtain ⟨v,o,ho,hd⟩:=I.cell x c e
  exact free c o (fun z=>(hch c z).2.2.1 x c e rfl) ho (I.freeC x c e)
 ·obtain ⟨e,n,ne,nf,d⟩:=I.pin p hp
  have nch:p.1∉ch:=fun z=>(hch p.1 z).2.2.2 p hp rfl
  exact ⟨keep p.1 p.2 ne nf nch e n,free p.1 p.2 nch e n,ne,nf,d⟩
theorem Inv.un {t':Nat} (I:Inv X pins σ H s) (u:Un X.fs [] H H' s.heap h') (hok:HOk X.prog X.w H' h'):Inv X pins σ H' { s with heap:=h',toks:=t' }:=by
 obtain ⟨m,⟨o,es,ep,ho,r⟩,_⟩:=id I.loc
 obtain ⟨sl,hL⟩:=u.any ho I.free (by simp)
 exact I.step (g':=s.gens) (d':=s.drawn) (ch:=[]) (fun _ z=>nomatch z) (fun b o _ hb _ e n=>u.keep b o e n hb (by simp)) (fun b o _ hb _ e n=>u.slot b o e n hb (by simp)) (fun b o _ e n=>u.free b o e n (by simp)) (fun b o _ e=>u.there b o e (by simp)) u.tups u.frzs u.tbls (fun m' hm=>by
  obtain ⟨o',es',ep',ho',r'⟩:=hm
  rw [ho] at ho'; cases ho'
  exact ⟨_,es',ep',hL,r'⟩) hok I.bare
theorem Inv.call {g':Array GenState} {t':Nat} {d':Drawn} {ch:List Addr} (I:Inv X pins σ H s) (u:Un (frs X.stack) ch H H' s.heap h') (hok:HOk X.prog X.w H' h') (hg:AllBare g')
  (hch:∀ b∈ch,(b∈X.ex\/X.s₀.heap.objs.size<=b)/\b≠X.env.locals/\(∀ x c,X.env.cells.lookup x=some c->c≠b)/\∀ p∈X.pn++pins,p.1≠b) :
  Inv X pins σ H' { s with heap:=h',gens:=g',drawn:=d',toks:=t' }:=by
 obtain ⟨m,⟨o,es,ep,ho,r⟩,_⟩:=id I.loc
 obtain ⟨sl,hL⟩:=u.any ho I.free fun z=>(hch _ z).2.1 rfl
 exact I.step (ch:=ch) hch (fun b o hL hb hc e n=>u.keep b o e n (fun z=>(List.mem_cons.mp (I.stkSub b z)).elim hL hb) hc) (fun b o _ _ hc e n=>u.any e n hc) (fun b o hc e n=>u.free b o e n hc) (fun b o hc e=>u.there b o e hc) u.tups u.frzs u.tbls (fun m' hm=>by
  obtain ⟨o',es',ep',ho',r'⟩:=hm
  rw [ho] at ho'; cases ho'
  exact ⟨_,es',ep',hL,r'⟩) hok hg
theorem Inv.turned {t':Nat} {it:Addr} (I:Inv X pins σ H s) (k:∀ b o,b≠it->s.heap.get? b=some o->h'.get? b=some o) (hn:H it=none) (hL:it≠X.env.locals)
  (h1:it∈X.ex\/X.s₀.heap.objs.size<=it) (h2:∀ x c,X.env.cells.lookup x=some c->c≠it) (h3:∀ p∈X.pn++pins,p.1≠it):Inv X pins σ H { s with heap:=h',toks:=t' }:=by
 have nit:∀ b u,H b=some u->b≠it:=fun b u e z=>by rw [z,hn] at e; cases e
 refine I.step (g':=s.gens) (d':=s.drawn) (ch:=[it]) (fun b hb=>?_) (fun b o _ _ hc e _=>k b o (fun z=>hc (by simp [z])) e) (fun b o _ _ hc e _=>⟨o.slots,k b o (fun z=>hc (by simp [z])) e⟩) (fun _ _ _ _ n=>n)
  (fun b o hc e=>⟨o,k b o (fun z=>hc (by simp [z])) e⟩) (fun _ _ e=>e) (fun _ _ _ e=>e) (fun _ _ e=>e) (fun m hm=>?_) (fun b u e=>?_) I.bare
 ·have e:b=it:=by simpa using hb
  subst e
  exact ⟨h1,hL,h2,h3⟩
 ·obtain ⟨o,es,ep,ho,r⟩:=hm
  exact ⟨o,es,ep,k _ o (Ne.symm hL) ho,r⟩
 ·refine (I.hok b u e).stay (fun c v hc q=>k c v ?_ q) (fun _ q=>q) fun _ _ q=>q
  rcases hc with z | z
  ·rw [z]; exact nit b u e
  ·exact nit c _ z
theorem Inv.tok (I:Inv X pins σ H s) (t:Nat):Inv X pins σ H { s with toks:=t }:=I.un (h':=s.heap) (t':=t) Un.refl I.hok
theorem Inv.kept {t':Nat} (I:Inv X pins σ H s) (k:∀ b u,s.heap.get? b=some u->h'.get? b=some u):Inv X pins σ H { s with heap:=h',toks:=t' }:=I.un (Un.kept k) (I.hok.kept k)
theorem Inv.laid {a:Addr} {o:HO} {t':Nat} (I:Inv X pins σ H s) (k:∀ b u,s.heap.get? b=some u->h'.get? b=some u) (hp:s.heap.objs.size<=a) (new:ObjOk X.prog X.w (upd H a o) h' a o) :
  Inv X pins σ (upd H a o) { s with heap:=h',toks:=t' }:=I.un (Un.laid k hp (I.hok.fresh hp)) (I.hok.laid k hp new)
theorem Inv.write {x e:Addr} {o:HO} {t':Nat} (I:Inv X pins σ H s) (mu:Mut (H x)) (he:e=x\/H e=some (.own x)) (k:∀ b u,b≠e->s.heap.get? b=some u->h'.get? b=some u) (heo:∃ u,h'.get? e=some u)
  (new:ObjOk X.prog X.w (upd H x o) h' x o):Inv X pins σ (upd H x o) { s with heap:=h',toks:=t' }:=I.un (Un.write mu he k heo) (I.hok.write mu he k heo new)
theorem Inv.weak {σ':List (Option V)} (I:Inv X pins σ H s) (hl:σ'.length=σ.length) (w:∀ (i:Nat) v,σ'[i]?=some (some v)->σ[i]?=some (some v)):Inv X pins σ' H s:=
 ⟨I.ok,I.os,I.bare,I.base,let ⟨m,hn,hl'⟩:=I.loc; ⟨m,hn,fun i x v e1 e2 e3=>hl' i x v e1 (w i v e2) e3⟩,I.cell,I.free,I.freeC,I.pin,I.hok,hl.trans I.len⟩
theorem Inv.pins_of {pins':List (Addr×Obj)} (I:Inv X pins σ H s) (h:∀ p∈pins',s.heap.get? p.1=some p.2/\H p.1=none/\p.1≠X.env.locals/\p.1∉X.fs/\∀ v,p.2.data≠.cell v):Inv X pins' σ H s:=
 ⟨I.ok,I.os,I.bare,I.base,I.loc,I.cell,I.free,I.freeC,fun p hp=>(List.mem_append.mp hp).elim (fun z=>I.pin p (List.mem_append_left _ z)) (h p),I.hok,I.len⟩
theorem cN {N:List Str} (hN:N.Nodup) {i j:Nat} {x:Str} (a:N[i]?=some x) (b:N[j]?=some x):i=j:=by
 obtain ⟨h1,e1⟩:=List.getElem?_eq_some_iff.mp a
 obtain ⟨h2,e2⟩:=List.getElem?_eq_some_iff.mp b
 exact (List.getElem_inj hN).mp (e1.trans e2.symm)
theorem aH {M:Model} {A:Around} {E:Value->Shared->Prop} {i:Nat} {x:Str} {v:V} {u:Value} {Q:Unit->Shared->Prop} (I:Inv X pins σ H s) (hN:X.N.Nodup) (hi:X.N[i]?=some x) (hx:Loc X.env.scope x) (r:RelV v u)
  (h:∀ s',Inv X pins (σ.set i (some v)) H s'->(∃ a,Heap.SameBut a s.heap s'.heap/\(a=X.env.locals\/X.env.cells.lookup x=some a))->Q () s') (hf:X.fn x=true\/X.env.scope.names.lookup x=some .local:=by first | exact .inl rfl | exact .inr rfl | assumption):wpAny M A (storeName X.env x u) Q E s:=by
 obtain ⟨m,hn,hl⟩:=id I.loc
 have hcls:(X.env.scope.kind == .class||(X.env.scope.kind == .module&&X.env.locals != X.env.globals))=false:=by rw [I.ok.kind]; rfl
 have hiσ:i<σ.length:=by rw [I.len]; exact (List.getElem?_eq_some_iff.mp hi).1
 have cne:=I.cne
 have tracked:∀ {a:Addr} {h':Heap},(∃ o,s.heap.get? a=some o/\H a=none)->Heap.SameBut a s.heap h'->HOk X.prog X.w H h':=fun {a h'} ha hs b ob e=>by
  obtain ⟨_,_,hfree⟩:=ha
  refine (I.hok b ob e).stay (fun c w' hc q=>(hs.2 c ?_).trans q) (fun _ q=>q) fun _ _ q=>q
  rintro rfl
  rcases hc with rfl | hc
  ·rw [hfree] at e; cases e
  ·rw [hfree] at hc; cases hc
 rcases hx with hk | hk
 ·refine wpAny_storeName_local hk hn (fun h' hn' hs=>?_) hcls
  obtain ⟨oL,_,_,hoL,_⟩:=id hn
  refine h _ ⟨I.ok,I.os,I.bare,⟨fun b o e n hb hx=>?_,fun b o e n hb hx=>?_,I.base.free,fun b o e hx=>?_,I.base.tups,I.base.frzs,I.base.tbls⟩,⟨_,hn',fun j y v' e1 e2 e3=>?_⟩,fun y c e=>?_,I.free,I.freeC,fun p hp=>?_,tracked ⟨oL,hoL,I.free⟩ hs,by simpa using I.len⟩ ⟨_,hs,.inl rfl⟩
  ·exact (hs.2 b (Nat.ne_of_lt (Nat.lt_of_lt_of_le (Heap.lt_size e) I.ok.above))).trans (I.base.keep b o e n hb hx)
  ·obtain ⟨sl,e1⟩:=I.base.slot b o e n hb hx
   exact ⟨sl,(hs.2 b (Nat.ne_of_lt (Nat.lt_of_lt_of_le (Heap.lt_size e) I.ok.above))).trans e1⟩
  ·obtain ⟨o',e1⟩:=I.base.there b o e hx
   exact ⟨o',(hs.2 b (Nat.ne_of_lt (Nat.lt_of_lt_of_le (Heap.lt_size e) I.ok.above))).trans e1⟩
  ·by_cases hj:j=i
   ·subst hj
    rw [hi] at e1; cases e1
    rw [List.getElem?_set_self hiσ] at e2
    cases e2
    exact ⟨u,r,.inl ⟨hk,by simp⟩⟩
   ·rw [List.getElem?_set_ne (Ne.symm hj)] at e2
    obtain ⟨u',r',q⟩:=hl j y v' e1 e2 e3
    refine ⟨u',r',?_⟩
    rcases q with ⟨k,e⟩ | ⟨k,c,e,z⟩
    ·refine .inl ⟨k,?_⟩
     have:y≠x:=fun e=>hj (cN hN e1 (e ▸ hi))
     simp [this,e]
    ·exact .inr ⟨k,c,e,z.sameBut hs (cne y c e)⟩
  ·obtain ⟨w',z⟩:=I.cell y c e
   exact ⟨w',z.sameBut hs (cne y c e)⟩
  ·obtain ⟨e,n,ne,nf,d⟩:=I.pin p hp
   exact ⟨(hs.2 p.1 ne).trans e,n,ne,nf,d⟩
 ·have hfn:X.fn x=true:=by
   rcases hf with z | z
   ·exact z
   ·rw [z] at hk; cases hk
  obtain ⟨c,hc⟩:=I.ok.has x (.inl hk)
  obtain ⟨w',z⟩:=I.cell x c hc
  refine wpAny_storeName_cell I.ok.kind hk hc z (fun h' hc' hs=>?_)
  obtain ⟨oc,hoc,hocd⟩:=id z
  refine h { s with heap:=h' } ⟨I.ok,I.os,I.bare,⟨fun b o e n hb hx=>?_,fun b o e n hb hx=>?_,I.base.free,fun b o e hx=>?_,I.base.tups,I.base.frzs,I.base.tbls⟩,⟨m,hn.sameBut hs (Ne.symm (cne x c hc)),fun j y v' e1 e2 e3=>?_⟩,fun y c' e=>?_,I.free,I.freeC,fun p hp=>?_,tracked ⟨oc,hoc,I.freeC x c hc⟩ hs,by simpa using I.len⟩ ⟨c,hs,.inr hc⟩
  ·exact (hs.2 b (Nat.ne_of_lt (Nat.lt_of_lt_of_le (Heap.lt_size e) (I.ok.cab x c hfn hc)))).trans (I.base.keep b o e n hb hx)
  ·obtain ⟨sl,e1⟩:=I.base.slot b o e n hb hx
   exact ⟨sl,(hs.2 b (Nat.ne_of_lt (Nat.lt_of_lt_of_le (Heap.lt_size e) (I.ok.cab x c hfn hc)))).trans e1⟩
  ·obtain ⟨o',e1⟩:=I.base.there b o e hx
   exact ⟨o',(hs.2 b (Nat.ne_of_lt (Nat.lt_of_lt_of_le (Heap.lt_size e) (I.ok.cab x c hfn hc)))).trans e1⟩
  ·by_cases hj:j=i
   ·subst hj
    rw [hi] at e1; cases e1
    rw [List.getElem?_set_self hiσ] at e2
    cases e2
    exact ⟨u,r,.inr ⟨.inl hk,c,hc,hc'⟩⟩
   ·rw [List.getElem?_set_ne (Ne.symm hj)] at e2
    obtain ⟨u',r',q⟩:=hl j y v' e1 e2 e3
    refine ⟨u',r',?_⟩
    rcases q with q | ⟨k,c',e,z'⟩
    ·exact .inl q
    ·refine .inr ⟨k,c',e,z'.sameBut hs ?_⟩
     rintro rfl
     exact hj (cN hN e1 (I.ok.inj _ _ _ e hc ▸ hi))
  ·by_cases hcc:c'=c
   ·subst hcc; exact ⟨_,hc'⟩
   ·obtain ⟨w2,z2⟩:=I.cell y c' e
    exact ⟨w2,z2.sameBut hs hcc⟩
  ·obtain ⟨e,n,ne,nf,d⟩:=I.pin p hp
   refine ⟨(hs.2 p.1 ?_).trans e,n,ne,nf,d⟩
   intro q
   rw [q,hoc] at e
   have q':oc=p.2:=Option.some.inj e
   exact d w' (by rw [<- q']; exact hocd)
theorem Y2 {M:Model} {A:Around} {E:Value->Shared->Prop} {i:Nat} {x:Str} {v:V} {u:Value} {Q:Unit->Shared->Prop} (I:Inv X pins σ H s) (hN:X.N.Nodup) (hi:X.N[i]?=some x) (hx:Loc X.env.scope x) (r:RelV v u)
  (h:∀ s',Inv X pins (σ.set i (some v)) H s'->Q () s') (hf:X.fn x=true\/X.env.scope.names.lookup x=some .local:=by first | exact .inl rfl | exact .inr rfl | assumption):wpAny M A (storeName X.env x u) Q E s:=
 aH I hN hi hx r (fun s' I' _=>h s' I') hf
theorem Inv.call' {s':Shared} {ch:List Addr} (I:Inv X pins σ H s) (ho:s'.os=s.os) (u:Un (frs X.stack) ch H H' s.heap s'.heap) (hok:HOk X.prog X.w H' s'.heap) (hg:AllBare s'.gens)
  (hch:∀ b∈ch,(b∈X.ex\/X.s₀.heap.objs.size<=b)/\b≠X.env.locals/\(∀ x c,X.env.cells.lookup x=some c->c≠b)/\∀ p∈X.pn++pins,p.1≠b):Inv X pins σ H' s':=by
 obtain ⟨h',g',d',t',o'⟩:=s'
 have e:o'=s.os:=ho
 subst e
 exact I.call (g':=g') (t':=t') (d':=d') u hok hg hch
end
abbrev XK:=Value->Option Addr->Hp->Prop
abbrev St:=List (Option V)
abbrev VK:=V->Hp->Prop
abbrev TE:=St->Hp->VK->Prop
abbrev TT:=St->Hp->(Bool->Hp->Prop)->Prop
abbrev TA:=St->Hp->(List V->Hp->Prop)->Prop
structure Ends where
 nx:St->Hp->Prop
 rt:VK
 bk:St->Hp->Prop:=fun _ _=>False
 ct:St->Hp->Prop:=fun _ _=>False
abbrev TS:=Ends->St->Hp->Prop
def EP (X:Cx) (pins:List (Addr×Obj)) (σ:St) (Q:VK) (u:Value) (s':Shared):Prop:=∃ v H',Inv X pins σ H' s'/\RelV v u/\Q v H'
def TP (X:Cx) (pins:List (Addr×Obj)) (σ:St) (Q:Bool->Hp->Prop) (b:Bool) (s':Shared):Prop:=∃ H',Inv X pins σ H' s'/\Q b H'
def AP (X:Cx) (pins:List (Addr×Obj)) (σ:St) (Q:List V->Hp->Prop) (us:List Value) (s':Shared):Prop:=∃ vs H',Inv X pins σ H' s'/\Vals vs us/\Q vs H'
def SP (X:Cx) (pins:List (Addr×Obj)) (D:Ends) (f:Flow) (s':Shared):Prop:=
 match f with
 | .next=>∃ σ' H',Inv X pins σ' H' s'/\D.nx σ' H'
 | .brk=>∃ σ' H',Inv X pins σ' H' s'/\D.bk σ' H'
 | .cont=>∃ σ' H',Inv X pins σ' H' s'/\D.ct σ' H'
 | .ret u=>∃ v σ' H',Inv X pins σ' H' s'/\RelV v u/\D.rt v H'
def PE (X:Cx) (e:Expr) (t:TE):Prop:=
 ∀ (pins:List (Addr×Obj)) (s:Shared) (σ:St) (H:Hp) (Q:VK),Inv X pins σ H s->t σ H Q->wpAny (model X.prog X.w) X.A (eval e X.env) (EP X pins σ Q) X.xe s
def PT (X:Cx) (e:Expr) (t:TT):Prop:=
 ∀ (pins:List (Addr×Obj)) (s:Shared) (σ:St) (H:Hp) (Q:Bool->Hp->Prop),Inv X pins σ H s->t σ H Q->wpAny (model X.prog X.w) X.A (isTrue e X.env (eval e X.env)) (TP X pins σ Q) X.xe s
def PW (X:Cx) (e:Expr) (t:TT):Prop:=
 ∀ (whole:Sem Value) (pins:List (Addr×Obj)) (s:Shared) (σ:St) (H:Hp) (Q:Bool->Hp->Prop),Inv X pins σ H s->t σ H Q->wpAny (model X.prog X.w) X.A (isTrue e X.env whole) (TP X pins σ Q) X.xe s
theorem PW.pt {X:Cx} {e:Expr} {t:TT} (h:PW X e t):PT X e t:=h _
def PA (X:Cx) (es:List Expr) (t:TA):Prop:=
 ∀ (pos:Pos) (pins:List (Addr×Obj)) (s:Shared) (σ:St) (H:Hp) (Q:List V->Hp->Prop),Inv X pins σ H s->t σ H Q->wpAny (model X.prog X.w) X.A (spliced (backTo pos (starEach es X.env))) (AP X pins σ Q) X.xe s
def PS (X:Cx) (st:Stmt) (t:TS):Prop:=
 ∀ (pins:List (Addr×Obj)) (s:Shared) (σ:St) (H:Hp) (D:Ends),Inv X pins σ H s->t D σ H->wpAny (model X.prog X.w) X.A (exec st X.env) (SP X pins D) X.xe s
def PSs (X:Cx) (st:List Stmt) (t:TS):Prop:=
 ∀ (pins:List (Addr×Obj)) (s:Shared) (σ:St) (H:Hp) (D:Ends),Inv X pins σ H s->t D σ H->wpAny (model X.prog X.w) X.A (execs st X.env) (SP X pins D) X.xe s
theorem thn {α:Type} {t:Sem α} {Q Q':α->Shared->Prop} {M:Model} {A:Around} {E:Value->Shared->Prop} {s:Shared} (h:wpAny M A t Q E s) (hQ:∀ a s,Q a s->Q' a s):wpAny M A t Q' E s:=wpAny_mono h hQ fun _ _ x=>x
end L2
namespace L2
open PySem PySem.Spec PyProof.Rows
section
variable {X:Cx}
def U3 (i:Nat):TE:=fun σ H Q=>∃ v,σ[i]?=some (some v)/\Q v H
def tC (v:V):TE:=fun _ H Q=>Q v H
theorem W7 {i:Nat} {x:Str} {pos:Pos} (hN:X.N[i]?=some x) (hv:Vis X.env.scope x) (hd:(x == ("__debug__" : Str))=false:=by decide) (hcd:(x == ("__classdict__" : Str))=false:=by decide):PE X (.Name x pos) (U3 i):=by
 intro pins s σ H Q I h
 obtain ⟨v,e,h⟩:=h
 obtain ⟨m,hn,hl⟩:=I.loc
 obtain ⟨u,r,l⟩:=hl i x v hN e hv
 have fin:EP X pins σ Q u s:=⟨v,H,I,r,h⟩
 rcases l with ⟨hk,hm⟩ | ⟨hk,c,hc,hcell⟩
 ·exact wpAny_Name (wpAny_loadName_local I.ok.kind hk hn hm fin) hd
 ·rcases hk with hk | hk
  ·exact wpAny_Name (wpAny_loadName_cell I.ok.kind hk hc hcell fin) hd
  ·exact wpAny_Name (wpAny_loadName_free I.ok.kind hk hc hcell fin hcd) hd
theorem pe_int {i j pos}:PE X (.Constant (.int i) j pos) (tC (.int i)):=fun _ _ _ H _ I h=>wpAny_Constant_int ⟨.int i,H,I.tok _,⟨_,rfl⟩,h⟩
theorem pe_bl {b j pos}:PE X (.Constant (.bool b) j pos) (tC (.bl b)):=fun _ _ _ H _ I h=>Constant_bool ⟨.bl b,H,I,rfl,h⟩
theorem pe_non {j pos}:PE X (.Constant .none j pos) (tC .non):=fun _ _ _ H _ I h=>Constant_none ⟨.non,H,I,rfl,h⟩
theorem pe_str {x j pos}:PE X (.Constant (.str x) j pos) (tC (.str x)):=fun _ _ _ H _ I h=>Calls.Constant_str ⟨.str x,H,I.tok _,⟨_,rfl⟩,h⟩
def Gl (X:Cx) (x:Str):Prop:=X.env.kindOf x=some .globalImplicit
theorem ve {E:Value->Shared->Prop} {pins:List (Addr×Obj)} {s:Shared} {σ:St} {H:Hp} {x:Str} {u:Value} {pos:Pos} {Q:Value->Shared->Prop} (I:Inv X pins σ H s) (hg:Gl X x) (hm:X.mg x=some u) (h:Q u s)
  (hd:(x == ("__debug__" : Str))=false:=by decide):wpAny (model X.prog X.w) X.A (eval (.Name x pos) X.env) Q E s:=
 Calls.Name_function_global I.ok.kind hg (Calls.loadGlobal_global (by rw [I.ok.glob]; exact I.mod.glob.keeps I.bk) hm h) hd
theorem K7 {E:Value->Shared->Prop} {pins:List (Addr×Obj)} {s:Shared} {σ:St} {H:Hp} {x:Str} {u:Value} {pos:Pos} {Q:Value->Shared->Prop} (I:Inv X pins σ H s) (hg:Gl X x) (hm:X.mg x=none) (hv:bootBuiltins x=some u) (h:Q u s)
  (hn:x ≠ "__name__" := by decide) (hd:(x == ("__debug__" : Str))=false:=by decide):wpAny (model X.prog X.w) X.A (eval (.Name x pos) X.env) Q E s:=by
 obtain ⟨mb,h1,h2⟩:=I.mod.blt
 exact Calls.Name_function_global I.ok.kind hg (Calls.loadGlobal_builtin (by rw [I.ok.glob]; exact I.mod.glob.keeps I.bk) hm (by rw [I.ok.blt]; exact h1.keeps I.bk) ((h2 x hn).trans hv) h) hd
theorem uB {x:Str} {v:V} {u:Value} {pos:Pos} (hg:Gl X x) (hm:X.mg x=none) (hv:bootBuiltins x=some u) (r:RelV v u) (hn:x ≠ "__name__" := by decide) (hd:(x == ("__debug__" : Str))=false:=by decide):PE X (.Name x pos) (tC v):=
 fun _ _ _ H _ I h=>K7 I hg hm hv ⟨v,H,I,r,h⟩ hn hd
variable {a b:Expr} {ta tb:TE} {pos:Pos}
def PC (X:Cx) (op:CmpOp) (a b:Expr) (t:TE):Prop:=
 ∀ (pins:List (Addr×Obj)) (s:Shared) (σ:St) (H:Hp) (Q:VK),Inv X pins σ H s->t σ H Q ->
  wpAny (model X.prog X.w) X.A (eval a X.env) (fun v s₁=>wpAny (model X.prog X.w) X.A (eval b X.env) (fun u s₂=>wpAny (model X.prog X.w) X.A (compareOp op v u) (EP X pins σ Q) X.xe s₂) X.xe s₁) X.xe s
theorem qi (b:Expr) {op:CmpOp} (h:op≠.In) (h2:op≠.NotIn):behindInMarks op b=false:=by
 have e1:(op == CmpOp.In)=false:=by cases op <;> first | rfl | exact absurd rfl h
 have e2:(op == CmpOp.NotIn)=false:=by cases op <;> first | rfl | exact absurd rfl h2
 cases b <;> simp [behindInMarks,e1,e2]
def tB (t:TE):TT:=fun σ H Q=>t σ H fun x H1=>∃ c,x=.bl c/\Q c H1
theorem yf {op:CmpOp} {t:TE} (h:PC X op a b t) (h1:behindInMarks op b=false:=by first | exact qi _ (by decide) (by decide) | rfl):PT X (.Compare a [op] [b] pos) (tB t):=by
 intro pins s σ H Q I hw
 refine wpAny_isTrue_Compare1 (thn (h pins s σ H _ I hw) fun v s1 h1=>thn h1 fun u s2 h2=>thn h2 fun c s3 zz3=>?_) h1
 obtain ⟨x,H1,I1,r1,q1⟩:=zz3
 obtain ⟨d,rfl,q⟩:=q1
 cases r1
 exact wpAny_truthy_bool ⟨H1,I1,q⟩
theorem yd {e:Expr} {t:TE} (h:PE X e t) (he:∀ whole,isTrue e X.env whole=(do let v <- whole; standAt e.pos; holding [v] (truthy v)):=by intro _; rfl):PT X e (tB t):=by
 intro pins s σ H Q I hw
 refine isTrue_plain (thn (h pins s σ H _ I hw) fun v s1 zz4=>?_) (he _)
 obtain ⟨x,H1,I1,r1,q1⟩:=zz4
 obtain ⟨d,rfl,q⟩:=q1
 cases r1
 exact wpAny_truthy_bool ⟨H1,I1,q⟩
variable {tA tB':TT} {rest:List Expr}
def wL (t u:TT):TT:=fun σ H Q=>t σ H fun c H1=>if c=true then u σ H1 Q else Q false H1
def tOr (t u:TT):TT:=fun σ H Q=>t σ H fun c H1=>if c=true then Q true H1 else u σ H1 Q
def wD (t:TT):TT:=fun σ H Q=>t σ H fun c H1=>Q (!c) H1
theorem uh (ha:PT X a tA):PW X (.BoolOp .And [a] pos) tA:=by
 intro wh pins s σ H Q I h
 refine isTrue_and (thn (ha pins s σ H Q I h) fun c s1 e=>?_)
 cases c with
 | true=>exact isTrue_and_nil e
 | false=>exact e
theorem ya (ha:PT X a tA):PW X (.BoolOp .Or [a] pos) tA:=by
 intro wh pins s σ H Q I h
 refine isTrue_or (thn (ha pins s σ H Q I h) fun c s1 e=>?_)
 cases c with
 | false=>exact isTrue_or_nil e
 | true=>exact e
theorem yb (ha:PT X a tA) (hb:PW X (.BoolOp .And (b::rest) pos) tB'):PW X (.BoolOp .And (a::b::rest) pos) (wL tA tB'):=by
 intro wh pins s σ H Q I h
 refine isTrue_and (thn (ha pins s σ H _ I h) fun c s1 zz5=>?_)
 obtain ⟨H1,I1,q1⟩:=zz5
 cases c with
 | true=>exact hb wh pins s1 σ H1 Q I1 q1
 | false=>exact ⟨H1,I1,q1⟩
theorem Bv (ha:PT X a tA) (hb:PW X (.BoolOp .Or (b::rest) pos) tB'):PW X (.BoolOp .Or (a::b::rest) pos) (tOr tA tB'):=by
 intro wh pins s σ H Q I h
 refine isTrue_or (thn (ha pins s σ H _ I h) fun c s1 zz6=>?_)
 obtain ⟨H1,I1,q1⟩:=zz6
 cases c with
 | true=>exact ⟨H1,I1,q1⟩
 | false=>exact hb wh pins s1 σ H1 Q I1 q1
theorem ye (ha:PT X a tA):PT X (.UnaryOp .Not a pos) (wD tA):=by
 intro pins s σ H Q I h
 exact isTrue_not (ha pins s σ H (fun c H1=>Q (!c) H1) I h)
def rW (ta tb:TE):TE:=fun σ H Q=>ta σ H fun x H1=>∃ c,x=.bl c/\if c=true then tb σ H1 Q else Q (.bl false) H1
def rQ (ta:TE):TE:=fun σ H Q=>ta σ H fun x H1=>∃ c,x=.bl c/\Q (.bl (!c)) H1
theorem ym {op} {t:TE} (h:PE X a t):PE X (.BoolOp op [a] pos) t:=fun pins s σ H Q I hw=>BoolOp_one (h pins s σ H Q I hw)
theorem yq (ha:PE X a ta) (hb:PE X (.BoolOp .And (b::rest) pos) tb):PE X (.BoolOp .And (a::b::rest) pos) (rW ta tb):=by
 intro pins s σ H Q I h
 refine BoolOp_and (thn (ha pins s σ H _ I h) fun v s1 zz7=>?_)
 obtain ⟨x,H1,I1,r1,q1⟩:=zz7
 obtain ⟨c,rfl,q1⟩:=q1
 cases r1
 refine wpAny_truthy_bool ?_
 cases c with
 | true=>exact hb pins s1 σ H1 Q I1 q1
 | false=>exact ⟨.bl false,H1,I1,rfl,q1⟩
theorem yn (ha:PE X a ta):PE X (.UnaryOp .Not a pos) (rQ ta):=by
 intro pins s σ H Q I h
 refine UnaryOp_ (thn (ha pins s σ H _ I h) fun v s1 zz8=>?_)
 obtain ⟨x,H1,I1,r1,q1⟩:=zz8
 obtain ⟨c,rfl,q1⟩:=q1
 cases r1
 exact not_of (wpAny_truthy_bool ⟨.bl (!c),H1,I1,rfl,q1⟩)
def tIf (t:TT) (ta tb:TE):TE:=fun σ H Q=>t σ H fun c H1=>if c=true then ta σ H1 Q else tb σ H1 Q
theorem qc {c:Expr} (hc:PT X c tA) (ha:PE X a ta) (hb:PE X b tb):PE X (.IfExp c a b pos) (tIf tA ta tb):=by
 intro pins s σ H Q I h
 refine wpAny_IfExp (thn (hc pins s σ H _ I h) fun d s1 zz9=>?_)
 obtain ⟨H1,I1,q1⟩:=zz9
 cases d with
 | true=>exact ha pins s1 σ H1 Q I1 q1
 | false=>exact hb pins s1 σ H1 Q I1 q1
end
end L2
namespace L2
open PySem PySem.Spec PyProof.Rows
def SqL (K:Frag) (H:Hp) (a:Addr) (xs:List V):Prop:=
 Rd H a (.lst xs) \/
  ∃ (o:Obj) (its:Array Value) (n:Nat),K.lookup a=some o/\o.cls=.type "list" /\ o.dict=none/\o.data=.seq its n/\its.size<=sizeLine/\Vals xs its.toList
def SqT (K:Frag) (H:Hp) (a:Addr) (xs:List V):Prop:=
 Rd H a (.tup xs) \/
  ∃ (o:Obj) (its:Array Value) (n:Nat),K.lookup a=some o/\o.cls=.type "tuple" /\ o.data=.seq its n/\its.size<=sizeLine/\Vals xs its.toList
def absV:Value->Option V
 | .none=>some .non
 | .bool b=>some (.bl b)
 | .int i _=>some (.int i)
 | .str x _=>some (.str x)
 | .bytes b _=>some (.byt b)
 | .float b _=>some (.flt b)
 | .ref a=>some (.ref a)
 | .type n=>some (.ty n)
 | _=>none
theorem RelV.abs {x:V} {u:Value} (r:RelV x u):absV u=some x:=by
 cases x with
 | non=>cases r; rfl
 | bl _=>cases r; rfl
 | int _=>obtain ⟨t,rfl⟩:=r; rfl
 | str _=>obtain ⟨t,rfl⟩:=r; rfl
 | byt _=>obtain ⟨t,rfl⟩:=r; rfl
 | flt _=>obtain ⟨t,rfl⟩:=r; rfl
 | ref _=>cases r; rfl
 | ty _=>cases r; rfl
theorem RelV.inj {x y:V} {u:Value} (r:RelV x u) (q:RelV y u):x=y:=Option.some.inj (r.abs.symm.trans q.abs)
theorem Vals.inj:∀ {xs ys:List V} {us:List Value},Vals xs us->Vals ys us->xs=ys:=by
 intro xs ys us a
 induction a generalizing ys with
 | nil=>intro b; cases b; rfl
 | cons r t ih=>
  intro b
  cases b with
  | cons r' t'=>rw [r.inj r',ih t']
section
variable {X:Cx} {pins:List (Addr×Obj)} {σ:St} {H:Hp} {s:Shared} {a:Addr} {xs ys:List V}
theorem SqL.of {K:Frag} (h:H a=some (.lst xs)):SqL K H a xs:=.inl (.inl h)
theorem SqT.of {K:Frag} (h:H a=some (.tup xs)):SqT K H a xs:=.inl (.inl h)
theorem Inv.list (I:Inv X pins σ H s) (h:SqL X.K H a xs):∃ its:List Value,Vals xs its/\PlainL s.heap a its.toArray/\xs.length<=sizeLine:=by
 rcases h with h | ⟨o,its,n,hk,hc,hd,hs,hz,r⟩
 ·obtain ⟨z,its,n,r,e⟩:=h.ok I.hok
  exact ⟨its,r,⟨_,n,e,rfl,rfl,rfl⟩,z⟩
 ·refine ⟨its.toList,r,⟨o,n,I.kIn a o hk,hc,hd,by simpa using hs⟩,?_⟩
  have e:=r.length
  simp only [Array.length_toList] at e
  omega
theorem Inv.tuple (I:Inv X pins σ H s) (h:SqT X.K H a xs):∃ its:List Value,Vals xs its/\IsTup s.heap a its.toArray/\xs.length<=sizeLine:=by
 rcases h with h | ⟨o,its,n,hk,hc,hs,hz,r⟩
 ·obtain ⟨z,its,r,p⟩:=h.ok I.hok
  exact ⟨its,r,p,z⟩
 ·refine ⟨its.toList,r,⟨o,I.kIn a o hk,hc,n,by simpa using hs⟩,?_⟩
  have e:=r.length
  simp only [Array.length_toList] at e
  omega
theorem Inv.list_inj (I:Inv X pins σ H s) (h:SqL X.K H a xs) (h':SqL X.K H a ys):xs=ys:=by
 obtain ⟨its,r,⟨o,n,e,_,_,d⟩,_⟩:=I.list h
 obtain ⟨its',r',⟨o',n',e',_,_,d'⟩,_⟩:=I.list h'
 rw [e] at e'; cases e'
 rw [d] at d'
 injection d' with d1 _
 have:its=its':=by simpa using congrArg Array.toList d1
 subst this
 exact r.inj r'
theorem Inv.tuple_inj (I:Inv X pins σ H s) (h:SqT X.K H a xs) (h':SqT X.K H a ys):xs=ys:=by
 obtain ⟨its,r,⟨o,e,_,n,d⟩,_⟩:=I.tuple h
 obtain ⟨its',r',⟨o',e',_,n',d'⟩,_⟩:=I.tuple h'
 rw [e] at e'; cases e'
 rw [d] at d'
 injection d' with d1 _
 have:its=its':=by simpa using congrArg Array.toList d1
 subst this
 exact r.inj r'
end
abbrev Cx.wish (X:Cx) (E:Value->Shared->Prop):Cx:={ X with xe:=E }
abbrev Cx.nox (X:Cx):Cx:=X.wish fun _ _=>False
theorem Cx.Ok.wish {X:Cx} (ok:X.Ok) (E:Value->Shared->Prop):(X.wish E).Ok:=
 ⟨ok.mod,ok.kind,ok.glob,ok.blt,ok.above,ok.inj,ok.has,ok.cab,ok.hd,ok.frames,ok.stk,ok.exf,ok.bs,ok.bsz,ok.noex,ok.exfs,ok.funs,ok.frf,ok.tab⟩
theorem Cx.Ok.unwish {X:Cx} {E:Value->Shared->Prop} (ok:(X.wish E).Ok):X.Ok:=
 ⟨ok.mod,ok.kind,ok.glob,ok.blt,ok.above,ok.inj,ok.has,ok.cab,ok.hd,ok.frames,ok.stk,ok.exf,ok.bs,ok.bsz,ok.noex,ok.exfs,ok.funs,ok.frf,ok.tab⟩
section
variable {X:Cx} {pins:List (Addr×Obj)} {σ:St} {H:Hp} {s:Shared} {E:Value->Shared->Prop}
theorem Inv.wish (I:Inv X pins σ H s) (E:Value->Shared->Prop):Inv (X.wish E) pins σ H s:=⟨I.ok.wish E,I.os,I.bare,I.base,I.loc,I.cell,I.free,I.freeC,I.pin,I.hok,I.len⟩
theorem Inv.unwish (I:Inv (X.wish E) pins σ H s):Inv X pins σ H s:=⟨I.ok.unwish,I.os,I.bare,I.base,I.loc,I.cell,I.free,I.freeC,I.pin,I.hok,I.len⟩
theorem SP.unwish {D:Ends} {f:Flow} {s':Shared} (h:SP (X.wish E) pins D f s'):SP X pins D f s':=by
 cases f with
 | next=>obtain ⟨σ',H',I,q⟩:=h; exact ⟨σ',H',I.unwish,q⟩
 | brk=>obtain ⟨σ',H',I,q⟩:=h; exact ⟨σ',H',I.unwish,q⟩
 | cont=>obtain ⟨σ',H',I,q⟩:=h; exact ⟨σ',H',I.unwish,q⟩
 | ret u=>obtain ⟨v,σ',H',I,r,q⟩:=h; exact ⟨v,σ',H',I.unwish,r,q⟩
theorem PSs.nox {st:List Stmt} {t:TS} (h:PSs X.nox st t):PSs X st t:=fun pins s σ H D I hw=>
 wpAny_mono (h pins s σ H D (I.wish _) hw) (fun _ _ q=>q.unwish) fun _ _ z=>False.elim z
end
section
variable {X:Cx} {st:Stmt} {rest:List Stmt} {t u:TS} {e:Expr} {te:TE} {pos:Pos}
def tNext:TS:=fun D σ H=>D.nx σ H
def wB (t u:TS):TS:=fun D σ H=>t { D with nx:=u D } σ H
theorem pss_nil:PSs X [] tNext:=fun _ _ σ H _ I h=>wpAny_execs_nil ⟨σ,H,I,h⟩
theorem pV (h1:PS X st t) (h2:PSs X rest u):PSs X (st::rest) (wB t u):=by
 intro pins s σ H D I h
 refine wpAny_execs_cons (thn (h1 pins s σ H { D with nx:=u D } I h) fun f s1 q=>?_)
 cases f with
 | next=>
  obtain ⟨σ',H',I',q⟩:=q
  exact h2 pins s1 σ' H' D I' q
 | ret v=>exact q
 | brk=>exact q
 | cont=>exact q
theorem uj (h1:PS X st t):PSs X [st] t:=by
 intro pins s σ H D I h
 refine wpAny_execs_cons (thn (h1 pins s σ H D I h) fun f s1 q=>?_)
 cases f with
 | next=>exact wpAny_execs_nil q
 | ret v=>exact q
 | brk=>exact q
 | cont=>exact q
def tCont:TS:=fun D σ H=>D.ct σ H
theorem ps_continue:PS X (.Continue pos) tCont:=fun _ _ σ H _ I h=>wpAny_Continue ⟨σ,H,I,h⟩
theorem Inv.quiet {pins:List (Addr×Obj)} {σ:St} {H:Hp} {s:Shared} (I:Inv X pins σ H s):interactive X.env=false:=by simp [interactive,I.ok.kind]
def rS (te:TE):TS:=fun D σ H=>te σ H fun _ H1=>D.nx σ H1
theorem ul (he:PE X e te) (hs:swapsWith e none pos.line X.env=pure false:=by rfl):PS X (.Expr e pos) (rS te):=by
 intro pins s σ H D I h
 exact wpAny_Expr_any (thn (he pins s σ H _ I h) fun v s1 zz10=>by obtain ⟨x,H1,I1,r1,q1⟩:=zz10; exact ⟨σ,H1,I1,q1⟩) I.quiet hs
def kE (te:TE):TS:=fun D σ H=>te σ H D.rt
theorem mP (he:PE X e te):PS X (.Return (some e) pos) (kE te):=by
 intro pins s σ H D I h
 exact wpAny_Return_some (thn (he pins s σ H _ I h) fun v s1 zz11=>by obtain ⟨x,H1,I1,r1,q1⟩:=zz11; exact ⟨x,σ,H1,I1,r1,q1⟩)
def wF (c:TT) (t u:TS):TS:=fun D σ H=>c σ H fun b H1=>if b=true then t D σ H1 else u D σ H1
theorem Bw {c:Expr} {a b:List Stmt} {tc:TT} (hc:PT X c tc) (ha:PSs X a t) (hb:PSs X b u):PS X (.If c a b pos) (wF tc t u):=by
 intro pins s σ H D I h
 refine wpAny_If (thn (hc pins s σ H _ I h) fun d s1 zz12=>?_)
 obtain ⟨H1,I1,q1⟩:=zz12
 cases d with
 | true=>exact ha pins s1 σ H1 D I1 q1
 | false=>exact hb pins s1 σ H1 D I1 q1
def tNever:TS:=fun _ _ _=>False
theorem ps_never:PS X st tNever:=fun _ _ _ _ _ _ h=>h.elim
end
abbrev TG:=V->St->Hp->(St->Hp->Prop)->Prop
abbrev TGs:=List V->St->Hp->(St->Hp->Prop)->Prop
def PG (X:Cx) (target:Expr) (t:TG):Prop:=
 ∀ (pins:List (Addr×Obj)) (s:Shared) (σ:St) (H:Hp) (v:V) (u:Value) (Q:St->Hp->Prop),Inv X pins σ H s->RelV v u->t v σ H Q ->
  wpAny (model X.prog X.w) X.A (assign target X.env u) (fun _ s'=>∃ σ' H',Inv X pins σ' H' s'/\Q σ' H') X.xe s
def PGs (X:Cx) (ts:List Expr) (t:TGs):Prop:=
 ∀ (pins:List (Addr×Obj)) (s:Shared) (σ:St) (H:Hp) (vs:List V) (us:List Value) (Q:St->Hp->Prop),Inv X pins σ H s->Vals vs us->t vs σ H Q ->
  wpAny (model X.prog X.w) X.A (assignInOrder ((assignEach ts X.env).map (·.2)) us) (fun _ s'=>∃ σ' H',Inv X pins σ' H' s'/\Q σ' H') X.xe s
abbrev TSet:=V->V->V->Hp->(Hp->Prop)->Prop
def Bg (X:Cx) (t:TSet):Prop:=
 ∀ (pins:List (Addr×Obj)) (s:Shared) (σ:St) (H:Hp) (o i v:V) (ov iv u:Value) (Q:Hp->Prop),Inv X pins σ H s->RelV o ov->RelV i iv->RelV v u->t o i v H Q ->
  wpAny (model X.prog X.w) X.A (setItem ov iv u) (fun _ s'=>∃ H',Inv X pins σ H' s'/\Q H') X.xe s
abbrev TIp:=V->V->Hp->VK->Prop
def PIp (X:Cx) (op:Operator) (t:TIp):Prop:=
 ∀ (pins:List (Addr×Obj)) (s:Shared) (σ:St) (H:Hp) (x y:V) (v u:Value) (Q:VK),Inv X pins σ H s->RelV x v->RelV y u->t x y H Q ->
  wpAny (model X.prog X.w) X.A (inplaceOp op v u) (EP X pins σ Q) X.xe s
section
variable {X:Cx} {pos:Pos}
def F4 (i:Nat):TG:=fun v σ H Q=>Q (σ.set i (some v)) H
theorem e8 {i:Nat} {x:Str} (hN:X.N.Nodup) (hi:X.N[i]?=some x) (hx:Loc X.env.scope x) (hf:X.fn x=true\/X.env.scope.names.lookup x=some .local:=by first | exact .inl rfl | exact .inr rfl | assumption):PG X (.Name x pos) (F4 i):=by
 intro pins s σ H v u Q I r h
 exact wpAny_assign_Name (Y2 I hN hi hx r (fun s' I'=>⟨_,H,I',h⟩) hf)
def gNil:TGs:=fun vs σ H Q=>vs = []/\Q σ H
def ld (t:TG) (u:TGs):TGs:=fun vs σ H Q=>∃ v r,vs=v::r/\t v σ H fun σ' H'=>u r σ' H' Q
theorem z7:PGs X [] gNil:=by
 intro pins s σ H vs us Q I r h
 obtain ⟨e,h⟩:=h
 subst e
 cases r
 exact assignInOrder_nil ⟨σ,H,I,h⟩
theorem j3 {e:Expr} {es:List Expr} {t:TG} {u:TGs} (h1:PG X e t) (h2:PGs X es u)
  (hs:(assignEach (e::es) X.env).map (·.2)=assign e X.env::(assignEach es X.env).map (·.2):=by rfl):PGs X (e::es) (ld t u):=by
 intro pins s σ H vs us Q I r h
 obtain ⟨v,vr,e1,h⟩:=h
 subst e1
 cases r with
 | cons r rr=>
  rw [hs]
  refine assignInOrder_cons (thn (h1 pins s σ H _ _ _ I r h) fun _ s1 zz13=>?_)
  obtain ⟨σ1,H1,I1,q1⟩:=zz13
  exact h2 pins s1 σ1 H1 _ _ Q I1 rr q1
def kZ (K:Frag) (n:Nat) (t:TGs):TG:=fun v σ H Q=>∃ a xs,v=.ref a/\SqT K H a xs/\xs.length=n/\t xs σ H Q
theorem yl {es:List Expr} {k:Nat} {t:TGs} {n:Nat} (hc:X.calm=true) (h:PGs X es t)
  (hn:(assignEach es X.env).length=n:=by rfl) (hst:(assignEach es X.env).findIdx? (·.1)=none:=by rfl):PG X (.Tuple es k pos) (kZ X.K n t):=by
 intro pins s σ H v u Q I r hw
 obtain ⟨a,xs,e1,hq,hl,hw⟩:=hw
 subst e1
 cases r
 obtain ⟨its,rv,ht,hz⟩:=I.tuple hq
 refine assign_Tuple_tuple (I.ok.hd hc) ht (by simp [hn,<- hl,rv.length]) hst fun h' hx=>?_
 have I1:Inv X pins σ H { s with heap:=h' }:=I.kept (t':=s.toks) fun b o e=>hx b o (Nat.ne_of_lt (Heap.lt_size e)) e
 exact h pins _ σ H xs _ Q I1 (by simpa using rv) hw
def gSub (to ti:TE) (t:TSet):TG:=fun v σ H Q=>to σ H fun o H1=>ti σ H1 fun i H2=>t o i v H2 fun H3=>Q σ H3
theorem aU {o i:Expr} {to ti:TE} {t:TSet} (ho:PE X o to) (hi:PE X i ti) (hs:Bg X t)
  (ha:∀ v,assign (.Subscript o i pos) X.env v=(do
   let ov <- holding [v] (eval o X.env)
   let iv <- holding [v,ov] (eval i X.env)
   standAt pos
   holding [v,ov,iv] (setItem ov iv v)
   release [v,ov,iv] []):=by intro _; rfl):PG X (.Subscript o i pos) (gSub to ti t):=by
 intro pins s σ H v u Q I r h
 rw [ha]
 refine wpAny_bind (wpAny_holding (thn (ho pins s σ H _ I h) fun ov s1 zz14=>?_))
 obtain ⟨x,H1,I1,r1,q1⟩:=zz14
 refine wpAny_bind (wpAny_holding (thn (hi pins s1 σ H1 _ I1 q1) fun iv s2 zz15=>?_))
 obtain ⟨y,H2,I2,r2,q2⟩:=zz15
 refine wpAny_bind (wpAny_standAt (wpAny_bind (wpAny_holding (thn (hs pins s2 σ H2 x y v ov iv u _ I2 r1 r2 r q2) fun _ s3 zz16=>?_))))
 obtain ⟨H3,I3,q3⟩:=zz16
 exact wpAny_release ⟨σ,H3,I3,q3⟩
def U4 (te:TE) (g:TG):TS:=fun D σ H=>te σ H fun x H1=>g x σ H1 D.nx
theorem mQ {tg e:Expr} {te:TE} {g:TG} (he:PE X e te) (hg:PG X tg g) (hs:swapsWithSole [tg] e pos.line X.env=pure false:=by rfl) (hw:swappedStores [tg] e X.env=pure none:=by rfl)
  (h1:(assignEach [tg] X.env).map (·.2) = [assign tg X.env]:=by rfl):PS X (.Assign [tg] e pos) (U4 te g):=by
 intro pins s σ H D I h
 refine wpAny_Assign_stores (thn (he pins s σ H _ I h) fun v s1 zz17=>?_) hs hw
 obtain ⟨x,H1,I1,r1,q1⟩:=zz17
 rw [h1]
 exact thn (hg pins s1 σ H1 x v _ I1 r1 q1) fun _ s2 q=>q
theorem dr {i:Nat} {x:Str} {e:Expr} {te:TE} {pos':Pos} (hN:X.N.Nodup) (hi:X.N[i]?=some x) (hx:Loc X.env.scope x) (he:PE X e te) (hs:swapsWith e (some (.Name x pos')) pos.line X.env=pure false:=by rfl) (hf:X.fn x=true\/X.env.scope.names.lookup x=some .local:=by first | exact .inl rfl | exact .inr rfl | assumption) :
  PS X (.Assign [.Name x pos'] e pos) (U4 te (F4 i)):=by
 intro pins s σ H D I h
 refine wpAny_Assign_Name (thn (he pins s σ H _ I h) fun v s1 zz18=>?_) hs
 obtain ⟨y,H1,I1,r1,q1⟩:=zz18
 exact Y2 I1 hN hi hx r1 (fun s2 I2=>⟨_,H1,I2,q1⟩) hf
def wJ (i:Nat) (te:TE) (ti:TIp):TS:=fun D σ H=>∃ x,σ[i]?=some (some x)/\te σ H fun y H1=>ti x y H1 fun z H2=>D.nx (σ.set i (some z)) H2
theorem yh {i:Nat} {x:Str} {e:Expr} {te:TE} {op:Operator} {ti:TIp} {pos':Pos} (hN:X.N.Nodup) (hi:X.N[i]?=some x) (hx:Loc X.env.scope x) (he:PE X e te) (ho:PIp X op ti) (hf:X.fn x=true\/X.env.scope.names.lookup x=some .local:=by first | exact .inl rfl | exact .inr rfl | assumption) :
  PS X (.AugAssign (.Name x pos') op e pos) (wJ i te ti):=by
 intro pins s σ H D I h
 obtain ⟨v,e1,h⟩:=h
 obtain ⟨m,hn,hl⟩:=I.loc
 have vis:Vis X.env.scope x:=by rcases hx with k | k; exact .inl k; exact .inr (.inl k)
 obtain ⟨u,r,l⟩:=hl i x v hi e1 vis
 refine wpAny_AugAssign_Name ?_
 have go:wpAny (model X.prog X.w) X.A (eval e X.env) (fun w s₂=>wpAny (model X.prog X.w) X.A (inplaceOp op u w) (fun r s₃=>wpAny (model X.prog X.w) X.A (storeName X.env x r) (fun _=>SP X pins D .next) X.xe s₃) X.xe s₂) X.xe s:=by
  refine thn (he pins s σ H _ I h) fun w s1 zz19=>?_
  obtain ⟨y,H1,I1,r1,q1⟩:=zz19
  refine thn (ho pins s1 σ H1 v y u w _ I1 r r1 q1) fun z s2 zz20=>?_
  obtain ⟨zv,H2,I2,r2,q2⟩:=zz20
  exact Y2 I2 hN hi hx r2 (fun s3 I3=>⟨_,H2,I3,q2⟩) hf
 rcases l with ⟨hk,hm⟩ | ⟨hk,c,hc,hcell⟩
 ·exact wpAny_loadName_local I.ok.kind hk hn hm go
 ·rcases hk with hk | hk
  ·exact wpAny_loadName_cell I.ok.kind hk hc hcell go
  ·rcases hx with k | k
   ·have:X.env.scope.names.lookup x=some .free:=hk
    rw [k] at this; cases this
   ·have:X.env.scope.names.lookup x=some .free:=hk
    rw [k] at this; cases this
def ipI (f:Int->Int->Int):TIp:=fun x y H Q=>∃ i j,x=.int i/\y=.int j/\Q (.int (f i j)) H
theorem zp:PIp X .Add (ipI fun i j=>i+j):=by
 intro pins s σ H x y v u Q I r1 r2 h
 obtain ⟨i,j,e1,e2,q⟩:=h
 subst e1; subst e2
 obtain ⟨t,rfl⟩:=r1
 obtain ⟨t',rfl⟩:=r2
 exact iadd_int ⟨.int _,H,I.tok _,⟨_,rfl⟩,q⟩
end
section
variable {X:Cx} {pos:Pos}
def lU (c:TT) (tb:TS):TS:=fun D σ H=>∃ W:Nat->St->Hp->Prop,(∃ m,W m σ H)/\∀ m σ H,W m σ H ->
 c σ H fun b H1=>if b=true then ∃ N:St->Hp->Prop,(∀ σ' H',N σ' H'->∃ m',m'<m/\W m' σ' H')/\tb { D with nx:=N,ct:=N,bk:=D.nx } σ H1 else D.nx σ H1
theorem pW {c:Expr} {body:List Stmt} {tc:TT} {tb:TS} (hp:PassesOwn (model X.prog X.w) X.A X.env X.xe) (hc:PT X c tc) (hb:PSs X body tb):PS X (.While c body [] pos) (lU tc tb):=by
 intro pins s σ H D I h
 obtain ⟨W,⟨m0,w0⟩,turn⟩:=h
 refine wpAny_While (codeAny_whileLoop (fun n s'=>∃ σ' H',Inv X pins σ' H' s'/\W n σ' H') ?_ m0 ⟨σ,H,I,w0⟩)
 rintro n s1 ⟨σ1,H1,I1,w1⟩
 refine wpAny_passesOwn hp (thn (hc pins s1 σ1 H1 _ I1 (turn n σ1 H1 w1)) fun b s2 zz21=>?_)
 obtain ⟨H2,I2,q2⟩:=zz21
 cases b with
 | true=>
  obtain ⟨N,hN,q2⟩:=q2
  rw [if_pos rfl]
  refine wpAny_passesOwn hp (thn (hb pins s2 σ1 H2 _ I2 q2) fun f s3 q3=>?_)
  cases f with
  | next=>
   obtain ⟨σ3,H3,I3,n3⟩:=q3
   obtain ⟨m',hm,w3⟩:=hN σ3 H3 n3
   exact ⟨m',hm,σ3,H3,I3,w3⟩
  | cont=>
   obtain ⟨σ3,H3,I3,n3⟩:=q3
   obtain ⟨m',hm,w3⟩:=hN σ3 H3 n3
   exact ⟨m',hm,σ3,H3,I3,w3⟩
  | brk=>exact q3
  | ret v=>exact q3
 | false=>
  rw [if_neg Bool.false_ne_true]
  exact wpAny_execs_nil ⟨σ1,H2,I2,q2⟩
end
structure It where
 go:Nat->Hp->Prop
 yld:Nat->Hp->V->Hp->Prop
 stop:Nat->Hp->Prop
def x5 (X:Cx) (pins:List (Addr×Obj)) (H:Hp) (b:Addr):Prop:=
 H b=none/\b≠X.env.locals/\b∉X.fs/\(b∈X.ex\/X.s₀.heap.objs.size<=b)/\(∀ x c,X.env.cells.lookup x=some c->c≠b)/\∀ p∈X.pn++pins,p.1≠b
theorem Inv.fpOk {X:Cx} {pins:List (Addr×Obj)} {σ:St} {H H':Hp} {s:Shared} {b:Addr} (I:Inv X pins σ H s) (hb:s.heap.objs.size<=b) (hn:H' b=none):x5 X pins H' b:=by
 refine ⟨hn,Nat.ne_of_gt (Nat.lt_of_lt_of_le I.lt hb),I.nofs hb,.inr (Nat.le_trans I.sz hb),fun x c e z=>?_,fun p hp z=>?_⟩
 ·obtain ⟨v,q⟩:=I.cell x c e
  exact absurd (Nat.lt_of_lt_of_le q.lt (by rw [z]; exact hb)) (Nat.lt_irrefl _)
 ·exact absurd (Nat.lt_of_lt_of_le (Heap.lt_size (I.pin p hp).1) (by rw [z]; exact hb)) (Nat.lt_irrefl _)
structure Turn (P:Program) (w:World) (K:Frag) (tg:Expr) (J:It) (fp:List Addr) (it:Addr) (tn:Nat->Heap->Prop):Prop where
 mem:it∈fp
 obj:∀ i h,tn i h->∀ b∈fp,∃ o,h.get? b=some o/\∀ v,o.data≠.cell v
 keep:∀ i h h',tn i h->(∀ b∈fp,∀ o,h.get? b=some o->h'.get? b=some o)->tn i h'
 item:∀ (X:Cx),X.prog=P->X.w=w->X.K=K->X.calm=true->∀ (i:Nat) (pins:List (Addr×Obj)) (s:Shared) (σ:St) (H:Hp) (E:Value->Shared->Prop),Inv X pins σ H s->(∀ b∈fp,x5 X pins H b)->tn i s.heap->J.go i H ->
  wpAny (model P w) X.A (pyNext (.ref it)) (fun r s1=>∃ u,r=some u /\
   wpAny (model P w) X.A (letOwnedTupleGo tg (.ref it) u) (fun _ s2=>∃ x H',Inv X pins σ H' s2/\RelV x u/\J.yld i H x H'/\tn (i+1) s2.heap/\∀ b∈fp,H' b=none) E s1) E s
 done:∀ (X:Cx),X.prog=P->X.w=w->X.K=K->X.calm=true->∀ (i:Nat) (pins:List (Addr×Obj)) (s:Shared) (σ:St) (H:Hp) (E:Value->Shared->Prop),Inv X pins σ H s->(∀ b∈fp,x5 X pins H b)->tn i s.heap->J.stop i H ->
  wpAny (model P w) X.A (pyNext (.ref it)) (fun r s1=>r=none/\Inv X pins σ H s1) E s
 self:∀ (A:Around) (i:Nat) (s:Shared) (Q:Value->Shared->Prop) (E:Value->Shared->Prop),tn i s.heap->Q (.ref it) s->wpAny (model P w) A (pyIter (.ref it)) Q E s
abbrev TI:=St->Hp->(It->Hp->Prop)->Prop
def PIE (X:Cx) (pins:List (Addr×Obj)) (σ:St) (tg:Expr) (R:It->Hp->Prop) (itv:Value) (s2:Shared):Prop:=
 ∃ (it:Addr) (fp:List Addr) (tn:Nat->Heap->Prop) (J:It) (H':Hp),itv=.ref it/\Inv X pins σ H' s2/\Turn X.prog X.w X.K tg J fp it tn/\tn 0 s2.heap/\(∀ b∈fp,x5 X pins H' b)/\R J H'
def PI (X:Cx) (tg iter:Expr) (wi:TI):Prop:=
 ∀ (pins:List (Addr×Obj)) (s:Shared) (σ:St) (H:Hp) (R:It->Hp->Prop),Inv X pins σ H s->wi σ H R ->
  wpAny (model X.prog X.w) X.A (eval iter X.env) (fun v s1=>wpAny (model X.prog X.w) X.A (pyIter v) (PIE X pins σ tg R) X.xe s1) X.xe s
theorem kY {M:Model} {A:Around} {E:Value->Shared->Prop} {s:Shared} {tg:Expr} {it:Addr} {u:Value} {o:Obj} {n:String} {vs:Array Value} {Q:Unit->Shared->Prop} (ho:s.heap.get? it=some o) (hc:o.cls=.type n) (hd:o.data=.fields vs)
    (hn:["enumerate", "zip", "dict_itemiterator", "dict_reverseitemiterator", "odict_iterator", "itertools.zip_longest", "itertools.pairwise"].contains n=false) (hQ:Q () s):wpAny M A (letOwnedTupleGo tg (.ref it) u) Q E s:=by
  unfold letOwnedTupleGo
  cases tg <;> first
    | exact wpAny_pure hQ
    | (cases u <;> first
        | exact wpAny_pure hQ
        | (refine wpAny_bind (wpAny_load ho ?_)
           rw [hc,hd]
           show wpAny M A (if (["enumerate", "zip", "dict_itemiterator", "dict_reverseitemiterator", "odict_iterator", "itertools.zip_longest", "itertools.pairwise"].contains n&&vs[0]? == some (rawInt _))=true then _ else _) Q E s
           rw [if_neg (by intro h; rw [hn,Bool.false_and] at h; cases h)]
           exact wpAny_pure hQ))
def Itl (K:Frag) (a:Addr):It:=
 ⟨fun i H=>∃ xs x,SqL K H a xs/\xs[i]?=some x,fun i H x H'=>H'=H/\∀ xs,SqL K H a xs->xs[i]?=some x,fun i H=>∃ xs,SqL K H a xs/\xs.length<=i⟩
def Itt (K:Frag) (a:Addr):It:=
 ⟨fun i H=>∃ xs x,SqT K H a xs/\xs[i]?=some x,fun i H x H'=>H'=H/\∀ xs,SqT K H a xs->xs[i]?=some x,fun i H=>∃ xs,SqT K H a xs/\xs.length<=i⟩
def Itr (lo:Int) (n:Nat):It:=⟨fun i _=>i<n,fun i H x H'=>H'=H/\x=.int (lo+i),fun i _=>n<=i⟩
theorem lQ {P:Program} {w:World} {K:Frag} {tg:Expr} (a it:Addr):Turn P w K tg (Itl K a) [it] it (fun i h=>h.IsListIter it a i) where
 mem:=by simp
 obj:=fun i h st b hb=>by
  have e:b=it:=by simpa using hb
  subst e
  obtain ⟨o,e,c,d⟩:=st
  exact ⟨o,e,fun v z=>by rw [d] at z; cases z⟩
 keep:=fun i h h' st k=>st.at fun o e=>k it (by simp) o e
 item:=by
  intro X hP hw hK hc i pins s σ H E I hf st hg
  subst hP hw hK
  obtain ⟨xs,x,hq,hx⟩:=hg
  obtain ⟨its,rv,p,hz⟩:=I.list hq
  obtain ⟨u,hu,ru⟩:=rv.get hx
  obtain ⟨f0,f1,f2,f3,f4,f5⟩:=hf it (by simp)
  refine wpAny_pyNext_list_item st p.isList (x:=u) (by simpa using hu) fun h' st' sb=>?_
  have I1:Inv X pins σ H { s with heap:=h' }:=I.turned (t':=s.toks) (fun b o hb e=>(sb.2 b hb).trans e) f0 f1 f3 f4 f5
  obtain ⟨o,e,c,d⟩:=id st'
  exact ⟨u,rfl,kY (s:={ s with heap:=h' }) e c d (by decide) ⟨x,H,I1,ru,⟨rfl,fun ys hy=>by rw [I.list_inj hy hq]; exact hx⟩,st',fun b hb=>(hf b hb).1⟩⟩
 done:=by
  intro X hP hw hK hc i pins s σ H E I hf st hg
  subst hP hw hK
  obtain ⟨xs,hq,hx⟩:=hg
  obtain ⟨its,rv,p,hz⟩:=I.list hq
  obtain ⟨f0,f1,f2,f3,f4,f5⟩:=hf it (by simp)
  have hl:=rv.length
  exact wpAny_pyNext_list_end (I.ok.hd hc) st p.isList (by simp; omega) fun h' eb=>⟨rfl,I.turned (t':=s.toks) (fun b o hb e=>eb b o hb e) f0 f1 f3 f4 f5⟩
 self:=fun _ _ _ _ _ st h=>wpAny_pyIter_listiter st h
theorem kB {P:Program} {w:World} {K:Frag} {tg:Expr} (a it:Addr):Turn P w K tg (Itt K a) [it] it (fun i h=>h.IsTupleIter it a i) where
 mem:=by simp
 obj:=fun i h st b hb=>by
  have e:b=it:=by simpa using hb
  subst e
  obtain ⟨o,e,c,d⟩:=st
  exact ⟨o,e,fun v z=>by rw [d] at z; cases z⟩
 keep:=fun i h h' st k=>st.at fun o e=>k it (by simp) o e
 item:=by
  intro X hP hw hK hc i pins s σ H E I hf st hg
  subst hP hw hK
  obtain ⟨xs,x,hq,hx⟩:=hg
  obtain ⟨its,rv,p,hz⟩:=I.tuple hq
  obtain ⟨u,hu,ru⟩:=rv.get hx
  obtain ⟨f0,f1,f2,f3,f4,f5⟩:=hf it (by simp)
  refine wpAny_pyNext_tuple_item st (show s.heap.IsTuple a its.toArray from p) (x:=u) (by simpa using hu) fun h' st' sb=>?_
  have I1:Inv X pins σ H { s with heap:=h' }:=I.turned (t':=s.toks) (fun b o hb e=>(sb.2 b hb).trans e) f0 f1 f3 f4 f5
  obtain ⟨o,e,c,d⟩:=id st'
  exact ⟨u,rfl,kY (s:={ s with heap:=h' }) e c d (by decide) ⟨x,H,I1,ru,⟨rfl,fun ys hy=>by rw [I.tuple_inj hy hq]; exact hx⟩,st',fun b hb=>(hf b hb).1⟩⟩
 done:=by
  intro X hP hw hK hc i pins s σ H E I hf st hg
  subst hP hw hK
  obtain ⟨xs,hq,hx⟩:=hg
  obtain ⟨its,rv,p,hz⟩:=I.tuple hq
  obtain ⟨f0,f1,f2,f3,f4,f5⟩:=hf it (by simp)
  have hl:=rv.length
  exact wpAny_pyNext_tuple_end (I.ok.hd hc) st (show s.heap.IsTuple a its.toArray from p) (by simp; omega) fun h' eb=>⟨rfl,I.turned (t':=s.toks) (fun b o hb e=>eb b o hb e) f0 f1 f3 f4 f5⟩
 self:=fun _ _ _ _ _ st h=>wpAny_pyIter_tupleiter st h
theorem kC {P:Program} {w:World} {K:Frag} {tg:Expr} (it:Addr) (lo:Int) (n:Nat):Turn P w K tg (Itr lo n) [it] it (fun i h=>IsRangeIter h it (lo+(i:Nat)*1) ((n:Int)-(i:Nat)) 1) where
 mem:=by simp
 obj:=fun i h st b hb=>by
  have e:b=it:=by simpa using hb
  subst e
  exact ⟨_,st,fun v z=>by
   have z':Data.fields _=Data.cell v:=z
   cases z'⟩
 keep:=fun i h h' st k=>k it (by simp) _ st
 item:=by
  intro X hP hw hK hc i pins s σ H E I hf st hg
  subst hP hw hK
  obtain ⟨f0,f1,f2,f3,f4,f5⟩:=hf it (by simp)
  have W:=Walks.range (prog:=X.prog) (w:=X.w) (I.ok.hd hc) it lo 1 n
  refine W.item i s _ _ hg st fun v h' tk hv st' kk=>?_
  obtain ⟨t,rfl⟩:=hv
  have I1:Inv X pins σ H { s with heap:=h',toks:=tk }:=I.turned (fun b o hb e=>kk b o (by simpa using hb) e) f0 f1 f3 f4 f5
  refine ⟨_,rfl,kY (s:={ s with heap:=h',toks:=tk }) (n := "range_iterator") st' rfl rfl (by decide) ⟨.int (lo+i),H,I1,⟨t,?_⟩,⟨rfl,rfl⟩,st',fun b hb=>(hf b hb).1⟩⟩
  rw [Int.mul_one]
 done:=by
  intro X hP hw hK hc i pins s σ H E I hf st hg
  subst hP hw hK
  obtain ⟨f0,f1,f2,f3,f4,f5⟩:=hf it (by simp)
  exact wpAny_pyNext_range_end (I.ok.hd hc) st (by have:n<=i:=hg; omega) fun h' eb=>⟨rfl,I.turned (t':=s.toks) (fun b o hb e=>eb b o hb e) f0 f1 f3 f4 f5⟩
 self:=fun _ _ _ _ _ st h=>wpAny_pyIter_rangeiter st h
end L2
namespace L2
open PySem PySem.Spec PyProof.Rows
section
variable {X:Cx} {tg:Expr}
theorem pJ {pins:List (Addr×Obj)} {σ:St} {H:Hp} {s:Shared} {R:It->Hp->Prop} {E:Value->Shared->Prop} {lo hi:Int} {t u v:Tok} {tk:Nat} (I:Inv X pins σ H s) (h1:-(2^62)<=lo) (h2:lo<2^62) (h3:-(2^62)<=hi) (h4:hi<2^62)
  (q:R (Itr lo (hi-lo).toNat) H):wpAny (model X.prog X.w) X.A (pyIter (.ref s.heap.objs.size)) (PIE X pins σ tg R) E { s with heap:=s.heap.push { cls:=.type "range",data:=.fields #[.int lo t,.int hi u,.int 1 v] },toks:=tk }:=by
 refine wpAny_pyIter_range (IsRange.new ..) (small_one h1 h2 h3 h4) ?_
 have I1:Inv X pins σ H { s with heap:=s.heap.push { cls:=.type "range",data:=.fields #[.int lo t,.int hi u,.int 1 v] },toks:=tk }:=I.kept fun b o e=>Heap.get?_push_of_some _ e
 refine ⟨(s.heap.push { cls:=.type "range",data:=.fields #[.int lo t,.int hi u,.int 1 v] }).objs.size,[(s.heap.push { cls:=.type "range",data:=.fields #[.int lo t,.int hi u,.int 1 v] }).objs.size],_,_,H,rfl,
  I1.kept (t':=tk) fun b o e=>Heap.get?_push_of_some _ e,kC _ lo (hi-lo).toNat,?_,fun b hb=>?_,q⟩
 ·have e1:lo+((0:Nat):Int)*1=lo:=by simp
  have e2:(((hi-lo).toNat:Nat):Int)-((0:Nat):Int)=Builtin.Range.rangeSize lo hi 1:=by rw [rangeSize_one]; split <;> omega
  show IsRangeIter _ _ (lo+((0:Nat):Int)*1) ((((hi-lo).toNat:Nat):Int)-((0:Nat):Int)) 1
  rw [e1,e2]
  exact Heap.get?_push_size _ rfl
 ·have e:b=(s.heap.push { cls:=.type "range",data:=.fields #[.int lo t,.int hi u,.int 1 v] }).objs.size:=by simpa using hb
  subst e
  exact I1.fpOk (Nat.le_refl _) (I1.hok.fresh (Nat.le_refl _))
def sw (ta:TA):TI:=fun σ H R=>ta σ H fun vs H1=>∃ j:Int,vs = [.int j] /\ -(2^62)<=j/\j<2^62/\R (Itr 0 j.toNat) H1
theorem mU {a:Expr} {ta:TA} {p pos:Pos} (hg:Gl X "range") (hm:X.mg "range" = none) (ha:PA X [a] ta) (hs:starEach [a] X.env = [(false,eval a X.env)]:=by rfl):PI X tg (.Call (.Name "range" p) [a] [] pos) (sw ta):=by
 intro pins s σ H R I h
 refine Call_ (K7 I hg hm boot_range (PyProof.Rows.callWith_type1 (thn (ha pos pins s σ H _ I h) fun us s1 zz22=>?_) hs rfl))
 obtain ⟨vs,H1,I1,r1,q1⟩:=zz22
 obtain ⟨j,e,q1,q2,q⟩:=q1
 subst e
 cases r1 with
 | cons r rr=>
  cases rr
  obtain ⟨t,rfl⟩:=r
  exact call_range_1 (pJ I1 (by omega) (by omega) q1 q2 (by simpa using q))
def wG (wi:TI) (g:TG) (tb:TS):TS:=fun D σ H=>wi σ H fun J H1=>∃ W:Nat->Nat->St->Hp->Prop,(∃ m,W 0 m σ H1)/\∀ i m σ H,W i m σ H ->
 (J.stop i H/\D.nx σ H)\/(J.go i H/\∃ N:St->Hp->Prop,(∀ σ' H',N σ' H'->∃ m',m'<m/\W (i+1) m' σ' H')/\∀ x H',J.yld i H x H'->g x σ H' fun σ2 H2=>tb { D with nx:=N,ct:=N,bk:=D.nx } σ2 H2)
def W6 (fp:List Addr) (h:Heap):List (Addr×Obj):=fp.filterMap fun b=>(h.get? b).map fun o=>(b,o)
theorem F3 {fp:List Addr} {h:Heap} {b:Addr} {o:Obj} (hb:b∈fp) (e:h.get? b=some o):(b,o)∈W6 fp h:=List.mem_filterMap.mpr ⟨b,hb,by rw [e]; rfl⟩
theorem nt {fp:List Addr} {h:Heap} {p:Addr×Obj} (hp:p∈W6 fp h):p.1∈fp/\h.get? p.1=some p.2:=by
 obtain ⟨b,hb,e⟩:=List.mem_filterMap.mp hp
 cases q:h.get? b with
 | none=>rw [q] at e; cases e
 | some o=>
  rw [q] at e
  have e':(b,o)=p:=Option.some.inj e
  subst e'
  exact ⟨hb,q⟩
theorem Inv.pinned {pins:List (Addr×Obj)} {σ:St} {H:Hp} {s:Shared} {fp:List Addr} (I:Inv X pins σ H s) (hf:∀ b∈fp,x5 X pins H b) (ho:∀ b∈fp,∃ o,s.heap.get? b=some o/\∀ v,o.data≠.cell v):Inv X (pins++W6 fp s.heap) σ H s:=
 I.pins_of fun p hp=>(List.mem_append.mp hp).elim (fun z=>I.pin p (List.mem_append_right _ z)) fun z=>by
  obtain ⟨hb,e⟩:=nt z
  obtain ⟨f0,f1,f2,_⟩:=hf p.1 hb
  obtain ⟨o,e',d⟩:=ho p.1 hb
  rw [e] at e'; cases e'
  exact ⟨e,f0,f1,f2,d⟩
theorem Inv.unpinned {pins pl:List (Addr×Obj)} {σ:St} {H:Hp} {s:Shared} (I:Inv X (pins++pl) σ H s):Inv X pins σ H s:=I.pins_of fun p hp=>I.pin p (List.mem_append_right _ (List.mem_append_left _ hp))
theorem yg {iter:Expr} {body:List Stmt} {wi:TI} {g:TG} {tb:TS} {pos:Pos} (hp:PassesOwn (model X.prog X.w) X.A X.env X.xe) (hc:X.calm=true) (hi:PI X tg iter wi) (hg:PG X tg g) (hb:PSs X body tb)
  (hs:∀ x,foldedSetIterable iter X.env x=pure x:=by intro _; rfl):PS X (.For tg iter body [] pos) (wG wi g tb):=by
 intro pins s σ H D I h
 refine wpAny_For (thn (hi pins s σ H _ I h) fun v s1 h1=>thn h1 fun itv s2 h2=>?_) hs
 obtain ⟨it,fp,tn,J,H2,e,I2,T,st2,f2,W,⟨m0,w0⟩,turn⟩:=h2
 subst e
 -- what stays true of the iterator's objects through the loop
 have stat:∀ {H':Hp},(∀ b∈fp,H' b=none)->∀ b∈fp,x5 X pins H' b:=fun hn b hb=>⟨hn b hb,(f2 b hb).2⟩
 refine codeAny_forLoop_any (fun n s'=>∃ i σ' H',Inv X pins σ' H' s'/\tn i s'.heap/\(∀ b∈fp,H' b=none)/\W i n σ' H') ?_ m0 ⟨0,σ,H2,I2,st2,fun b hb=>(f2 b hb).1,w0⟩
 rintro n s3 ⟨i,σ3,H3,I3,st3,fr3,w3⟩
 rcases turn i n σ3 H3 w3 with ⟨stop,qn⟩ | ⟨go,N,hN,step⟩
 ·refine wpAny_passesOwn hp (thn (T.done X rfl rfl rfl hc i pins s3 σ3 H3 X.xe I3 (stat fr3) st3 stop) fun r s4 ⟨hr,I4⟩=>?_)
  subst hr
  exact wpAny_execs_nil ⟨σ3,H3,I4,qn⟩
 ·refine wpAny_passesOwn hp (thn (T.item X rfl rfl rfl hc i pins s3 σ3 H3 X.xe I3 (stat fr3) st3 go) fun r s4 ⟨u,hr,h4⟩=>?_)
  subst hr
  refine wpAny_passesOwn hp (thn h4 fun _ s5 zz25=>?_)
  obtain ⟨x,H5,I5,r5,y5,st5,fr5⟩:=zz25
  have I5':=I5.pinned (stat fr5) (T.obj _ _ st5)
  refine wpAny_passesOwn hp (thn (hg _ s5 σ3 H5 x u _ I5' r5 (step x H5 y5)) fun _ s6 zz26=>?_)
  obtain ⟨σ6,H6,I6,q6⟩:=zz26
  refine wpAny_passesOwn hp (thn (hb _ s6 σ6 H6 _ I6 q6) fun f s7 q7=>?_)
  have again:∀ {σ7:St} {H7:Hp},Inv X (pins++W6 fp s5.heap) σ7 H7 s7->N σ7 H7->∃ m,m<n/\∃ i σ' H',Inv X pins σ' H' s7/\tn i s7.heap/\(∀ b∈fp,H' b=none)/\W i m σ' H':=fun {σ7 H7} I7 n7=>by
   obtain ⟨m',hm,w7⟩:=hN σ7 H7 n7
   refine ⟨m',hm,i+1,σ7,H7,I7.unpinned,T.keep _ _ _ st5 fun b hb o e=>(I7.pin (b,o) (List.mem_append_right _ (List.mem_append_right _ (F3 hb e)))).1,fun b hb=>?_,w7⟩
   obtain ⟨o,e,d⟩:=T.obj _ _ st5 b hb
   exact (I7.pin (b,o) (List.mem_append_right _ (List.mem_append_right _ (F3 hb e)))).2.1
  cases f with
  | next=>obtain ⟨σ7,H7,I7,n7⟩:=q7; exact again I7 n7
  | cont=>obtain ⟨σ7,H7,I7,n7⟩:=q7; exact again I7 n7
  | brk=>obtain ⟨σ7,H7,I7,q7⟩:=q7; exact ⟨σ7,H7,I7.unpinned,q7⟩
  | ret v=>obtain ⟨x7,σ7,H7,I7,r7,q7⟩:=q7; exact ⟨x7,σ7,H7,I7.unpinned,r7,q7⟩
end
end L2
namespace L2
open PySem PySem.Spec PyProof.Rows
abbrev R2:=V->V->Hp->VK->Prop
def OpR (X:Cx) (f:Value->Value->Sem Value) (r:R2):Prop:=
 ∀ (pins:List (Addr×Obj)) (s:Shared) (σ:St) (H:Hp) (x y:V) (v u:Value) (Q:VK),Inv X pins σ H s->RelV x v->RelV y u->r x y H Q ->
  wpAny (model X.prog X.w) X.A (f v u) (EP X pins σ Q) X.xe s
def UnR (X:Cx) (f:Value->Sem Value) (r:V->Hp->VK->Prop):Prop:=
 ∀ (pins:List (Addr×Obj)) (s:Shared) (σ:St) (H:Hp) (x:V) (v:Value) (Q:VK),Inv X pins σ H s->RelV x v->r x H Q ->
  wpAny (model X.prog X.w) X.A (f v) (EP X pins σ Q) X.xe s
def E2 (X:Cx) (f:Value) (r:List V->Hp->VK->Prop):Prop:=
 ∀ (pins:List (Addr×Obj)) (s:Shared) (σ:St) (H:Hp) (xs:List V) (us:List Value) (Q:VK),Inv X pins σ H s->Vals xs us->r xs H Q ->
  wpAny (model X.prog X.w) X.A (call f us) (EP X pins σ Q) X.xe s
def tOp (r:R2) (ta tb:TE):TE:=fun σ H Q=>ta σ H fun x H1=>tb σ H1 fun y H2=>r x y H2 Q
def tUn (r:V->Hp->VK->Prop) (ta:TE):TE:=fun σ H Q=>ta σ H fun x H1=>r x H1 Q
def rI (C:Int->Int->Prop) (g:Int->Int->V):R2:=fun x y H Q=>∃ i j,x=.int i/\y=.int j/\C i j/\Q (g i j) H
def rI0 (g:Int->Int->V):R2:=fun x y H Q=>∃ i j,x=.int i/\y=.int j/\Q (g i j) H
def rU (g:Int->V):V->Hp->VK->Prop:=fun x H Q=>∃ i,x=.int i/\Q (g i) H
section
variable {X:Cx} {a b c:Expr} {ta tb tc:TE} {pos:Pos}
theorem rF (ha:PE X a ta) (hb:PE X b tb) {pins:List (Addr×Obj)} {s:Shared} {σ:St} {H:Hp} {R:V->V->Hp->Prop} (I:Inv X pins σ H s)
  (h:ta σ H fun x H1=>tb σ H1 fun y H2=>R x y H2) {Q:Value->Shared->Prop} {f:Value->Value->Sem Value}
  (hf:∀ v u s2 x y H2,Inv X pins σ H2 s2->RelV x v->RelV y u->R x y H2->wpAny (model X.prog X.w) X.A (f v u) Q X.xe s2) :
  wpAny (model X.prog X.w) X.A (eval a X.env) (fun v s₁=>wpAny (model X.prog X.w) X.A (eval b X.env) (fun u s₂=>wpAny (model X.prog X.w) X.A (f v u) Q X.xe s₂) X.xe s₁) X.xe s:=by
 refine thn (ha pins s σ H _ I h) fun v s1 zz27=>?_
 obtain ⟨x,H1,I1,r1,q1⟩:=zz27
 refine thn (hb pins s1 σ H1 _ I1 q1) fun u s2 zz28=>?_
 obtain ⟨y,H2,I2,r2,q2⟩:=zz28
 exact hf v u s2 x y H2 I2 r1 r2 q2
theorem BB {op:Operator} {r:R2} (ho:OpR X (binaryOp op) r) (ha:PE X a ta) (hb:PE X b tb):PE X (.BinOp a op b pos) (tOp r ta tb):=by
 intro pins s σ H Q I h
 exact wpAny_BinOp (rF ha hb I h fun v u s2 x y H2 I2 rx ry q=>ho pins s2 σ H2 x y v u Q I2 rx ry q)
theorem BA {op:UnaryOp} {r:V->Hp->VK->Prop} (ho:UnR X (unaryOp op) r) (ha:PE X a ta):PE X (.UnaryOp op a pos) (tUn r ta):=by
 intro pins s σ H Q I h
 exact UnaryOp_ (thn (ha pins s σ H _ I h) fun v s1 zz29=>by obtain ⟨x,H1,I1,r1,q1⟩:=zz29; exact ho pins s1 σ H1 x v Q I1 r1 q1)
theorem opI {f:Value->Value->Sem Value} {C:Int->Int->Prop} {g:Int->Int->Int}
  (rule:∀ (i j:Int) (t u:Tok) (s:Shared) (Q:Value->Shared->Prop) (E:Value->Shared->Prop),C i j->Q (.int (g i j) s.toks) { s with toks:=s.toks+1 }->wpAny (model X.prog X.w) X.A (f (.int i t) (.int j u)) Q E s) :
  OpR X f (rI C fun i j=>.int (g i j)):=by
 intro pins s σ H x y v u Q I rx ry h
 obtain ⟨i,j,rfl,rfl,hc,q⟩:=h
 obtain ⟨t,rfl⟩:=rx
 obtain ⟨t',rfl⟩:=ry
 exact rule i j t t' s _ _ hc ⟨.int (g i j),H,I.tok _,⟨_,rfl⟩,q⟩
theorem yu {f:Value->Value->Sem Value} {g:Int->Int->Int}
  (rule:∀ (i j:Int) (t u:Tok) (s:Shared) (Q:Value->Shared->Prop) (E:Value->Shared->Prop),Q (.int (g i j) s.toks) { s with toks:=s.toks+1 }->wpAny (model X.prog X.w) X.A (f (.int i t) (.int j u)) Q E s) :
  OpR X f (rI0 fun i j=>.int (g i j)):=by
 intro pins s σ H x y v u Q I rx ry h
 obtain ⟨i,j,rfl,rfl,q⟩:=h
 obtain ⟨t,rfl⟩:=rx
 obtain ⟨t',rfl⟩:=ry
 exact rule i j t t' s _ _ ⟨.int (g i j),H,I.tok _,⟨_,rfl⟩,q⟩
theorem kM {f:Value->Value->Sem Value} {g:Int->Int->Bool}
  (rule:∀ (i j:Int) (t u:Tok) (s:Shared) (Q:Value->Shared->Prop) (E:Value->Shared->Prop),Q (.bool (g i j)) s->wpAny (model X.prog X.w) X.A (f (.int i t) (.int j u)) Q E s) :
  OpR X f (rI0 fun i j=>.bl (g i j)):=by
 intro pins s σ H x y v u Q I rx ry h
 obtain ⟨i,j,rfl,rfl,q⟩:=h
 obtain ⟨t,rfl⟩:=rx
 obtain ⟨t',rfl⟩:=ry
 exact rule i j t t' s _ _ ⟨.bl (g i j),H,I,rfl,q⟩
def V5 (i j:Int):Prop:=0<j/\j<1073741824
def M6 (i j:Int):Prop:=0<=j/\j<=1000000/\i.natAbs<2^64
def CMul (i j:Int):Prop:=(-(2^64)<i/\i<2^64)\/(-(2^64)<j/\j<2^64)
theorem CMul.ok {i j:Int} (h:CMul i j):IntMulOk i j:=by
 rcases h with ⟨h1,h2⟩ | ⟨h1,h2⟩
 ·exact .of_left (intBits_le_64 h1 h2)
 ·exact .of_right (intBits_le_64 h1 h2)
theorem o7:OpR X (binaryOp .Add) (rI0 fun i j=>.int (i+j)):=yu fun _ _ _ _ _ _ _ q=>add_int q
theorem N8:OpR X (binaryOp .Sub) (rI0 fun i j=>.int (i-j)):=yu fun _ _ _ _ _ _ _ q=>sub_int q
theorem jK:OpR X (binaryOp .FloorDiv) (rI V5 fun i j=>.int (i/j)):=opI fun i j _ _ _ _ _ hc q=>by
 have h1:(0:Int)<j:=hc.1
 have h2:j<1073741824:=hc.2
 exact floordiv_int (by omega) (by rw [Int.fdiv_eq_ediv_of_nonneg i (by omega)]; exact q) (.inl (PyProof.noPylong_small (by omega)))
theorem K6:OpR X (binaryOp .Mod) (rI (fun _ j=>0<j) fun i j=>.int (i%j)):=opI fun i j _ _ _ _ _ hc q=>by
 have h1:(0:Int)<j:=hc
 exact mod_int' (by omega) (by rw [Int.fmod_eq_emod_of_nonneg i (by omega)]; exact q)
theorem dw:OpR X (binaryOp .Pow) (rI M6 fun i j=>.int (i^j.toNat)):=opI fun _ _ _ _ _ _ _ hc q=>pow_int_small hc.1 hc.2.1 hc.2.2 q
theorem unI {f:Value->Sem Value} {g:Int->Int}
  (rule:∀ (i:Int) (t:Tok) (s:Shared) (Q:Value->Shared->Prop) (E:Value->Shared->Prop),Q (.int (g i) s.toks) { s with toks:=s.toks+1 }->wpAny (model X.prog X.w) X.A (f (.int i t)) Q E s) :
  UnR X f (rU fun i=>.int (g i)):=by
 intro pins s σ H x v Q I rx h
 obtain ⟨i,rfl,q⟩:=h
 obtain ⟨t,rfl⟩:=rx
 exact rule i t s _ _ ⟨.int (g i),H,I.tok _,⟨_,rfl⟩,q⟩
theorem V8:UnR X (unaryOp .USub) (rU fun i=>.int (-i)):=unI fun _ _ _ _ _ q=>neg_int q
end
def gw:V->V->Bool
 | .non,.non=>true | .non,.int _=>true | .int _,.non=>true | .non,.bl _=>true | .bl _,.non=>true | .non,.str _=>true | .str _,.non=>true
 | .int _,.int _=>true | .bl _,.bl _=>true | .str _,.str _=>true | .byt _,.byt _=>true
 | .int _,.str _=>true | .str _,.int _=>true | .bl _,.str _=>true | .str _,.bl _=>true
 | _,_=>false
def rEq:R2:=fun x y H Q=>gw x y=true/\Q (.bl (decide (x=y))) H
def rNe:R2:=fun x y H Q=>gw x y=true/\Q (.bl (!decide (x=y))) H
theorem kj {i j:Int}:decide (V.int i=V.int j)=(i == j):=by
 rw [Bool.eq_iff_iff]
 simp
theorem oh {i j:Bool}:decide (V.bl i=V.bl j)=(i == j):=by
 rw [Bool.eq_iff_iff]
 simp
theorem kh {i j:Str}:decide (V.str i=V.str j)=(i == j):=by
 rw [Bool.eq_iff_iff]
 simp
theorem kl {i j:Array UInt8}:decide (V.byt i=V.byt j)=(i.toList == j.toList):=by
 rw [Bool.eq_iff_iff]
 cases i
 cases j
 simp
section
variable {X:Cx} {a b c:Expr} {ta tb tc:TE} {pos:Pos}
theorem k4 {pins:List (Addr×Obj)} {σ:St} {H:Hp} {s:Shared} {Q:VK} {k k':Bool} (I:Inv X pins σ H s) (q:Q (.bl k) H) (e:k=k'):EP X pins σ Q (.bool k') s:=by
 subst e
 exact ⟨.bl k,H,I,rfl,q⟩
theorem M9:OpR X (compareOp .Eq) rEq:=by
 intro pins s σ H x y v u Q I rx ry h
 obtain ⟨hs,q⟩:=h
 cases x with
 | non=>
  cases rx
  cases y with
  | non=>cases ry; exact PySem.EqNone.eq_none_none (k4 I q (by simp))
  | bl j=>cases ry; exact PySem.EqNone.eq_none_bool (k4 I q (by simp))
  | int j=>obtain ⟨t',rfl⟩:=ry; exact PySem.EqNone.eq_none_int (k4 I q (by simp))
  | str j=>obtain ⟨t',rfl⟩:=ry; exact PySem.EqNone.eq_none_str (k4 I q (by simp))
  | _=>exact absurd (show false=true from hs) Bool.false_ne_true
 | bl i=>
  cases rx
  cases y with
  | non=>cases ry; exact PySem.EqNone.eq_bool_none (k4 I q (by simp))
  | bl j=>cases ry; exact eq_bool (k4 I q oh)
  | str j=>obtain ⟨t',rfl⟩:=ry; exact PySem.EqMixed.eq_bool_str (k4 I q (by simp))
  | _=>exact absurd (show false=true from hs) Bool.false_ne_true
 | int i=>
  obtain ⟨t,rfl⟩:=rx
  cases y with
  | non=>cases ry; exact PySem.EqNone.eq_int_none (k4 I q (by simp))
  | int j=>obtain ⟨t',rfl⟩:=ry; exact eq_int (k4 I q kj)
  | str j=>obtain ⟨t',rfl⟩:=ry; exact PySem.EqMixed.eq_int_str (k4 I q (by simp))
  | _=>exact absurd (show false=true from hs) Bool.false_ne_true
 | str i=>
  obtain ⟨t,rfl⟩:=rx
  cases y with
  | non=>cases ry; exact PySem.EqNone.eq_str_none (k4 I q (by simp))
  | bl j=>cases ry; exact PySem.EqMixed.eq_str_bool (k4 I q (by simp))
  | int j=>obtain ⟨t',rfl⟩:=ry; exact PySem.EqMixed.eq_str_int (k4 I q (by simp))
  | str j=>obtain ⟨t',rfl⟩:=ry; exact eq_str (k4 I q kh)
  | _=>exact absurd (show false=true from hs) Bool.false_ne_true
 | byt i=>
  obtain ⟨t,rfl⟩:=rx
  cases y with
  | byt j=>obtain ⟨t',rfl⟩:=ry; exact PySem.W.eq_bytes (k4 I q kl)
  | _=>exact absurd (show false=true from hs) Bool.false_ne_true
 | _=>cases y <;> exact absurd (show false=true from hs) Bool.false_ne_true
theorem bQ:OpR X (compareOp .NotEq) rNe:=by
 intro pins s σ H x y v u Q I rx ry h
 obtain ⟨hs,q⟩:=h
 cases x with
 | non=>
  cases rx
  cases y with
  | non=>cases ry; exact PySem.EqNone.ne_none_none (k4 I q (by simp))
  | bl j=>cases ry; exact PySem.EqNone.ne_none_bool (k4 I q (by simp))
  | int j=>obtain ⟨t',rfl⟩:=ry; exact PySem.EqNone.ne_none_int (k4 I q (by simp))
  | str j=>obtain ⟨t',rfl⟩:=ry; exact PySem.EqNone.ne_none_str (k4 I q (by simp))
  | _=>exact absurd (show false=true from hs) Bool.false_ne_true
 | bl i=>
  cases rx
  cases y with
  | non=>cases ry; exact PySem.EqNone.ne_bool_none (k4 I q (by simp))
  | bl j=>cases ry; exact ne_bool (k4 I q (congrArg not oh))
  | str j=>obtain ⟨t',rfl⟩:=ry; exact PySem.EqMixed.ne_bool_str (k4 I q (by simp))
  | _=>exact absurd (show false=true from hs) Bool.false_ne_true
 | int i=>
  obtain ⟨t,rfl⟩:=rx
  cases y with
  | non=>cases ry; exact PySem.EqNone.ne_int_none (k4 I q (by simp))
  | int j=>obtain ⟨t',rfl⟩:=ry; exact ne_int (k4 I q (congrArg not kj))
  | str j=>obtain ⟨t',rfl⟩:=ry; exact PySem.EqMixed.ne_int_str (k4 I q (by simp))
  | _=>exact absurd (show false=true from hs) Bool.false_ne_true
 | str i=>
  obtain ⟨t,rfl⟩:=rx
  cases y with
  | non=>cases ry; exact PySem.EqNone.ne_str_none (k4 I q (by simp))
  | bl j=>cases ry; exact PySem.EqMixed.ne_str_bool (k4 I q (by simp))
  | int j=>obtain ⟨t',rfl⟩:=ry; exact PySem.EqMixed.ne_str_int (k4 I q (by simp))
  | str j=>obtain ⟨t',rfl⟩:=ry; exact ne_str (k4 I q (congrArg not kh))
  | _=>exact absurd (show false=true from hs) Bool.false_ne_true
 | byt i=>
  obtain ⟨t,rfl⟩:=rx
  cases y with
  | byt j=>obtain ⟨t',rfl⟩:=ry; exact PySem.W.ne_bytes (k4 I q (congrArg not kl))
  | _=>exact absurd (show false=true from hs) Bool.false_ne_true
 | _=>cases y <;> exact absurd (show false=true from hs) Bool.false_ne_true
theorem bR:OpR X (compareOp .Lt) (rI0 fun i j=>.bl (decide (i<j))):=kM fun _ _ _ _ _ _ _ q=>lt_int q
theorem BG:OpR X (compareOp .LtE) (rI0 fun i j=>.bl (decide (i<=j))):=kM fun _ _ _ _ _ _ _ q=>le_int q
theorem P3:OpR X (compareOp .Gt) (rI0 fun i j=>.bl (decide (j<i))):=kM fun _ _ _ _ _ _ _ q=>gt_int q
theorem sk:OpR X (compareOp .GtE) (rI0 fun i j=>.bl (decide (j<=i))):=kM fun _ _ _ _ _ _ _ q=>ge_int q
theorem gK:OpR X (compareOp .Is) (fun x y H Q=>y=.non/\Q (.bl (decide (x=.non))) H):=by
 intro pins s σ H x y v u Q I rx ry h
 obtain ⟨rfl,q⟩:=h
 cases ry
 refine is_none_gen (k4 I q ?_)
 cases x <;> first
  | (cases rx; rfl)
  | (obtain ⟨t,rfl⟩:=rx; rfl)
theorem W8:OpR X (compareOp .IsNot) (fun x y H Q=>y=.non/\Q (.bl (!decide (x=.non))) H):=by
 intro pins s σ H x y v u Q I rx ry h
 obtain ⟨rfl,q⟩:=h
 cases ry
 refine isnot_none_gen (k4 I q ?_)
 cases x <;> first
  | (cases rx; rfl)
  | (obtain ⟨t,rfl⟩:=rx; rfl)
theorem hV (b:Expr) {op:CmpOp} (h:op≠.In:=by decide) (h2:op≠.NotIn:=by decide):behindInMarks op b=false:=by
 have e1:(op == CmpOp.In)=false:=by cases op <;> first | rfl | exact absurd rfl h
 have e2:(op == CmpOp.NotIn)=false:=by cases op <;> first | rfl | exact absurd rfl h2
 cases b <;> simp [behindInMarks,e1,e2]
theorem ux {op:CmpOp} {r:R2} (ho:OpR X (compareOp op) r) (ha:PE X a ta) (hb:PE X b tb) (hm:behindInMarks op b=false):PE X (.Compare a [op] [b] pos) (tOp r ta tb):=by
 intro pins s σ H Q I h
 exact wpAny_Compare1 (rF ha hb I h fun v u s2 x y H2 I2 rx ry q=>ho pins s2 σ H2 x y v u Q I2 rx ry q) hm
def rO (t:TE):TT:=fun σ H Q=>t σ H fun x H'=>∃ k,x=.bl k/\Q k H'
theorem ui {op:CmpOp} {r:R2} (ho:OpR X (compareOp op) r) (ha:PE X a ta) (hb:PE X b tb) (hm:behindInMarks op b=false):PT X (.Compare a [op] [b] pos) (rO (tOp r ta tb)):=by
 intro pins s σ H Q I h
 refine wpAny_isTrue_Compare1 (thn (ha pins s σ H _ I h) fun v s1 ⟨x,H1,I1,r1,q1⟩=>thn (hb pins s1 σ H1 _ I1 q1) fun u s2 ⟨y,H2,I2,r2,q2⟩=>
  thn (ho pins s2 σ H2 x y v u _ I2 r1 r2 q2) fun c s3 ⟨z,H3,I3,r3,k,e,q3⟩=>?_) hm
 subst e
 cases r3
 exact wpAny_truthy_bool ⟨H3,I3,q3⟩
def wI (r r':R2) (ta tb tc:TE):TE:=fun σ H Q=>ta σ H fun x H1=>tb σ H1 fun y H2=>r x y H2 fun z H3=>∃ k,z=.bl k /\
 (if k=true then tc σ H3 fun w' H4=>r' y w' H4 Q else Q (.bl false) H3)
theorem qd {op op':CmpOp} {r r':R2} (ho:OpR X (compareOp op) r) (ho':OpR X (compareOp op') r') (ha:PE X a ta) (hb:PE X b tb) (hc:PE X c tc)
  (hm:lastMarks [op,op'] [b,c]=false:=by with_unfolding_all rfl):PE X (.Compare a [op,op'] [b,c] pos) (wI r r' ta tb tc):=by
 intro pins s σ H Q I h
 refine Compare_chain (thn (ha pins s σ H _ I h) fun v s1 ⟨x,H1,I1,r1,q1⟩=>chain_link (thn (hb pins s1 σ H1 _ I1 q1) fun u s2 ⟨y,H2,I2,r2,q2⟩=>
  thn (ho pins s2 σ H2 x y v u _ I2 r1 r2 q2) fun d s3 ⟨z,H3,I3,r3,k,e,q3⟩=>?_)) hm
 subst e
 cases r3
 refine wpAny_truthy_bool ?_
 cases k with
 | false=>exact ite_ff ⟨.bl false,H3,I3,rfl,q3⟩
 | true=>exact ite_tt (chain_last (thn (hc pins s3 σ H3 _ I3 q3) fun w' s4 zz36=>by obtain ⟨z',H4,I4,r4,q4⟩:=zz36; exact ho' pins s4 σ H4 y z' u w' Q I4 r2 r4 q4))
theorem X5:(sizeLine:Nat)<2^63:=by rw [sizeLine_eq]; decide
theorem vals1 {x:V} {us:List Value} (r:Vals [x] us):∃ u,us = [u]/\RelV x u:=by
 cases r with
 | cons r1 r2=>cases r2; exact ⟨_,rfl,r1⟩
theorem vals2 {x y:V} {us:List Value} (r:Vals [x,y] us):∃ u w',us = [u,w']/\RelV x u/\RelV y w':=by
 cases r with
 | cons r1 r2=>
  cases r2 with
  | cons r3 r4=>cases r4; exact ⟨_,_,rfl,r1,r3⟩
theorem fN (hc:X.calm=true):E2 X (.builtin "max") (fun xs H Q=>∃ i j,xs = [.int i,.int j]/\Q (.int (if j>i then j else i)) H):=by
 intro pins s σ H xs us Q I r h
 obtain ⟨i,j,rfl,q⟩:=h
 obtain ⟨u,w',rfl,⟨t,rfl⟩,⟨t',rfl⟩⟩:=vals2 r
 refine max_two_ints (I.ok.hd hc) fun h' tk k=>⟨_,H,I.kept k,?_,q⟩
 by_cases hj:j>i
 ·rw [if_pos hj,if_pos hj]; exact ⟨_,rfl⟩
 ·rw [if_neg hj,if_neg hj]; exact ⟨_,rfl⟩
end
end L2
namespace L2
open PySem PySem.Spec PyProof.Rows
structure ObjM (h:Heap) (x dx C:Addr) (mA:Str->Option Value):Prop where
 obj:h.get? x=some (PySem.W.instObj C dx)
 ns:h.Ns1 dx mA
 ne:dx≠x
theorem nG {h:Heap} {dx:Addr} {mA:Str->Option Value} (n:h.Ns1 dx mA):∃ od,h.get? dx=some od/\∀ name,PySem.W.lookIn name od=some (mA name):=by
 obtain ⟨o,es,ep,ho,hd,hk,_,hm⟩:=n
 refine ⟨o,ho,fun name=>?_⟩
 have e:=hm name
 unfold nsFind findBy at e
 rw [<- Array.find?_toList] at e
 unfold PySem.W.lookIn
 rw [hd]
 dsimp only
 split
 ·rename_i y q
  rw [q] at e
  exact congrArg some e
 ·rename_i q
  rw [q] at e
  have a:es.toList.any (·.refKey)=false:=by
   rw [List.any_eq_false]
   intro y hy
   obtain ⟨z,t,hkey⟩:=hk y (Array.mem_toList_iff.mp hy)
   simp [DictEntry.refKey,hkey]
  have a':¬ es.toList.any (·.refKey)=true:=by rw [a]; exact Bool.false_ne_true
  rw [if_neg a']
  exact congrArg some e
theorem ObjM.look {h:Heap} {x dx C:Addr} {mA:Str->Option Value} (I:ObjM h x dx C mA):∃ od,PySem.W.InstAt h x (PySem.W.instObj C dx) C (some od)/\∀ name,PySem.W.lookIn name od=some (mA name):=
 let ⟨od,ho,hl⟩:=nG I.ns
 ⟨od,⟨I.obj,rfl,rfl,ho⟩,hl⟩
section
variable {prog:Program} {w:World} {A:Around} {E:Value->Shared->Prop} {s:Shared} {K:Frag} {x dx C f:Addr} {mA:Str->Option Value} {name:Str} {v:Value}
end
section
variable {P:Program} {w:World} {H H':Hp} {h h':Heap} {a C dx:Addr} {fs fs':List (Str×V)}
theorem vm (hok:HOk P w H h) (e:H a=some (.ins C dx fs)):∃ mA,ObjM h a dx C mA/\(∀ f,RelO (fs.lookup f) (mA f))/\PySem.Within mA (fs.map (·.1))/\fs.length<=1000/\H dx=some (.own a):=by
 obtain ⟨d,z,ne,ob,mA,n,r,q⟩:=(show ObjOk P w H h a (.ins C dx fs) from hok a _ e)
 exact ⟨mA,⟨ob,n,ne⟩,r,q,z,d⟩
end
structure Cls (K:Frag) (C:Addr):Prop where
 pg:PySem.W.plainGet K C Str.empty=true
 hd:PySem.W.hasDictIn K C=true
 po:PySem.W.plainOver K C=true
 sa:PySem.W.findIn K (.ref C) "__setattr__" = some (some (.builtin "object.__setattr__"))
theorem Cls.get {K:Frag} {C:Addr} (c:Cls K C) (f:Str):PySem.W.plainGet K C f=true:=c.pg
section
variable {X:Cx} {pins:List (Addr×Obj)} {σ:St} {H:Hp} {s:Shared} {a C dx:Addr} {fs:List (Str×V)} {f:Str} {v:V} {A:Around} {E:Value->Shared->Prop}
end
section
variable {X:Cx} {o e value:Expr} {f:Str} {pos pos' tpos:Pos} {ta tv:TE}
end
section
variable {X:Cx} {pins:List (Addr×Obj)} {σ:St} {H:Hp} {s:Shared} {A:Around} {E:Value->Shared->Prop} {Q:Value->Shared->Prop} {c:Value} {b:Bool}
inductive M5 (K:Frag) (H:Hp):V->Value->Prop where
 | non:M5 K H .non (.type "NoneType")
 | bl (x:Bool):M5 K H (.bl x) (.type "bool")
 | int (i:Int):M5 K H (.int i) (.type "int")
 | str (x:Str):M5 K H (.str x) (.type "str")
 | flt (x:UInt64):M5 K H (.flt x) (.type "float")
 | lst {a:Addr} {xs:List V} (e:H a=some (.lst xs)):M5 K H (.ref a) (.type "list")
 | frz {a:Addr} {o:Obj} {xs:List V} (e:H a=some (.frz o (.lst xs))):M5 K H (.ref a) (.type "list")
 | tup {a:Addr} {xs:List V} (e:H a=some (.tup xs)):M5 K H (.ref a) (.type "tuple")
 | dK {a:Addr} {kvs:List (Key×V)} (e:H a=some (.dK kvs)):M5 K H (.ref a) (.type "dict")
 | dT {a:Addr} {kvs:List (List Key×V)} (e:H a=some (.dT kvs)):M5 K H (.ref a) (.type "dict")
 | ins {a C dx:Addr} {fs:List (Str×V)} (e:H a=some (.ins C dx fs)) (cl:Cls K C) (ha:PySem.W.findIn K (.ref C) "__class__" = some (some (.builtin "object.__class__")))
   (hn:PySem.W.specialIn K (.builtin "object.__class__") "__get__" = some (some (.builtin "getset_descriptor.__get__"))) (htk:PySem.W.takesIn K (.builtin "object.__class__")=some true)
   (hm:PySem.W.mroIn K C (.type "object")=some true):M5 K H (.ref a) (.ref C)
theorem nO {x:V} {u t:Value} (I:Inv X pins σ H s) (rx:RelV x u) (ty:M5 X.K H x t) (e:PySem.W.kitOne X.K t c=some b) (h:∀ tk,Q (.bool b) { s with toks:=tk }) :
  wpAny (model X.prog X.w) A (call (.builtin "isinstance") [u,c]) Q E s:=by
 cases ty with
 | non=>cases (show u=Value.none from rx); exact PySem.W.kia_one PySem.W.kitx_none I.kIn True.intro e (fun z=>nomatch z) h
 | bl y=>cases (show u=Value.bool y from rx); exact PySem.W.kia_one PySem.W.kitx_bool I.kIn True.intro e (fun z=>nomatch z) h
 | int i=>obtain ⟨t,q⟩:=(show ∃ t,u=Value.int i t from rx); cases q; exact PySem.W.kia_one PySem.W.kitx_int I.kIn True.intro e (fun z=>nomatch z) h
 | str y=>obtain ⟨t,q⟩:=(show ∃ t,u=Value.str y t from rx); cases q; exact PySem.W.kia_one PySem.W.kitx_str I.kIn True.intro e (fun z=>nomatch z) h
 | flt y=>obtain ⟨t,q⟩:=(show ∃ t,u=Value.float y t from rx); cases q; exact PySem.W.kia_one PySem.W.kitx_float I.kIn True.intro e (fun z=>nomatch z) h
 | @lst a xs ea=>
  cases (show u=Value.ref a from rx)
  obtain ⟨_,_,n,_,h1⟩:=(show ObjOk X.prog X.w H s.heap a (.lst xs) from I.hok a _ ea)
  exact PySem.W.kia_one PySem.W.kitx_list I.kIn ⟨_,h1,rfl⟩ e (fun z=>nomatch z) h
 | @frz a ob xs ea=>
  cases (show u=Value.ref a from rx)
  obtain ⟨_,_,_,n,_,h1⟩:=(show ObjOk X.prog X.w H s.heap a (.frz ob (.lst xs)) from I.hok a _ ea)
  exact PySem.W.kia_one PySem.W.kitx_list I.kIn ⟨_,h1,rfl⟩ e (fun z=>nomatch z) h
 | @tup a xs ea=>
  cases (show u=Value.ref a from rx)
  obtain ⟨_,_,_,p⟩:=(show ObjOk X.prog X.w H s.heap a (.tup xs) from I.hok a _ ea)
  obtain ⟨o,h1,h2,_⟩:=p
  exact PySem.W.kia_one PySem.W.kitx_tuple I.kIn ⟨o,h1,h2⟩ e (fun z=>nomatch z) h
 | @dK a kvs ea=>
  cases (show u=Value.ref a from rx)
  obtain ⟨_,_,vs,_,p⟩:=(show ObjOk X.prog X.w H s.heap a (.dK kvs) from I.hok a _ ea)
  obtain ⟨o,es,ep,h1,h2,_⟩:=p
  exact PySem.W.kia_one PySem.W.kitx_dict I.kIn ⟨o,h1,h2.1⟩ e (fun z=>nomatch z) h
 | @dT a kvs ea=>
  cases (show u=Value.ref a from rx)
  obtain ⟨_,_,xs,_,o,es,ep,h1,h2,_⟩:=(show ObjOk X.prog X.w H s.heap a (.dT kvs) from I.hok a _ ea)
  exact PySem.W.kia_one PySem.W.kitx_dict I.kIn ⟨o,h1,h2.1⟩ e (fun z=>nomatch z) h
 | @ins a C dx fs ea cl ha hn htk hm=>
  cases (show u=Value.ref a from rx)
  obtain ⟨mA,O,_⟩:=vm I.hok ea
  obtain ⟨od,J,_⟩:=O.look
  exact PySem.W.kia_one (PySem.W.kitx_own (cl.get _) cl.hd ha hn htk hm) I.kIn J e (fun z=>nomatch z) h
end
end L2
namespace L2
open PySem PySem.Spec PyProof.Rows
structure Room (k:Nat) (A:Around):Prop where
 hd:A.handled=none
 dp:A.depth+3*k+5<recursionLimit
 un:A.units+16*k+200<cLine
theorem Room.mono {j k:Nat} {A:Around} (r:Room k A) (h:j<=k):Room j A:=⟨r.hd,by have:=r.dp; omega,by have:=r.un; omega⟩
theorem Room.deeper {k:Nat} {A:Around} (r:Room (k+1) A) (env:Env):Room k (A.deeper env):=
 ⟨r.hd,by have:=r.dp; show A.depth+1+3*k+5<_; omega,by have:=r.un; show A.units+3+16*k+200<_; omega⟩
theorem Room.in1 {k:Nat} {A:Around} (r:Room (k+1) A):Room k A.in1:=
 ⟨r.hd,by have:=r.dp; show A.depth+3*k+5<_; omega,by have:=r.un; show A.units+1+16*k+200<_; omega⟩
theorem Room.depth {k:Nat} {A:Around} (r:Room k A):A.depth<recursionLimit:=by have:=r.dp; omega
theorem Room.units {k:Nat} {A:Around} (r:Room k A):A.units+64<cLine:=by have:=r.un; omega
def tNil:TA:=fun _ H Q=>Q [] H
def rT (ta:TE) (tr:TA):TA:=fun σ H Q=>ta σ H fun x H1=>tr σ H1 fun xs H2=>Q (x::xs) H2
section
variable {X:Cx} {e:Expr} {es:List Expr} {te:TE} {t:TA} {pos:Pos}
theorem pa_nil:PA X [] tNil:=fun _ _ _ _ H Q I h=>Calls.spliced_nil ⟨[],H,I,.nil,h⟩
theorem jI (ha:PE X e te) (hr:PA X es t) (hs:starEach (e::es) X.env=(false,eval e X.env)::starEach es X.env:=by rfl):PA X (e::es) (rT te t):=by
 intro pos pins s σ H Q I h
 rw [hs]
 show wpAny _ _ (spliced ((false,eval e X.env)::backTo pos (starEach es X.env))) _ _ s
 refine Calls.spliced_cons (thn (ha pins s σ H _ I h) fun u s1 zz37=>?_)
 obtain ⟨x,H1,I1,r1,q1⟩:=zz37
 exact thn (hr pos pins s1 σ H1 _ I1 q1) fun us s2 zz38=>by obtain ⟨xs,H2,I2,r2,q2⟩:=zz38; exact ⟨x::xs,H2,I2,.cons r1 r2,q2⟩
def pf (t:TA):TE:=fun σ H Q=>t σ H fun xs H1=>xs.length<=sizeLine/\∀ p,H1 p=none->Q (.ref p) (upd H1 p (.tup xs))
def wE (t:TA):TE:=fun σ H Q=>t σ H fun xs H1=>xs.length<=sizeLine/\∀ p,H1 p=none->Q (.ref p) (upd H1 p (.lst xs))
theorem mV {x1} (h:PA X es t):PE X (.Tuple es x1 pos) (pf t):=by
 intro pins s σ H Q I hq
 refine wpAny_Tuple_spliced (thn (h pos pins s σ H _ I hq) fun us s1 ⟨xs,H1,I1,r,z,q⟩=>⟨by rw [<- r.length]; exact z,?_⟩)
 have hf:H1 s1.heap.objs.size=none:=I1.hok.fresh (Nat.le_refl _)
 refine ⟨.ref s1.heap.objs.size,upd H1 s1.heap.objs.size (.tup xs),I1.laid (t':=s1.toks) (fun b u e=>Heap.get?_push_of_some _ e) (Nat.le_refl _) ?_,rfl,q _ hf⟩
 exact ⟨z,us,r,⟨_,Heap.get?_push_size _ rfl,rfl,_,rfl⟩⟩
theorem yo (h:PA X es t):PE X (.List es pos) (wE t):=by
 intro pins s σ H Q I hq
 refine wpAny_List_spliced (thn (h pos pins s σ H _ I hq) fun us s1 ⟨xs,H1,I1,r,z,q⟩=>⟨by rw [<- r.length]; exact z,?_⟩)
 have hf:H1 s1.heap.objs.size=none:=I1.hok.fresh (Nat.le_refl _)
 refine ⟨.ref s1.heap.objs.size,upd H1 s1.heap.objs.size (.lst xs),I1.laid (t':=s1.toks) (fun b u e=>Heap.get?_push_of_some _ e) (Nat.le_refl _) ?_,rfl,q _ hf⟩
 exact ⟨z,us,0,r,Heap.get?_push_size _ rfl⟩
end
abbrev Sp:=List V->Hp->VK->XK->Prop
abbrev CXT:=List Env->Hp->Shared->XK->Value->Shared->Prop
structure lH (P:Program) (w:World) (K:Frag) (mg:Str->Option Value) (base:Heap) (A:Around) (outer:List Env) (s:Shared) (H:Hp):Prop where
 frames:A.frames=some outer
 mod:Mod K mg base
 bs:∀ b o,base.get? b=some o->s.heap.get? b=some o/\H b=none
 bsz:base.objs.size<=s.heap.objs.size
 funs:s.heap.FunFrames base outer
 frf:∀ b∈frs outer,H b=none
 hok:HOk P w H s.heap
 bare:AllBare s.gens
 tab:∀ p∈lamT,H p.1=some (.tbl p.2)
def CE (outer:List Env) (P:Program) (w:World) (H:Hp) (s:Shared) (Q:VK) (u:Value) (s':Shared):Prop:=
 ∃ v H',s'.os=s.os/\AllBare s'.gens/\Un (frs outer) [] H H' s.heap s'.heap/\HOk P w H' s'.heap/\RelV v u/\Q v H'
def CR (CX:CXT) (outer:List Env) (P:Program) (w:World) (H:Hp) (s:Shared) (Q:VK) (E:XK) (r:Result) (s':Shared):Prop:=
 match r with
 | .ok (.ret u)=>CE outer P w H s Q u s'
 | .ok _=>False
 | .error e=>CX outer H s E e s'
structure FnOk (P:Program) (w:World) (K:Frag) (mg:Str->Option Value) (base:Heap) (CX:CXT) (k:Nat) (f:Addr) (fd:FuncData) (ps:List Str) (sp:Sp):Prop where
 len:∀ vs H Q E,sp vs H Q E->vs.length=ps.length
 run:∀ (A:Around) (outer:List Env) (s:Shared) (H:Hp) (args:Args) (us:List Value) (vs:List V) (Q:VK) (E:XK),Room k A->lH P w K mg base A outer s H->BindsTo s fd args (ps.zip us)->Vals vs us->sp vs H Q E ->
  codeAny (model P w) A (.call (.ref f) args) (CR CX outer P w H s Q E) s
theorem FnOk.imp {P:Program} {w:World} {K:Frag} {mg:Str->Option Value} {base:Heap} {CX:CXT} {k:Nat} {f:Addr} {fd:FuncData} {ps:List Str} {sp sp':Sp} (F:FnOk P w K mg base CX k f fd ps sp)
  (h:∀ vs H Q E,sp' vs H Q E->sp vs H Q E):FnOk P w K mg base CX k f fd ps sp':=
 ⟨fun vs H Q E q=>F.len vs H Q E (h _ _ _ _ q),fun A outer s H args us vs Q E hr he hb hv hs=>F.run A outer s H args us vs Q E hr he hb hv (h _ _ _ _ hs)⟩
section
variable {X:Cx} {pins:List (Addr×Obj)} {σ:St} {H:Hp} {s s':Shared}
theorem Inv.env0 (I:Inv X pins σ H s):lH X.prog X.w X.K X.mg X.base X.A X.stack s H:=
 ⟨I.ok.frames,I.ok.mod,I.bs,Nat.le_trans I.ok.bsz I.sz,I.stack,I.stkFree,I.hok,I.bare,I.tab⟩
theorem Inv.after {Q:VK} {u:Value} (I:Inv X pins σ H s) (h:CE X.stack X.prog X.w H s Q u s'):EP X pins σ Q u s':=by
 obtain ⟨v,H',os,bare,un,hok,r,q⟩:=h
 obtain ⟨hh,g,d,t,os'⟩:=s'
 obtain rfl:os'=s.os:=os
 exact ⟨v,H',I.call (h':=hh) (g':=g) (d':=d) (t':=t) (ch:=[]) un hok bare (fun b z=>absurd z (by simp)),r,q⟩
end
def rV (sp:Sp) (dvs:List V) (E:XK) (t:TA):TE:=fun σ H Q=>t σ H fun vs H1=>sp (vs++dvs) H1 Q E
def Binds (K:Frag) (fd:FuncData) (ps:List Str) (ds:List Value):Prop:=
 ∀ (s:Shared) (us:List Value),K.In s.heap->(us++ds).length=ps.length->BindsTo s fd ⟨us,[]⟩ (ps.zip (us++ds))
theorem Binds.all {K:Frag} {fd:FuncData} {ps:List Str} (h:∀ us:List Value,us.length=ps.length->bindArgs fd ⟨us,[]⟩=pure (ps.zip us)):Binds K fd ps []:=fun s us _ hl=>by
 rw [List.append_nil] at hl ⊢
 exact .of_eq (h us hl)
def jc (CX:CXT) (X:Cx) (E:XK):Prop:=∀ (pins:List (Addr×Obj)) (σ:St) (H:Hp) (s:Shared) (e:Value) (s':Shared),Inv X pins σ H s->CX X.stack H s E e s'->X.xe e s'
section
variable {X:Cx} {CX:CXT} {k:Nat} {f C:Addr} {fd:FuncData} {ps:List Str} {sp:Sp} {dvs:List V} {ds:List Value} {E:XK} {x m:Str} {p pos apos:Pos} {e o:Expr} {es:List Expr} {ta:TE} {t:TA}
theorem xf {pins:List (Addr×Obj)} {σ:St} {H:Hp} {s:Shared} {Q:VK} {us:List Value} {vs:List V} (F:FnOk X.prog X.w X.K X.mg X.base CX k f fd ps sp) (hr:Room k X.A) (hb:Binds X.K fd ps ds) (hd:Vals dvs ds) (hx:jc CX X E)
  (I:Inv X pins σ H s) (r:Vals vs us) (h:sp (vs++dvs) H Q E):wpAny (model X.prog X.w) X.A (call (.ref f) us) (EP X pins σ Q) X.xe s:=by
 have r2:Vals (vs++dvs) (us++ds):=r.append hd
 have hl:(us++ds).length=ps.length:=by rw [<- r2.length]; exact F.len _ _ _ _ h
 refine wpAny_call (codeAny_mono (F.run X.A X.stack s H ⟨us,[]⟩ (us++ds) (vs++dvs) Q E hr I.env0 (hb s us I.kIn hl) r2 h) fun r s' hq=>?_)
 cases r with
 | error e=>exact hx pins σ H s e s' I hq
 | ok fl=>
  cases fl with
  | ret u=>exact I.after hq
  | next=>exact False.elim hq
  | brk=>exact False.elim hq
  | cont=>exact False.elim hq
theorem uA (F:FnOk X.prog X.w X.K X.mg X.base CX k f fd ps sp) (hr:Room k X.A) (hg:Gl X x) (hm:X.mg x=some (.ref f)) (hk:PySem.W.keepIn X.K (.ref f)=true) (hb:Binds X.K fd ps ds) (hd:Vals dvs ds) (hx:jc CX X E)
  (ha:PA X (e::es) t) (hdb:(x == ("__debug__" : Str))=false:=by decide) (he:starEach (e::es) X.env=(false,eval e X.env)::starEach es X.env:=by rfl) (hpl:(backTo pos (starEach es X.env)).any (·.1)=false:=by rfl) :
  PE X (.Call (.Name x p) (e::es) [] pos) (rV sp dvs E t):=by
 intro pins s σ H Q I h
 refine wpAny_Call_Name_kw (ve I hg hm ?_ hdb)
 refine PySem.W.callWith_K (h₀:=X.base) I.ok.mod.kin hk (thn (ha pos pins s σ H _ I h) fun us s1 ⟨vs,H1,I1,r,q⟩=>⟨I1.kIn,?_⟩) he hpl
 exact xf F hr hb hd hx I1 r q
structure Mk (K:Frag) (C f:Addr):Prop where
 makes:PySem.W.makesIn K C=true
 init:PySem.W.findIn K (.ref C) "__init__" = some (some (.ref f))
 fn:PySem.W.isFn K (.ref f)=true
 kp:PySem.W.keepIn K (.ref C)=true
end
section
variable {X:Cx} {CX:CXT} {k:Nat} {f C:Addr} {fd:FuncData} {ps ks:List Str} {sp:Sp} {E:XK} {x m:Str} {p pos apos kpos:Pos} {e o:Expr} {es:List Expr} {kws:List Keyword} {te ta:TE} {t tk:TA} {nm:Option Str}
variable {g:List Value->List Value->List Value} {gV:List V->List V->List V}
end
structure f9 (N P:List Str) (sc:Scope):Prop where
 kind:sc.kind=.function
 co:sc.isCoroutine=false
 gen:sc.isGenerator=false
 nd:N.Nodup
 pre:N.take P.length=P
 par:∀ x∈P,sc.names.lookup x=some .local\/sc.names.lookup x=some .cell
 nofree:∀ y∈sc.names,y.2≠.free
theorem oE {kindOf:Str->Option NameKind} {x:Str}:∀ {binds:List (Str×Value)} {m:Str->Option Value},(∀ v,(x,v)∉binds)->bindL kindOf binds m x=m x:=by
 intro binds
 induction binds with
 | nil=>intro m _; rfl
 | cons p r ih=>
  intro m h
  unfold bindL
  rw [ih fun w hw=>h w (List.mem_cons_of_mem _ hw)]
  split
  ·have:x≠p.1:=by rintro rfl; exact h p.2 List.mem_cons_self
   simp [this]
  ·rfl
theorem oG {kindOf:Str->Option NameKind} {x:Str}:∀ {binds:List (Str×Value)} {m:Str->Option Value},(∀ v,(x,v)∉binds)->bindC kindOf binds m x=m x:=by
 intro binds
 induction binds with
 | nil=>intro m _; rfl
 | cons p r ih=>
  intro m h
  unfold bindC
  rw [ih fun w hw=>h w (List.mem_cons_of_mem _ hw)]
  split
  ·rfl
  ·have:x≠p.1:=by rintro rfl; exact h p.2 List.mem_cons_self
   simp [this]
theorem oF {kindOf:Str->Option NameKind} {x:Str} {v:Value}:∀ {P:List Str} {vs:List Value} {i:Nat} {m:Str->Option Value},P.Nodup->P[i]?=some x->vs[i]?=some v->kindOf x=some .local ->
  bindL kindOf (P.zip vs) m x=some v:=by
 intro P
 induction P with
 | nil=>intro vs i m _ h _ _; cases h
 | cons p P ih=>
  intro vs i m nd h1 h2 hk
  cases vs with
  | nil=>cases h2
  | cons w vs=>
   show bindL kindOf ((p,w)::P.zip vs) m x=_
   unfold bindL
   cases i with
   | zero=>
    cases h1
    cases h2
    rw [oE fun v hv=>(List.nodup_cons.mp nd).1 (List.of_mem_zip hv).1,if_pos hk]
    simp
   | succ i=>exact ih (List.nodup_cons.mp nd).2 h1 h2 hk
theorem oH {kindOf:Str->Option NameKind} {x:Str} {v:Value}:∀ {P:List Str} {vs:List Value} {i:Nat} {m:Str->Option Value},P.Nodup->P[i]?=some x->vs[i]?=some v->kindOf x≠some .local ->
  bindC kindOf (P.zip vs) m x=some v:=by
 intro P
 induction P with
 | nil=>intro vs i m _ h _ _; cases h
 | cons p P ih=>
  intro vs i m nd h1 h2 hk
  cases vs with
  | nil=>cases h2
  | cons w vs=>
   show bindC kindOf ((p,w)::P.zip vs) m x=_
   unfold bindC
   cases i with
   | zero=>
    cases h1
    cases h2
    rw [oG fun v hv=>(List.nodup_cons.mp nd).1 (List.of_mem_zip hv).1,if_neg hk]
    simp
   | succ i=>exact ih (List.nodup_cons.mp nd).2 h1 h2 hk
def start (N:List Str) (vs:List V):St:=vs.map some++List.replicate (N.length-vs.length) none
def ac (CX:CXT) (P:Program) (w:World) (K:Frag) (mg:Str->Option Value) (base:Heap) (N:List Str) (qual:Str) (scope:Scope) (f:Addr) (cd:Value) (A:Around) (outer:List Env) (s:Shared) (H:Hp) (E:XK):Cx where
 prog:=P
 w:=w
 K:=K
 mg:=mg
 base:=base
 A:=A.deeper (envOfC qual scope s.heap.objs.size f cd)
 N:=N
 s₀:=s
 H₀:=H
 env:=envOfC qual scope s.heap.objs.size f cd
 outer:=outer
 stack:=envOfC qual scope s.heap.objs.size f cd::outer
 ex:=[]
 calm:=true
 fn:=fun _=>true
 pn:=[]
 xe:=fun e s'=>wpAny (model P w) (A.deeper (envOfC qual scope s.heap.objs.size f cd)) (leaving (envOfC qual scope s.heap.objs.size f cd) e) (fun _ s''=>CX outer H s E e s'') (fun e' s''=>CX outer H s E e' s'') s'
theorem iL {sc:Scope} {n:Nat} {x:Str} (h:sc.names.lookup x=some .cell):∃ c,(cellsFrom n sc.names []).lookup x=some c:=by
 have q:=PySem.W.cellsFrom_some sc.names n [] (.inl h)
 exact Option.isSome_iff_exists.mp q
theorem nQ {CX:CXT} {P:Program} {w:World} {K:Frag} {mg:Str->Option Value} {base:Heap} {N ps:List Str} {qual:Str} {scope:Scope} {f:Addr} {cd:Value} {A:Around} {outer:List Env} {s s1:Shared} {H:Hp} {E:XK} {us:List Value} {vs:List V}
  (S:f9 N ps scope) (hd:A.handled=none) (e0:lH P w K mg base A outer s H) (hl:vs.length=ps.length) (r:Vals vs us)
  (x:InCallC s s.heap.objs.size (bindL (envOfC qual scope s.heap.objs.size f cd).kindOf (ps.zip us) fun _=>none) (cellsFrom (s.heap.objs.size+1) scope.names []) (bindC (envOfC qual scope s.heap.objs.size f cd).kindOf (ps.zip us) fun _=>none) s1) :
  Inv (ac CX P w K mg base N qual scope f cd A outer s H E) [] (start N vs) H s1:=by
 have hpl:ps.length<=N.length:=by have:=congrArg List.length S.pre; rw [List.length_take] at this; omega
 obtain ⟨h1,tk,rfl,hk⟩:=x.done
 have noA:∀ b:Addr,b∉(ac CX P w K mg base N qual scope f cd A outer s H E).ex:=fun b z=>absurd (show b∈([]:List Addr) from z) (by simp)
 refine ⟨⟨e0.mod,S.kind,rfl,rfl,Nat.le_refl _,fun y z c h1 h2=>?_,fun y hy=>?_,fun y c _ h=>?_,fun _=>hd,Around.frames_deeper e0.frames,.inr ⟨rfl,rfl⟩,fun b z=>absurd z (noA b),e0.bs,e0.bsz,fun b _ _=>noA b,fun b z=>absurd z (noA b),e0.funs,e0.frf,e0.tab⟩,
  rfl,e0.bare,Un.kept hk,⟨_,x.toInCall.ns,fun i y v h1 h2 h3=>?_⟩,fun y c h=>⟨_,x.cell y c h⟩,e0.hok.fresh (Nat.le_refl _),fun y c h=>?_,fun p hp=>absurd (show p∈([]:List (Addr×Obj)) from hp) (by simp),e0.hok.kept hk,?_⟩
 ·exact name_of_addr x.apart (PySem.mem_of_lookup h1) (PySem.mem_of_lookup h2)
 ·have hy:scope.names.lookup y=some .cell\/scope.names.lookup y=some .free:=hy
  rcases hy with hy | hy
  ·exact iL hy
  ·exact absurd rfl (S.nofree _ (PySem.mem_of_lookup hy))
 ·exact Nat.le_of_lt (x.above y c (PySem.mem_of_lookup h))
 ·have hi:i<vs.length:=by
   unfold start at h2
   by_cases hi:i<vs.length
   ·exact hi
   ·rw [List.getElem?_append_right (by simpa using hi)] at h2
    rw [List.getElem?_replicate] at h2
    split at h2 <;> cases h2
  have ha:vs[i]?=some v:=by
   unfold start at h2
   rw [List.getElem?_append_left (by simpa using hi),List.getElem?_map] at h2
   cases e:vs[i]? with
   | none=>rw [e] at h2; cases h2
   | some a=>rw [e] at h2; cases h2; rfl
  obtain ⟨u,hu,rv⟩:=r.get ha
  have hp:ps[i]?=some y:=by
   rw [<- S.pre,List.getElem?_take_of_lt (by omega)]; exact h1
  have ndP:ps.Nodup:=by rw [<- S.pre]; exact S.nd.sublist (List.take_sublist _ _)
  refine ⟨u,rv,?_⟩
  rcases S.par y (List.mem_of_getElem? hp) with k | k
  ·exact .inl ⟨k,oF ndP hp hu k⟩
  ·obtain ⟨c,e⟩:=iL (n:=s.heap.objs.size+1) k
   refine .inr ⟨.inl k,c,e,?_⟩
   have q:=x.cell y c e
   rw [oH ndP hp hu (by show scope.names.lookup y≠_; rw [k]; decide)] at q
   exact q
 ·exact e0.hok.fresh (Nat.le_of_lt (x.above y c (PySem.mem_of_lookup h)))
 ·unfold start
  show _=N.length
  rw [List.length_append,List.length_map,List.length_replicate]
  omega
theorem sC {CX:CXT} {P:Program} {w:World} {K:Frag} {mg:Str->Option Value} {base:Heap} {k:Nat} {f:Addr} {name qual:Str} {params:Arguments} {body:List Stmt} {scope:Scope} {dV kV doc pm cdv ct oc:Value} {an od:Option Addr}
  {osl:Array (Option Value)} {N ps:List Str} {sp:Sp} (lk:K.lookup f=some ⟨oc,od,.func (PySem.W.fnOf name qual params body scope dV kV doc pm an cdv ct),osl⟩) (hcd:PySem.W.codeIn K cdv qual=true) (S:f9 N ps scope)
  (len:∀ vs H Q E,sp vs H Q E->vs.length=ps.length)
  (hbody:∀ (A:Around) (outer:List Env) (s:Shared) (H:Hp) (vs:List V) (Q:VK) (E:XK),Room k (A.deeper (envOfC qual scope s.heap.objs.size f cdv))->sp vs H Q E ->
   ∃ t,PSs (ac CX P w K mg base N qual scope f cdv A outer s H E) body t/\t { nx:=fun _ H'=>Q .non H',rt:=Q } (start N vs) H) :
  FnOk P w K mg base CX (k+1) f (PySem.W.fnOf name qual params body scope dV kV doc pm an cdv ct) ps sp:=by
 refine ⟨len,fun A outer s H args us vs Q E hr e0 hb r hsp=>?_⟩
 have hl:=len _ _ _ _ hsp
 have KX:K.In s.heap:=e0.mod.kin.keeps fun b o e=>(e0.bs b o e).1
 have lim:s.heap.NoLimit:=e0.mod.nolimit.keeps fun b o e=>(e0.bs b o e).1
 have hkind:∀ y∈ps.zip us,scope.names.lookup y.1=some .local\/(scope.names.lookup y.1=some .cell/\((cellsFrom (s.heap.objs.size+1) scope.names []).lookup y.1).isSome=true):=fun zz42 hy=>by
  obtain ⟨n,v⟩:=zz42
  rcases S.par n (List.of_mem_zip hy).1 with q | q
  ·exact .inl q
  ·exact .inr ⟨q,PySem.W.cellsFrom_some _ _ _ (.inl q)⟩
 refine codeAny_call_function hr.depth (KX _ _ lk) rfl S.co S.gen rfl (PySem.W.codeRec_of KX hcd) (hb _ _ _ _ ?_)
 refine wpAny_newFunctionEnv_cells S.kind hkind fun env he s1 x=>?_
 subst he
 refine ⟨lim.keeps x.toInCall.keep,codeAny_func ?_⟩
 obtain ⟨t,ht,hq⟩:=hbody A outer s H vs Q E (hr.deeper _) hsp
 have I:Inv (ac CX P w K mg base N qual scope f cdv A outer s H E) [] (start N vs) H s1:=nQ S hr.hd e0 hl r x
 refine wpAny_mono (ht [] s1 (start N vs) H _ I hq) (fun fl s' hs=>?_) fun e s' hs=>hs
 have fin:∀ {σ':St} {H':Hp} {v:V} {u:Value},Inv (ac CX P w K mg base N qual scope f cdv A outer s H E) [] σ' H' s'->RelV v u->Q v H'->CE outer P w H s Q u s':=
  fun {σ' H' v u} J rv q=>⟨v,H',J.os,J.bare,J.base,J.hok,rv,q⟩
 cases fl with
 | ret u=>
  obtain ⟨v,σ',H',J,rv,q⟩:=hs
  exact fin J rv q
 | next=>
  obtain ⟨σ',H',J,q⟩:=hs
  exact fin (v:=V.non) (u:=Value.none) J rfl q
 | brk=>
  obtain ⟨_,_,_,q⟩:=hs
  exact False.elim q
 | cont=>
  obtain ⟨_,_,_,q⟩:=hs
  exact False.elim q
end L2
namespace L2
open PySem PySem.Spec PyProof.Rows
section
variable {X:Cx} {x:Str} {p pos:Pos} {e:Expr} {es:List Expr} {t:TA} {id T:String} {r:List V->Hp->VK->Prop}
def tCB (r:List V->Hp->VK->Prop) (t:TA):TE:=fun σ H Q=>t σ H fun vs H1=>r vs H1 Q
theorem qe (hc:E2 X (.builtin id) r) (hg:Gl X x) (hm:X.mg x=none) (hv:bootBuiltins x=some (.builtin id)) (ha:PA X (e::es) t) (hn:x ≠ "__name__" := by decide) (hdb:(x == ("__debug__" : Str))=false:=by decide)
  (he:starEach (e::es) X.env=(false,eval e X.env)::starEach es X.env:=by rfl) (hpl:(backTo pos (starEach es X.env)).any (·.1)=false:=by rfl):PE X (.Call (.Name x p) (e::es) [] pos) (tCB r t):=by
 intro pins s σ H Q I h
 refine wpAny_Call_Name_kw (K7 I hg hm hv ?_ hn hdb)
 exact PyProof.Rows.callWith_builtin1 (thn (ha pos pins s σ H _ I h) fun us s1 zz43=>by obtain ⟨vs,H1,I1,r1,q1⟩:=zz43; exact hc pins s1 σ H1 vs us Q I1 r1 q1) he hpl
theorem mY (hc:E2 X (.type T) r) (hg:Gl X x) (hm:X.mg x=none) (hv:bootBuiltins x=some (.type T)) (ha:PA X (e::es) t) (hn:x ≠ "__name__" := by decide) (hdb:(x == ("__debug__" : Str))=false:=by decide)
  (he:starEach (e::es) X.env=(false,eval e X.env)::starEach es X.env:=by rfl) (hpl:(backTo pos (starEach es X.env)).any (·.1)=false:=by rfl):PE X (.Call (.Name x p) (e::es) [] pos) (tCB r t):=by
 intro pins s σ H Q I h
 refine wpAny_Call_Name_kw (K7 I hg hm hv ?_ hn hdb)
 exact PyProof.Rows.callWith_type1 (thn (ha pos pins s σ H _ I h) fun us s1 zz44=>by obtain ⟨vs,H1,I1,r1,q1⟩:=zz44; exact hc pins s1 σ H1 vs us Q I1 r1 q1) he hpl
end
end L2
namespace HT
open PySem PyProof.Rows
def lexLt:List Int->List Int->Bool
 | [],[]=>false
 | [],_::_=>true
 | _::_,[]=>false
 | x::xs,y::ys=>if x=y then lexLt xs ys else decide (x<y)
section
open PySem.SeqAt
open PySem.AutoSeq1 (wpAny_loadPart')
open PySem.MeetsSeq PySem.MeetsSeq2 PySem.MeetsSeq3
end
section
variable {prog:Program} {w:World} {A:Around} {E:Value->Shared->Prop} {s:Shared}
theorem cat_tup {t b:Addr} {vs ws:List Value} {Q:Value->Shared->Prop} (ht:IsTup s.heap t vs.toArray) (hb:IsTup s.heap b ws.toArray) (hv:vs ≠ [])
  (h1:ws = []->Q (.ref t) s) (h2:ws ≠ []->Q (.ref s.heap.objs.size) { s with heap:=s.heap.push { cls:=.type "tuple",data:=.seq (vs++ws).toArray } })
  (hsz:vs.length+ws.length<=sizeLine):wpAny (model prog w) A (binaryOp .Add (.ref t) (.ref b)) Q E s:=by
 obtain ⟨⟨cls,dd,data,sl⟩,ho,hc,n,hd⟩:=id ht
 obtain ⟨⟨cls2,dd2,data2,sl2⟩,ho2,hc2,n2,hd2⟩:=id hb
 simp only at hc hd hc2 hd2
 subst hc hd hc2 hd2
 have e:vs.toArray++ws.toArray=(vs++ws).toArray:=by simp
 by_cases hw:ws = []
 ·exact concat_meets ⟨_,ho,rfl⟩ ⟨_,ho2,rfl⟩ noFill_tuple_add seq_tuple_add PySem.F.slot_tuple_add PySem.F.entry_tuple_add (PySem.F.args_tuple_add_2 _ _)
   (tuple_addW1 t b vs.toArray ws.toArray n n2 dd dd2 sl sl2 (by simpa using hv) (by simp [hw])) ⟨ho,ho2,h1 hw⟩
 ·refine concat_meets ⟨_,ho,rfl⟩ ⟨_,ho2,rfl⟩ noFill_tuple_add seq_tuple_add PySem.F.slot_tuple_add PySem.F.entry_tuple_add (PySem.F.args_tuple_add_2 _ _)
   (tuple_addW2 t b vs.toArray ws.toArray n n2 dd dd2 sl sl2 (by simpa using hv) (by simpa using hw) (by rw [List.size_toArray,List.size_toArray]; exact hsz)) ⟨ho,ho2,?_⟩
  rw [e]
  exact h2 hw
def sIx (n d:Nat):Option Int->Nat
 | none=>d
 | some v=>if v<0 then (v+(n:Int)).toNat else min v.toNat n
theorem sIx_none (n d:Nat):sIx n d none=d:=rfl
theorem sIx_nat (n d k:Nat):sIx n d (some (k:Int))=min k n:=by
 show (if (k:Int)<0 then ((k:Int)+(n:Int)).toNat else min (k:Int).toNat n)=min k n
 rw [if_neg (by omega),Int.toNat_natCast]
theorem mG (n d:Nat) (hd:d<=n) (o:Option Int):sIx n d o<=n:=by
 cases o with
 | none=>exact hd
 | some v=>
  show (if v<0 then (v+(n:Int)).toNat else min v.toNat n)<=n
  by_cases hv:v<0
  ·rw [if_pos hv]; omega
  ·rw [if_neg hv]; exact Nat.min_le_right _ _
theorem kn (v:Int) (n d:Nat):(if v<0 then max (v+(n:Int)) 0 else min v (n:Int))=((sIx n d (some v):Nat):Int):=by
 show (if v<0 then max (v+(n:Int)) 0 else min v (n:Int))=(((if v<0 then (v+(n:Int)).toNat else min v.toNat n):Nat):Int)
 by_cases hv:v<0
 ·simp only [if_pos hv]; omega
 ·simp only [if_neg hv]; omega
theorem lE (lo hi:Option Int) (n:Nat):Builtin.Slice.sliceAdjust lo hi 1 (n:Int)=(((sIx n 0 lo:Nat):Int),((sIx n n hi:Nat):Int)):=by
 have h1:¬ ((1:Int)<0):=by omega
 unfold Builtin.Slice.sliceAdjust
 simp only [h1,if_false]
 refine Prod.ext ?_ ?_
 ·cases lo with
  | none=>rfl
  | some v=>exact kn v n 0
 ·cases hi with
  | none=>rfl
  | some v=>exact kn v n n
theorem kK (i j:Nat):Builtin.Slice.slicePlaces (i:Int) (j:Int) 1=j-i:=by
 unfold Builtin.Slice.slicePlaces
 have h1:(1:Int)>0:=by omega
 simp only [h1,if_true,Int.ediv_one]
 split <;> omega
theorem de {v:Value} {o:Option Int} {Q:Option Int->Shared->Prop} (p:IsPart v o) (h:Q o s):wpAny (model prog w) A (Builtin.Slice.slicePartIndex v) Q E s:=by
 cases p with
 | none=>exact slicePart_none h
 | int i t=>exact slicePart_int h
theorem Q4 {sl:Addr} {vl vu:Value} {lo hi:Option Int} {n:Nat} {Q:Int×Int×Nat->Shared->Prop} (hs:s.heap.IsSliceOf sl vl vu .none) (pl:IsPart vl lo) (pu:IsPart vu hi)
  (h:Q (((sIx n 0 lo:Nat):Int),1,sIx n n hi-sIx n 0 lo) s):wpAny (model prog w) A (Builtin.Slice.sliceApplied (.ref sl) (pure (n:Int))) Q E s:=by
 obtain ⟨os,hos,hcs,hds⟩:=id hs
 unfold Builtin.Slice.sliceApplied Builtin.Slice.sliceFields
 refine wpAny_bind (wpAny_bind (wpAny_field hos hds (x:=vl) rfl (wpAny_bind (wpAny_field hos hds (x:=vu) rfl (wpAny_bind (wpAny_field hos hds (x:=.none) rfl (wpAny_pure ?_)))))))
 refine wpAny_bind (slicePart_none ?_)
 show wpAny _ _ (if ((1:Int) == 0)=true then _ else _) _ _ s
 rw [if_neg (by decide)]
 refine wpAny_bind (de pl (wpAny_bind (de pu (wpAny_bind (wpAny_pure ?_)))))
 show wpAny _ _ (match Builtin.Slice.sliceAdjust lo hi 1 (n:Int) with | (lo,hi)=>pure (lo,(1:Int),Builtin.Slice.slicePlaces lo hi 1)) _ _ s
 rw [lE lo hi n]
 show wpAny _ _ (pure (((sIx n 0 lo:Nat):Int),(1:Int),Builtin.Slice.slicePlaces ((sIx n 0 lo:Nat):Int) ((sIx n n hi:Nat):Int) 1)) _ _ s
 rw [kK]
 exact wpAny_pure h
theorem pZ (xs:Array Value) (i k:Nat):((List.range k).filterMap fun (m:Nat)=>xs[((i:Int)+(m:Int)*1).toNat]?).toArray=((xs.toList.drop i).take k).toArray:=by
 have e:(fun (m:Nat)=>xs[((i:Int)+(m:Int)*1).toNat]?)=fun m=>xs[i+m]?:=by
  funext m
  have:((i:Int)+(m:Int)*1).toNat=i+m:=by omega
  rw [this]
 rw [e]
 have:=pick_run xs i k
 rw [List.filterMap_map] at this
 have e2:((fun x=>xs[x]?)∘fun x=>i+x)=fun m=>xs[i+m]?:=rfl
 rw [e2] at this
 rw [this]
theorem getItem_tuple_cut {t sl:Addr} {items:Array Value} {vl vu:Value} {lo hi:Option Int} {Q:Value->Shared->Prop} (ht:IsTup s.heap t items) (hs:s.heap.IsSliceOf sl vl vu .none) (pl:IsPart vl lo) (pu:IsPart vu hi)
  (hw:¬ (sIx items.size 0 lo=0/\sIx items.size items.size hi=items.size))
  (h:Q (.ref s.heap.objs.size) { s with heap:=s.heap.push { cls:=.type "tuple",data:=.seq ((items.toList.drop (sIx items.size 0 lo)).take (sIx items.size items.size hi-sIx items.size 0 lo)).toArray } })
  (hsz:items.size<=sizeLine):wpAny (model prog w) A (getItem (.ref t) (.ref sl)) Q E s:=by
 have htake:sizeOk (.seq ((items.toList.drop (sIx items.size 0 lo)).take (sIx items.size items.size hi-sIx items.size 0 lo)).toArray):=by
  show ((items.toList.drop (sIx items.size 0 lo)).take (sIx items.size items.size hi-sIx items.size 0 lo)).toArray.size<=sizeLine
  rw [List.size_toArray,List.length_take,List.length_drop,Array.length_toList]
  omega
 have hj:sIx items.size items.size hi<=items.size:=mG _ _ (Nat.le_refl _) hi
 obtain ⟨os,hos,hcs,hds⟩:=id hs
 have hTs:s.TypeIs (.ref sl) "slice" := ⟨os,hos,hcs⟩
 unfold getItem
 try with_reducible refine wpAny_holding ?_
 first | refine wpAny_bind (wpAny_pure ?_) | skip
 refine wpAny_bind (wpAny_sequenceKey ht.typeIs (by decide) ?_)
 refine wpAny_bind (wpAny_callSpecial?_slot (name:=Str.ofString "__getitem__") ht.typeIs PyProof.Rows.slot_tuple_getitem
  (wpAny_call_entry PyProof.Rows.slot_tuple_getitem ht.typeIs entry_tuple_getitem ?_ (args_tuple_getitem _ _)))
 show wpAny _ _ (Builtin.Tuple.tupleItemsOf (.ref t)>>=_) _ _ s
 refine wpAny_bind (tupleItemsOf_ ht ?_)
 refine wpAny_bind (wpAny_typeOf hTs ?_)
 rw [if_pos (by decide)]
 refine wpAny_bind (Q4 hs pl pu ?_)
 have hno:¬ ((((sIx items.size 0 lo:Nat):Int) == 0&&(1:Int) == 1&&(sIx items.size items.size hi-sIx items.size 0 lo) == items.size)=true):=by
  intro q
  rw [Bool.and_eq_true,Bool.and_eq_true] at q
  have q1:((sIx items.size 0 lo:Nat):Int)=0:=eq_of_beq q.1.1
  have q2:sIx items.size items.size hi-sIx items.size 0 lo=items.size:=eq_of_beq q.2
  exact hw ⟨by omega,by omega⟩
 show wpAny _ _ (if (((sIx items.size 0 lo:Nat):Int) == 0&&(1:Int) == 1&&(sIx items.size items.size hi-sIx items.size 0 lo) == items.size)=true then _ else _) _ _ s
 rw [if_neg hno,pZ]
 first
  | exact wpAny_bind (m:=Builtin.Tuple.tupleExact _) (wpAny_newObj_type (wpAny_pure ⟨_,rfl,wpAny_pure h⟩) htake)
  | exact wpAny_bind (m:=Builtin.Tuple.tupleExact _) (wpAny_newObj_type (wpAny_bind (wpAny_pure (wpAny_pure ⟨_,rfl,wpAny_pure h⟩))) htake)
  | exact wpAny_bind (wpAny_bind (m:=Builtin.Tuple.tupleExact _) (wpAny_newObj_type (wpAny_pure (wpAny_pure ⟨_,rfl,wpAny_pure h⟩)) htake))
  | exact wpAny_bind (wpAny_bind (m:=Builtin.Tuple.tupleExact _) (wpAny_newObj_type (wpAny_pure ⟨_,rfl,wpAny_pure h⟩) htake))
end
end HT
namespace L2
open PySem PySem.Spec PyProof.Rows
abbrev TO:=St->Hp->(Option Int->Hp->Prop)->Prop
def PO (X:Cx) (e:Option Expr) (t:TO):Prop:=
 ∀ (pins:List (Addr×Obj)) (s:Shared) (σ:St) (H:Hp) (Q:Option Int->Hp->Prop),Inv X pins σ H s->t σ H Q ->
  wpAny (model X.prog X.w) X.A (evalPart e X.env) (fun u s'=>∃ o H',Inv X pins σ H' s'/\IsPart u o/\Q o H') X.xe s
def tNoPart:TO:=fun _ H Q=>Q none H
def rP (t:TE):TO:=fun σ H Q=>t σ H fun x H1=>∃ i,x=.int i/\Q (some i) H1
section
variable {X:Cx} {e:Expr} {te:TE} {lo hi:Option Expr} {tl th:TO} {pos p2:Pos}
theorem po_none:PO X none tNoPart:=by
 intro pins s σ H Q I h
 rw [evalPart_none]
 exact wpAny_pure ⟨none,H,I,.none,h⟩
theorem uo (h:PE X e te):PO X (some e) (rP te):=by
 intro pins s σ H Q I hw
 rw [evalPart_some]
 refine thn (h pins s σ H _ I hw) fun u s1 zz45=>?_
 obtain ⟨x,H1,I1,r1,q1⟩:=zz45
 obtain ⟨i,rfl,q⟩:=q1
 obtain ⟨t,rfl⟩:=r1
 exact ⟨some i,H1,I1,.int i t,q⟩
def SlR (X:Cx) (r:V->Option Int->Option Int->Hp->VK->Prop):Prop:=
 ∀ (pins:List (Addr×Obj)) (s:Shared) (σ:St) (H:Hp) (x:V) (v vl vu:Value) (lo hi:Option Int) (sl:Addr) (Q:VK),Inv X pins σ H s->RelV x v->s.heap.IsSliceOf sl vl vu .none->IsPart vl lo->IsPart vu hi->r x lo hi H Q ->
  ∃ T id,typeLookup (.type T) "__getitem__" = pure (some (.builtin id))/\s.TypeIs v T/\wpAny (model X.prog X.w) X.A (getItem v (.ref sl)) (EP X pins σ Q) X.xe s
theorem SlR.or {r r':V->Option Int->Option Int->Hp->VK->Prop} (h:SlR X r) (h':SlR X r'):SlR X (fun x lo hi H Q=>r x lo hi H Q\/r' x lo hi H Q):=by
 intro pins s σ H x v vl vu lo hi sl Q I rx hs pl pu q
 rcases q with q | q
 ·exact h pins s σ H x v vl vu lo hi sl Q I rx hs pl pu q
 ·exact h' pins s σ H x v vl vu lo hi sl Q I rx hs pl pu q
def tSl (r:V->Option Int->Option Int->Hp->VK->Prop) (te:TE) (tl th:TO):TE:=fun σ H Q=>te σ H fun x H1=>tl σ H1 fun l H2=>th σ H2 fun u H3=>r x l u H3 Q
theorem gJ {r:V->Option Int->Option Int->Hp->VK->Prop} (hr:SlR X r) (he:PE X e te) (hl:PO X lo tl) (hu:PO X hi th):PE X (.Subscript e (.Slice lo hi none p2) pos) (tSl r te tl th):=by
 intro pins s σ H Q I h
 refine Subscript_ (thn (he pins s σ H _ I h) fun v s1 zz46=>?_)
 obtain ⟨x,H1,I1,r1,q1⟩:=zz46
 refine wpAny_Slice (thn (hl pins s1 σ H1 _ I1 q1) fun vl s2 ⟨l,H2,I2,pl,q2⟩=>thn (hu pins s2 σ H2 _ I2 q2) fun vu s3 zz48=>?_)
 obtain ⟨u,H3,I3,pu,q3⟩:=zz48
 rw [evalPart_none]
 refine wpAny_pure ?_
 have I4:Inv X pins σ H3 { s3 with heap:=s3.heap.push { cls:=.type "slice",data:=.fields #[vl,vu,.none] } }:=I3.kept (t':=s3.toks) fun b ob q=>Heap.get?_push_of_some _ q
 obtain ⟨T,id,hT,ht,hg⟩:=hr pins { s3 with heap:=s3.heap.push { cls:=.type "slice",data:=.fields #[vl,vu,.none] } } σ H3 x v vl vu l u s3.heap.objs.size Q I4 r1 (Heap.IsSliceOf.new ..) pl pu q3
 show wpAny (model X.prog X.w) X.A (subscriptTail e (.Slice lo hi none p2) v (.ref s3.heap.objs.size)) (EP X pins σ Q) X.xe { s3 with heap:=s3.heap.push { cls:=.type "slice",data:=.fields #[vl,vu,.none] } }
 exact tail_any (ops:=[.ref s3.heap.objs.size,v]) ht hT hg (by with_unfolding_all rfl)
def ad (xs:List V) (lo hi:Option Int):List V:=(xs.drop (HT.sIx xs.length 0 lo)).take (HT.sIx xs.length xs.length hi-HT.sIx xs.length 0 lo)
theorem cB (xs:List V) (lo hi:Option Int):(ad xs lo hi).length<=xs.length:=by
 unfold ad
 rw [List.length_take,List.length_drop]
 omega
def xG (K:Frag):V->Option Int->Option Int->Hp->VK->Prop:=fun x lo hi H Q=>∃ a xs,x=.ref a/\SqT K H a xs /\
 ¬ (HT.sIx xs.length 0 lo=0/\HT.sIx xs.length xs.length hi=xs.length)/\∀ p,H p=none->Q (.ref p) (upd H p (.tup (ad xs lo hi)))
theorem wO:SlR X (xG X.K):=by
 intro pins s σ H x v vl vu lo hi sl Q I rx hs pl pu h
 obtain ⟨a,xs,rfl,hx,hw,q⟩:=h
 cases rx
 obtain ⟨its,r,ht,hz⟩:=I.tuple hx
 have hlen:its.toArray.size=xs.length:=by rw [List.size_toArray]; exact r.length.symm
 refine ⟨"tuple",_,PyProof.Rows.slot_tuple_getitem.lookup,ht.typeIs,?_⟩
 refine HT.getItem_tuple_cut ht hs pl pu (by rw [hlen]; exact hw) ?_ (by rw [hlen]; exact hz)
 rw [hlen]
 refine ⟨.ref s.heap.objs.size,_,I.laid (t':=s.toks) (o:=.tup (ad xs lo hi)) (fun b ob q=>Heap.get?_push_of_some _ q) (Nat.le_refl _) ?_,rfl,q _ (I.hok.fresh (Nat.le_refl _))⟩
 exact ⟨Nat.le_trans (cB xs lo hi) hz,_,(r.drop (HT.sIx xs.length 0 lo)).take (HT.sIx xs.length xs.length hi-HT.sIx xs.length 0 lo),IsTup.new _ _⟩
def sd (K:Frag):R2:=fun x y H Q=>∃ a b xs ys,x=.ref a/\y=.ref b/\SqT K H a xs/\SqT K H b ys/\xs ≠ []/\xs.length+ys.length<=sizeLine /\
 (ys = []->Q (.ref a) H)/\(ys ≠ []->∀ p,H p=none->Q (.ref p) (upd H p (.tup (xs++ys))))
theorem Vals.nil_iff {xs:List V} {us:List Value} (r:Vals xs us):us = []↔xs = []:=by
 cases r with
 | nil=>simp
 | cons _ _=>simp
theorem uC:OpR X (binaryOp .Add) (sd X.K):=by
 intro pins s σ H x y v u Q I rx ry h
 obtain ⟨a,b,xs,ys,rfl,rfl,ha,hb,hx,hz,q1,q2⟩:=h
 cases rx
 cases ry
 obtain ⟨its,r1,p1,_⟩:=I.tuple ha
 obtain ⟨its2,r2,p2,_⟩:=I.tuple hb
 refine HT.cat_tup p1 p2 (fun z=>hx (r1.nil_iff.mp z)) (fun z=>⟨.ref a,H,I,rfl,q1 (r2.nil_iff.mp z)⟩) (fun z=>?_) (by rw [<- r1.length,<- r2.length]; exact hz)
 refine ⟨.ref s.heap.objs.size,_,I.laid (t':=s.toks) (o:=.tup (xs++ys)) (fun b ob q=>Heap.get?_push_of_some _ q) (Nat.le_refl _) ?_,rfl,q2 (fun w=>z (r2.nil_iff.mpr w)) _ (I.hok.fresh (Nat.le_refl _))⟩
 exact ⟨by rw [List.length_append]; exact hz,_,r1.append r2,IsTup.new _ _⟩
end
end L2
namespace L2
open PySem PySem.Spec PyProof.Rows
def ixN (n:Nat) (i:Int):Option Nat:=if 0<=i then (if i<n then some i.toNat else none) else if -(n:Int)<=i then some (i+n).toNat else none
def atI {α:Type} (xs:List α) (i:Int):Option α:=(ixN xs.length i).bind fun j=>xs[j]?
theorem jV {n:Nat} {i:Int} {j:Nat} (h:ixN n i=some j):seqIndex? i n=some j/\j<n /\ -(n:Int)<=i/\i<n:=by
 unfold ixN at h
 by_cases h0:0<=i
 ·rw [if_pos h0] at h
  by_cases h1:i<n
  ·rw [if_pos h1] at h
   have e:i.toNat=j:=Option.some.inj h
   exact ⟨by rw [seqIndex_of h0 h1,e],by omega,by omega,h1⟩
  ·rw [if_neg h1] at h; cases h
 ·rw [if_neg h0] at h
  by_cases h1:-(n:Int)<=i
  ·rw [if_pos h1] at h
   have e:(i+n).toNat=j:=Option.some.inj h
   exact ⟨by rw [seqIndex_neg (by omega) h1,e],by omega,h1,by omega⟩
  ·rw [if_neg h1] at h; cases h
theorem fo {α:Type} {xs:List α} {i:Int} {v:α} (h:atI xs i=some v):∃ j,seqIndex? i xs.length=some j/\xs[j]?=some v/\j<xs.length /\ -(xs.length:Int)<=i/\i<xs.length:=by
 unfold atI at h
 cases e:ixN xs.length i with
 | none=>rw [e] at h; cases h
 | some j=>
  rw [e] at h
  obtain ⟨h1,h2,h3,h4⟩:=jV e
  exact ⟨j,h1,h,h2,h3,h4⟩
def ft (b:Expr):Prop:=∀ o i,subscripted b false o i=operate [o,i] (getItem o i)
def IxR (X:Cx) (r:R2):Prop:=
 ∀ (value slice:Expr) (pins:List (Addr×Obj)) (s:Shared) (σ:St) (H:Hp) (x y:V) (v u:Value) (Q:VK),Inv X pins σ H s->RelV x v->RelV y u->r x y H Q ->
  subscripted slice false v u=operate [v,u] (getItem v u)->wpAny (model X.prog X.w) X.A (subscriptTail value slice v u) (EP X pins σ Q) X.xe s
def MtR (X:Cx) (id:String) (r:V->List V->Hp->VK->Prop):Prop:=
 ∀ (pins:List (Addr×Obj)) (s:Shared) (σ:St) (H:Hp) (x:V) (xs:List V) (v:Value) (us:List Value) (Q:VK),Inv X pins σ H s->RelV x v->Vals xs us->r x xs H Q ->
  wpAny (model X.prog X.w) X.A (call (.builtin id) (v::us)) (EP X pins σ Q) X.xe s
section
variable {X:Cx} {a b:Expr} {ta tb:TE} {pos:Pos}
theorem IxR.or {r r':R2} (h:IxR X r) (h':IxR X r'):IxR X (fun x y H Q=>r x y H Q\/r' x y H Q):=by
 intro value slice pins s σ H x y v u Q I rx ry q hs
 rcases q with q | q
 ·exact h value slice pins s σ H x y v u Q I rx ry q hs
 ·exact h' value slice pins s σ H x y v u Q I rx ry q hs
theorem sj {r:R2} (hr:IxR X r) (ha:PE X a ta) (hb:PE X b tb) (hs:ft b):PE X (.Subscript a b pos) (tOp r ta tb):=by
 intro pins s σ H Q I h
 exact Subscript_ (rF ha hb I h fun v u s2 x y H2 I2 rx ry q=>hr a b pins s2 σ H2 x y v u Q I2 rx ry q (hs _ _))
def xN (K:Frag):R2:=fun x y H Q=>∃ p xs i v,x=.ref p/\y=.int i/\SqL K H p xs/\atI xs i=some v/\Q v H
def xM (K:Frag):R2:=fun x y H Q=>∃ p xs i v,x=.ref p/\y=.int i/\SqT K H p xs/\atI xs i=some v/\Q v H
def rIxS:R2:=fun x y H Q=>∃ z i c,x=.str z/\y=.int i/\z.length<=sizeLine/\atI z.cps.toList i=some c/\Q (.str ⟨#[c]⟩) H
theorem ix_list:IxR X (xN X.K):=by
 intro value slice pins s σ H x y v u Q I rx ry h hs
 obtain ⟨p,xs,i,z,rfl,rfl,hq,he,q⟩:=h
 cases rx
 obtain ⟨t,rfl⟩:=ry
 obtain ⟨its,r,pl,hz⟩:=I.list hq
 obtain ⟨j,h1,h2,h3,h4,h5⟩:=fo he
 obtain ⟨w,ew,rw'⟩:=r.get h2
 have hl:=r.length
 have hn:=X5
 have fin:EP X pins σ Q w s:=⟨z,H,I,rw',q⟩
 by_cases h0:0<=i
 ·have hj:i.toNat=j:=by
   rw [seqIndex_of h0 h5] at h1
   exact Option.some.inj h1
  exact item_listR pl.isList h0 (by omega) (by rw [hj]; simpa using ew) fin hs
 ·have hj:(i+(its.toArray.size:Int)).toNat=j:=by
   rw [seqIndex_neg (by omega) h4] at h1
   rw [List.size_toArray,<- hl]
   exact Option.some.inj h1
  exact subscriptTail_builtinR (x:=w) pl.isList.typeIs slot_list_getitem.lookup
   (wpAny_getItem_list_neg (Q:=fun r s'=>r=w/\EP X pins σ Q r s') pl.isList (by omega) (by rw [List.size_toArray] <;> omega) (by omega) (by rw [hj]; simpa using ew) ⟨rfl,fin⟩) hs
theorem ix_tup:IxR X (xM X.K):=by
 intro value slice pins s σ H x y v u Q I rx ry h hs
 obtain ⟨p,xs,i,z,rfl,rfl,hq,he,q⟩:=h
 cases rx
 obtain ⟨t,rfl⟩:=ry
 obtain ⟨its,r,pl,hz⟩:=I.tuple hq
 obtain ⟨j,h1,h2,h3,h4,h5⟩:=fo he
 obtain ⟨w,ew,rw'⟩:=r.get h2
 have hl:=r.length
 have hn:=X5
 have fin:EP X pins σ Q w s:=⟨z,H,I,rw',q⟩
 exact subscriptTail_builtinR (x:=w) pl.typeIs slot_tuple_getitem.lookup
  (getItem_tuple (j:=j) (Q:=fun r s'=>r=w/\EP X pins σ Q r s') pl (by omega) (by omega) (by rw [List.size_toArray,<- hl]; exact h1) (by simpa using ew) ⟨rfl,fin⟩) hs
theorem yN:IxR X rIxS:=by
 intro value slice pins s σ H x y v u Q I rx ry h hs
 obtain ⟨z,i,c,rfl,rfl,hz,he,q⟩:=h
 obtain ⟨t,rfl⟩:=rx
 obtain ⟨t',rfl⟩:=ry
 obtain ⟨j,h1,h2,h3,h4,h5⟩:=fo he
 have hl:z.cps.toList.length=z.length:=by simp [Str.length]
 rw [hl] at h1 h4 h5
 have hn:=X5
 exact tail_any (typeIs_str s z t) slot_str_getitem.lookup (getItem_str (c:=c) (by
  have e1:decide (i < -(2^63:Int))=false:=decide_eq_false (by omega)
  have e2:decide (i≥2^63)=false:=decide_eq_false (by omega)
  rw [e1,e2,Bool.or_false]) (by rw [h1]; simpa using h2) ⟨.str ⟨#[c]⟩,H,I.tok _,⟨_,rfl⟩,q⟩) hs
def rIx (K:Frag):R2:=fun x y H Q=>xN K x y H Q\/xM K x y H Q\/rIxS x y H Q
theorem nK:IxR X (rIx X.K):=ix_list.or (ix_tup.or yN)
theorem kS (its:List Value) (n j:Nat) (u:Value):Obj.mapSeq (·.setIfInBounds j u) { cls:=.type "list",data:=.seq its.toArray n }={ cls:=.type "list",data:=.seq (its.set j u).toArray n }:=by
 simp [Obj.mapSeq]
theorem Inv.lst {pins:List (Addr×Obj)} {σ:St} {H:Hp} {s:Shared} {p:Addr} {xs:List V} (I:Inv X pins σ H s) (h:H p=some (.lst xs)) :
  ∃ (its:List Value) (n:Nat),Vals xs its/\s.heap.get? p=some { cls:=.type "list",data:=.seq its.toArray n }/\xs.length<=sizeLine:=by
 obtain ⟨z,its,n,r,e⟩:=I.hok p _ h
 exact ⟨its,n,r,e,z⟩
theorem Inv.lstUpd {pins:List (Addr×Obj)} {σ:St} {H:Hp} {s:Shared} {p:Addr} {xs ys:List V} {its its':List Value} {n n':Nat} {f:Obj->Obj} (I:Inv X pins σ H s) (h:H p=some (.lst xs))
  (ho:s.heap.get? p=some { cls:=.type "list",data:=.seq its.toArray n }) (hf:f { cls:=.type "list",data:=.seq its.toArray n }={ cls:=.type "list",data:=.seq its'.toArray n' }) (r:Vals ys its') (hz:ys.length<=sizeLine) (t:Nat) :
  Inv X pins σ (upd H p (.lst ys)) { s with heap:=s.heap.update p f,toks:=t }:=by
 have e:(s.heap.update p f).get? p=some { cls:=.type "list",data:=.seq its'.toArray n' }:=by
  rw [Heap.get?_update_self f ho (by rw [hf] <;> rfl),hf]
 refine I.write (x:=p) (e:=p) (by rw [h]; trivial) (.inl rfl) (fun b u hb q=>(Heap.get?_update_other _ _ (Ne.symm hb)).trans q) ⟨_,e⟩ ?_
 exact ⟨hz,its',n',r,e⟩
def rSetL:V->V->V->Hp->(Hp->Prop)->Prop:=fun o i v H Q=>∃ p xs k j,o=.ref p/\i=.int k/\H p=some (.lst xs)/\ixN xs.length k=some j/\Q (upd H p (.lst (xs.set j v)))
theorem set_list:Bg X rSetL:=by
 intro pins s σ H o i v ov iv u Q I ro ri rv h
 obtain ⟨p,xs,k,j,rfl,rfl,hp,hj,q⟩:=h
 cases ro
 obtain ⟨t,rfl⟩:=ri
 obtain ⟨its,n,r,ho,hz⟩:=I.lst hp
 obtain ⟨h1,h2,h3,h4⟩:=jV hj
 have hl:=r.length
 have hn:=X5
 have I':Inv X pins σ (upd H p (.lst (xs.set j v))) { s with heap:=s.heap.update p (Obj.mapSeq (·.setIfInBounds j u)) }:=
  I.lstUpd hp ho (kS its n j u) (r.set rv j) (by rw [List.length_set]; exact hz) s.toks
 by_cases h0:0<=k
 ·have hk:k.toNat=j:=by
   rw [seqIndex_of h0 h4] at h1
   exact Option.some.inj h1
  exact PySem.W.ki_setAt ho h0 (by omega) (by rw [List.size_toArray,<- hl]; exact h4) (by rw [hk]; exact ⟨_,I',q⟩)
 ·have hk:(k+(its.toArray.size:Int)).toNat=j:=by
   rw [seqIndex_neg (by omega) h3] at h1
   rw [List.size_toArray,<- hl]
   exact Option.some.inj h1
  exact PySem.W.ki_setBack ho (by omega) (by rw [List.size_toArray,<- hl]; exact h3) (by omega) (by rw [hk]; exact ⟨_,I',q⟩)
theorem gr (lo hi:Option Int) (n:Nat):(sliceBounds lo hi none n).1=((HT.sIx n 0 lo:Nat):Int)/\(sliceBounds lo hi none n).2.1=((HT.sIx n n hi:Nat):Int)/\(sliceBounds lo hi none n).2.2=1:=by
 refine ⟨?_,?_,rfl⟩
 ·cases lo with
  | none=>simp [sliceBounds,HT.sIx]
  | some i=>
   simp only [sliceBounds,HT.sIx,Option.getD_none,show (1:Int)>0 by decide,if_true]
   by_cases h:i<0
   ·simp only [h,if_true] <;> omega
   ·simp only [h,if_false] <;> omega
 ·cases hi with
  | none=>simp [sliceBounds,HT.sIx]
  | some i=>
   simp only [sliceBounds,HT.sIx,Option.getD_none,show (1:Int)>0 by decide,if_true]
   by_cases h:i<0
   ·simp only [h,if_true] <;> omega
   ·simp only [h,if_false] <;> omega
theorem fO (its:List Value) (lo hi:Option Int):slicePick its.toArray lo hi none=((its.drop (HT.sIx its.length 0 lo)).take (HT.sIx its.length its.length hi-HT.sIx its.length 0 lo)).toArray:=by
 obtain ⟨h1,h2,h3⟩:=gr lo hi its.toArray.size
 unfold slicePick
 rw [h1,h2,h3]
 simp only [sliceRange_one,pick_run,List.size_toArray] <;> rfl
def xH (K:Frag):V->Option Int->Option Int->Hp->VK->Prop:=fun x lo hi H Q=>∃ a xs,x=.ref a/\SqL K H a xs/\∀ p,H p=none->Q (.ref p) (upd H p (.lst (ad xs lo hi)))
theorem tF:SlR X (xH X.K):=by
 intro pins s σ H x v vl vu lo hi sl Q I rx hs pl pu h
 obtain ⟨a,xs,rfl,hx,q⟩:=h
 cases rx
 obtain ⟨its,r,ht,hz⟩:=I.list hx
 have hlen:=r.length
 refine ⟨"list",_,slot_list_getitem.lookup,ht.isList.typeIs,?_⟩
 refine wpAny_getItem_list_slice ht.isList hs pl pu .none (by simp) ?_ (by rw [List.size_toArray] <;> omega)
 rw [fO,<- hlen]
 refine ⟨.ref s.heap.objs.size,_,I.laid (t':=s.toks) (o:=.lst (ad xs lo hi)) (fun b ob q=>Heap.get?_push_of_some _ q) (Nat.le_refl _) ?_,rfl,q _ (I.hok.fresh (Nat.le_refl _))⟩
 exact ⟨Nat.le_trans (cB xs lo hi) hz,_,0,(r.drop (HT.sIx xs.length 0 lo)).take (HT.sIx xs.length xs.length hi-HT.sIx xs.length 0 lo),Heap.get?_push_size _ rfl⟩
def sD:V->Bool
 | .non=>true
 | .bl _=>true
 | .int _=>true
 | .str _=>true
 | _=>false
def eqV:V->V->Bool
 | .non,.non=>true
 | .bl a,.bl b=>a == b
 | .bl a,.int b=>(if a then 1 else 0) == b
 | .int a,.bl b=>a == (if b then 1 else 0)
 | .int a,.int b=>a == b
 | .str a,.str b=>a == b
 | _,_=>false
def inV (x:V) (xs:List V):Bool:=xs.any fun y=>eqV y x
def rIn (K:Frag) (neg:Bool):R2:=fun x y H Q=>∃ p xs,y=.ref p/\(SqL K H p xs\/SqT K H p xs)/\sD x=true/\xs.all sD=true/\Q (.bl (if neg then !inV x xs else inV x xs)) H
theorem iM:E2 X (.builtin "len") (fun xs H Q=>∃ p ys,xs = [.ref p]/\(SqL X.K H p ys\/SqT X.K H p ys)/\Q (.int ys.length) H):=by
 intro pins s σ H xs us Q I r h
 obtain ⟨p,ys,rfl,hq,q⟩:=h
 obtain ⟨u,rfl,rx⟩:=vals1 r
 cases rx
 have hn:=X5
 rcases hq with hq | hq
 ·obtain ⟨its,r',pl,hz⟩:=I.list hq
  have hlen:=r'.length
  exact Calls.call_len_list pl.isList (by simp only [List.size_toArray] <;> omega) ⟨.int ys.length,H,I.tok _,⟨s.toks+1,by rw [List.size_toArray,hlen]⟩,q⟩
 ·obtain ⟨its,r',pl,hz⟩:=I.tuple hq
  have hlen:=r'.length
  exact len_tuple pl (by simp only [List.size_toArray] <;> omega) ⟨.int ys.length,H,I.tok _,⟨s.toks+1,by rw [List.size_toArray,hlen]⟩,q⟩
theorem fR:E2 X (.type "tuple") (fun xs H Q=>∃ p ys,xs = [.ref p]/\((SqL X.K H p ys/\∀ l,H l=none->Q (.ref l) (upd H l (.tup ys)))\/(SqT X.K H p ys/\Q (.ref p) H))):=by
 intro pins s σ H xs us Q I r h
 obtain ⟨p,ys,rfl,h⟩:=h
 obtain ⟨u,rfl,rx⟩:=vals1 r
 cases rx
 rcases h with ⟨hq,q⟩ | ⟨hq,q⟩
 ·obtain ⟨its,r',pl,hz⟩:=I.list hq
  have hlen:=r'.length
  refine call_tuple_list pl.isList (fun h' kp=>?_) (by simp only [List.size_toArray] <;> omega)
  have I1:Inv X pins σ H { s with heap:=h' }:=I.kept (t':=s.toks) kp
  have I2:Inv X pins σ (upd H h'.objs.size (.tup ys)) { s with heap:=h'.push { cls:=.type "tuple",data:=.seq its.toArray } }:=
   I1.laid (t':=s.toks) (fun b o e=>Heap.get?_push_of_some _ e) (Nat.le_refl _) (show ObjOk X.prog X.w _ _ _ (.tup ys) from ⟨hz,its,r',IsTup.new _ _⟩)
  exact ⟨.ref h'.objs.size,_,I2,rfl,q _ (I1.hok.fresh (Nat.le_refl _))⟩
 ·obtain ⟨its,r',pl,hz⟩:=I.tuple hq
  exact call_tuple_same pl ⟨.ref p,H,I,rfl,q⟩
def tyV (K:Frag) (T:String) (x:V) (H:Hp):Prop:=match x with
 | .str _=>T = "str"
 | .int _=>T = "int"
 | .ref p=>(T = "list" /\ ∃ xs,SqL K H p xs)\/(T = "tuple" /\ ∃ o,K.lookup p=some o/\o.cls=.type "tuple" /\ o.dict=none) \/
   (T = "dict" /\ ((∃ kvs,H p=some (.dK kvs))\/∃ kvs,H p=some (.dT kvs)))\/(T = "set" /\ ∃ S n,H p=some (.set S n))
 | _=>False
theorem lP {pins:List (Addr×Obj)} {σ:St} {H:Hp} {s:Shared} {T:String} {x:V} {v:Value} (I:Inv X pins σ H s) (r:RelV x v) (ty:tyV X.K T x H) :
  s.TypeIs v T/\∀ a,v=.ref a->∃ ob,s.heap.get? a=some ob/\ob.dict=none:=by
 cases x with
 | str z=>
  obtain ⟨t,rfl⟩:=r
  cases (show T = "str" from ty)
  exact ⟨typeIs_str s z t,fun _ e=>nomatch e⟩
 | int i=>
  obtain ⟨t,rfl⟩:=r
  cases (show T = "int" from ty)
  exact ⟨typeIs_int s i t,fun _ e=>nomatch e⟩
 | ref p=>
  cases r
  rcases ty with ⟨rfl,xs,hq⟩ | ⟨rfl,o,hk,hc,hd⟩ | ⟨rfl,hk⟩ | ⟨rfl,S,n,hk⟩
  ·obtain ⟨its,_,pl,_⟩:=I.list hq
   refine ⟨pl.isList.typeIs,fun a e=>?_⟩
   cases e
   obtain ⟨o,n,e,c,hd,_⟩:=pl
   exact ⟨o,e,hd⟩
  ·refine ⟨⟨o,I.kIn p o hk,hc⟩,fun a e=>?_⟩
   cases e
   exact ⟨o,I.kIn _ o hk,hd⟩
  ·have z:∃ o,s.heap.get? p=some o/\o.ExactDict:=by
    rcases hk with ⟨kvs,hk⟩ | ⟨kvs,hk⟩
    ·obtain ⟨_,_,_,_,o,_,_,e,ex,_⟩:=I.hok p _ hk
     exact ⟨o,e,ex⟩
    ·obtain ⟨_,_,_,_,o,_,_,e,ex,_⟩:=I.hok p _ hk
     exact ⟨o,e,ex⟩
   obtain ⟨o,e,ex⟩:=z
   refine ⟨⟨o,e,ex.1⟩,fun a e2=>?_⟩
   cases e2
   exact ⟨o,e,ex.2.1⟩
  ·obtain ⟨o,_,_,_,e,ex,_⟩:=I.hok p _ hk
   refine ⟨⟨o,e,ex.1⟩,fun a e2=>?_⟩
   cases e2
   exact ⟨o,e,ex.2.1⟩
 | _=>exact False.elim ty
def tBM (K:Frag) (T:String) (r:V->List V->Hp->VK->Prop) (to:TE) (t:TA):TE:=fun σ H Q=>to σ H fun x H1=>tyV K T x H1/\t σ H1 fun xs H2=>r x xs H2 Q
variable {o e:Expr} {es:List Expr} {to:TE} {t:TA} {name:Str} {apos cpos:Pos} {T id:String} {r:V->List V->Hp->VK->Prop}
theorem BC (pa:PlainAttrs T) (slot:Slot T name id) (hty:typeOf (.builtin id)=pure (.type "method_descriptor")) (hm:MtR X id r) (ho:PE X o to) (ha:PA X (e::es) t)
  (hbase:attributeBase o name X.env (eval o X.env)=eval o X.env:=by rfl)
  (hfew:((backTo cpos (starEach (e::es) X.env)).all (fun x=>!x.1)&&(backToKw cpos (keywordEach [] X.env)).all (fun x=>x.1.isSome)
   && decide ((e::es).length+([]:List Keyword).length+(if ([]:List Keyword).isEmpty then 0 else 1)<30))=true:=by rfl)
  (hline:(apos.endLine == cpos.line)=true:=by rfl) (hs:starEach (e::es) X.env=(false,eval e X.env)::starEach es X.env:=by rfl) (hplain:(backTo cpos (starEach es X.env)).any (·.1)=false:=by rfl) :
  PE X (.Call (.Attribute o name apos) (e::es) [] cpos) (tBM X.K T r to t):=by
 intro pins s σ H Q I h
 refine wpAny_Call_method_late hbase hfew hline rfl (thn (ho pins s σ H _ I h) fun v s1 zz49=>?_)
 obtain ⟨x,H1,I1,r1,ty,q1⟩:=zz49
 obtain ⟨h1,h2⟩:=lP I1 r1 ty
 refine ⟨T,id,pa,slot,hty,h1,h2,?_⟩
 have hA:=ha cpos pins s1 σ H1 _ I1 q1
 rw [hs] at hA ⊢
 refine Calls.callWith_builtin (by show (false||(backTo cpos (starEach es X.env)).any (·.1))=false; rw [hplain] <;> rfl) (Calls.evalArgs_plain ?_)
 exact thn hA fun us s2 zz50=>by obtain ⟨vs,H2,I2,r2,q2⟩:=zz50; exact hm pins s2 σ H2 x vs v us Q I2 r1 r2 q2
end
end L2
namespace L2
open PySem PySem.Spec PyProof.Rows
def MtM (X:Cx) (id:String) (r:V->List V->Hp->VK->Prop):Prop:=
 ∀ (pins:List (Addr×Obj)) (s:Shared) (σ:St) (H:Hp) (x:V) (xs:List V) (v:Value) (us:List Value) (Q:VK),Inv X pins σ H s->RelV x v->Vals xs us->r x xs H Q ->
  wpAny (model X.prog X.w) X.A (call (.builtin id) (v::us)) (EP X pins σ Q) X.xe s
theorem Vals.one:∀ {x:V} {us:List Value},Vals [x] us->∃ u,us = [u]/\RelV x u:=by
 intro x us r
 cases r with
 | cons r t=>cases t; exact ⟨_,rfl,r⟩
theorem Vals.reverse {xs:List V} {us:List Value} (h:Vals xs us):Vals xs.reverse us.reverse:=by
 induction h with
 | nil=>exact .nil
 | cons r t ih=>rw [List.reverse_cons,List.reverse_cons]; exact Vals.append ih (.cons r .nil)
theorem Vals.rep {xs:List V} {us:List Value} (h:Vals xs us):∀ k:Nat,Vals (List.replicate k xs).flatten (List.replicate k us).flatten
 | 0=>.nil
 | k+1=>by
  rw [List.replicate_succ,List.replicate_succ,List.flatten_cons,List.flatten_cons]
  exact Vals.append h (Vals.rep h k)
theorem foldl_rep (its:List Value):∀ (k:Nat) (acc:List Value),
  List.foldl (fun x1 x2=>x1++x2) acc.toArray (List.replicate k its.toArray)=(acc++(List.replicate k its).flatten).toArray:=by
 intro k
 induction k with
 | zero=>intro acc; simp
 | succ k ih=>
  intro acc
  have e:acc.toArray++its.toArray=(acc++its).toArray:=by simp
  have e2:(acc++its)++(List.replicate k its).flatten=acc++(List.replicate (k+1) its).flatten:=by
   rw [List.replicate_succ,List.flatten_cons,List.append_assoc]
  rw [<- e2,<- ih (acc++its),<- e,List.replicate_succ,List.foldl_cons]
section
variable {X:Cx} {pins:List (Addr×Obj)} {σ:St} {H:Hp} {s:Shared} {l b:Addr} {xs ys zs:List V}
theorem Inv.lset {its its':List Value} {n:Nat} {f:Array Value->Array Value} {t':Nat} (I:Inv X pins σ H s) (hH:H l=some (.lst xs))
  (e:s.heap.get? l=some { cls:=.type "list",data:=.seq its.toArray n }) (hf:f its.toArray=its'.toArray) (hv:Vals ys its') (hz:ys.length<=sizeLine) :
  Inv X pins σ (upd H l (.lst ys)) { s with heap:=s.heap.update l (Obj.mapSeq f),toks:=t' }:=by
 have q:=PySem.IsL.update e f
 rw [hf] at q
 refine I.write (x:=l) (e:=l) (by rw [hH]; exact trivial) (.inl rfl) (fun b' u hb hu=>(Heap.get?_update_other s.heap (Obj.mapSeq f) (Ne.symm hb)).trans hu) ⟨_,q⟩ ?_
 exact ⟨hz,its',_,hv,q⟩
theorem Inv.lnew {its:List Value} {t':Nat} (I:Inv X pins σ H s) (hv:Vals ys its) (hz:ys.length<=sizeLine) :
  Inv X pins σ (upd H s.heap.objs.size (.lst ys)) { s with heap:=s.heap.push { cls:=.type "list",data:=.seq its.toArray },toks:=t' }:=
 I.laid (fun _ _ q=>Heap.get?_push_of_some _ q) (Nat.le_refl _) ⟨hz,its,0,hv,Heap.get?_push_size _ rfl⟩
theorem Inv.fresh (I:Inv X pins σ H s):H s.heap.objs.size=none:=I.hok.fresh (Nat.le_refl _)
theorem Inv.lstM (I:Inv X pins σ H s) (hH:H l=some (.lst xs)):xs.length<=sizeLine/\∃ (its:List Value) (n:Nat),Vals xs its/\xs.length=its.length/\s.heap.get? l=some { cls:=.type "list",data:=.seq its.toArray n }:=by
 obtain ⟨z,its,n,r,e⟩:=I.hok l _ hH
 exact ⟨z,its,n,r,r.length,e⟩
theorem qh {n:Nat} (h:n<=sizeLine):Builtin.List.listTooLong n=false:=by
 unfold Builtin.List.listTooLong
 exact decide_eq_false (by omega)
end
section
variable {X:Cx}
def rAppend:V->List V->Hp->VK->Prop:=fun x vs H Q=>∃ l xs y,x=.ref l/\vs = [y]/\H l=some (.lst xs)/\xs.length<sizeLine/\Q .non (upd H l (.lst (xs ++ [y])))
theorem aY:MtM X "list.append" rAppend:=by
 intro pins s σ H x vs v us Q I rx rv h
 obtain ⟨l,xs,y,rfl,rfl,hH,hz,q⟩:=h
 cases rx
 obtain ⟨u,rfl,ru⟩:=rv.one
 obtain ⟨z,its,n,r,hl,e⟩:=I.lstM hH
 refine call_meets F.slot_list_append ⟨_,e,rfl⟩ F.entry_list_append (F.args_list_append_2 _ _) (PySem.list_append l its.toArray n u (by rw [List.size_toArray]; omega)) ⟨e,?_⟩
 refine ⟨.non,_,I.lset (its':=its ++ [u]) hH e (by simp) (r.append (.cons ru .nil)) ?_,rfl,q⟩
 rw [List.length_append,List.length_singleton]
 omega
def rRep:R2:=fun x y H Q=>∃ l k xs,x=.ref l/\y=.int k/\H l=some (.lst xs) /\ -(2^63)<=k/\k<2^63/\xs.length*k.toNat<=sizeLine /\
 ∀ p,H p=none->Q (.ref p) (upd H p (.lst (List.replicate k.toNat xs).flatten))
theorem len_rep {α:Type} (xs:List α) (k:Nat):(List.replicate k xs).flatten.length=k*xs.length:=by
 induction k with
 | zero=>simp
 | succ k ih=>rw [List.replicate_succ,List.flatten_cons,List.length_append,ih,Nat.succ_mul,Nat.add_comm]
theorem yt:OpR X (binaryOp .Mult) rRep:=by
 intro pins s σ H x y v u Q I rx ry h
 obtain ⟨l,k,xs,rfl,rfl,hH,h1,h2,hz,q⟩:=h
 cases rx
 obtain ⟨t,rfl⟩:=ry
 obtain ⟨z,its,n,r,hl,e⟩:=I.lstM hH
 have hlen:its.toArray.size*k.toNat<=sizeLine:=by rw [List.size_toArray,<- hl]; exact hz
 have hcap:¬ its.toArray.size*k.toNat>(2^63-1)/8:=by
  have:(sizeLine:Nat)<=(2^63-1)/8:=by decide
  omega
 have hfit:¬ (!Builtin.List.listFitsIndex k)=true:=by
  rw [fitsIndex_both h1 h2]
  exact Bool.false_ne_true
 have hlong:¬ Builtin.List.listTooLong (its.toArray.size*k.toNat)=true:=by
  rw [qh hlen]
  exact Bool.false_ne_true
 have hnew:List.foldl (fun x1 x2=>x1++x2) #[] (List.replicate (if its.toArray.isEmpty=true then 0 else k.toNat) its.toArray)=(List.replicate k.toNat its).flatten.toArray:=by
  have f0:∀ m:Nat,List.foldl (fun x1 x2=>x1++x2) #[] (List.replicate m its.toArray)=(List.replicate m its).flatten.toArray:=fun m=>by
   have:=foldl_rep its m []
   rw [List.nil_append] at this
   exact this
  rw [f0]
  cases its with
  | nil=>simp
  | cons a r'=>rw [if_neg (by simp)]
 refine wpAny_binaryOp_repeat_ref (T := "list") (U := "int") (by decide) ⟨_,e,rfl⟩ (fun s'=>typeIs_int s' k t) noFill_list_mul F.fills_int_mul F.slot_int_rmul repeat_list F.slot_int_index.lookup
  (call_meets F.slot_int_rmul (typeIs_int s k t) F.entry_int_rmul (F.args_int_rmul_2 _ _) (int___rmul___int_list k t l its.toArray n)
   ⟨e,rfl,⟨_,e,rfl⟩,call_meets F.slot_list_mul ⟨_,e,rfl⟩ F.entry_list_mul (F.args_list_mul_2 _ _) (AutoListH.list___mul___list_int_3 l its.toArray n k t hfit hcap hlong) ⟨e,?_⟩⟩)
 rw [hnew]
 exact ⟨.ref _,_,I.lnew (t':=s.toks) (r.rep k.toNat) (by rw [len_rep,Nat.mul_comm]; exact hz),rfl,q _ I.fresh⟩
end
section
variable {prog:Program} {w:World} {A:Around} {E:Value->Shared->Prop} {s:Shared}
end
section
variable {X:Cx}
end
end L2
namespace Att
open PySem PySem.W PySem.Calls PyProof.Rows
theorem dG {P:Params} {h:Heap}:∀ (ns:List Int) (vs:List Value),WellAll P h vs (ns.map WData.int)->IntsAre vs ns:=by
 intro ns
 induction ns with
 | nil=>
  intro vs w
  rw [List.map_nil] at w
  cases w
  exact .nil
 | cons n ns ih=>
  intro vs w
  rw [List.map_cons] at w
  cases w with
  | cons a b=>
   cases a
   exact .cons _ _ (ih _ b)
theorem mD {l:OpenLaw} {n:Nat} (hn:l.most=some n) {P:Params} {h:Heap} {args:List WData} {vals:List Value}
  (hpre:l.row.toRowW.claim.pre args=true) (hwl:WellAll P h vals args) :
  ∃ a vs ns,vals = [Value.ref a]/\args = [WData.list (ns.map WData.int)]/\h.get? a=some { cls:=.type "list",data:=.seq vs.toArray }/\IntsAre vs ns/\ns.length<=n:=by
 have hsh:WShape.hasAll [] args [.list .int]=true:=(pre_splitW hpre).1
 have hc:l.pre.holds [] { args:=args }=true:=(pre_splitW hpre).2
 obtain ⟨d,r,rfl,h1,h2⟩:=hasAllW_cons hsh
 obtain rfl:=hasAllW_nil h2
 obtain ⟨xs,rfl,h3⟩:=hasW_list h1
 obtain ⟨ns,rfl⟩:=items_int h3
 have hlen:ns.length<=n:=by
  unfold OpenLaw.pre at hc
  have h4:(WTm.not (.lt (.lit (.int (n:Int))) (.len (.arg 0)))).holds [] { args:=[.list (ns.map .int)] }=true:=by
   have h4:=(holds_andW hc).1
   rw [hn] at h4
   exact h4
  have h5:=condW_of h4 (w_not (w_lt w_lit (w_len_list (w_arg rfl))))
  rw [List.length_map] at h5
  refine Nat.le_of_not_lt fun q=>?_
  have q':(n:Int)<((ns.length:Nat):Int):=by omega
  first
   | (rw [decide_eq_true q'] at h5; exact absurd h5 (by decide))
   | (simp at h5; omega)
 cases hwl with
 | cons w1 w2=>
  cases w2
  cases w1 with
  | list ho hall=>exact ⟨_,_,ns,rfl,rfl,ho,dG ns _ hall,hlen⟩
theorem mR (l:OpenLaw) (args:List WData):l.row.toRowW.claim.post args (.bool true) args=true:=
 postW_of (r:=l.row.toRowW) (X:=(true == true))
  (show WShape.has [] (.bool true) .bool=true by first | rfl | decide | simp [WShape.has,WShape.arms,WShape.armsAll])
  (show (WTm.eq .res (.lit (.bool true))).value [] { args:=args,res:=some (.bool true),after:=args }=some (.bool (true == true)) from w_eq_bool (w_res rfl) w_lit) rfl
section
variable {prog:Program} {w:World} {A:Around} {E:Value->Shared->Prop} {s:Shared} {K:Frag}
end
end Att
namespace L2
open PySem PySem.Spec PyProof.Rows
theorem lN:∀ {vs:List Value} {ns:List Int},IntsAre vs ns->Vals (ns.map V.int) vs:=by
 intro vs ns h
 induction h with
 | nil=>exact .nil
 | cons n t h ih=>exact .cons ⟨t,rfl⟩ ih
def lG (H:Hp):Prop:=∀ b,H b=none\/(∃ o xs,H b=some (.frz o (.lst xs)))\/∃ k,H b=some (.tbl k)
theorem yF {α β:Type} [BEq α] [LawfulBEq α]:∀ {l:List (α×β)} {n:α} {c:β},l.lookup n=some c->(n,c)∈l
 | (k,v)::r,n,c,h=>by
  rw [List.lookup_cons] at h
  cases hb:n == k with
  | true=>rw [hb] at h; cases h; rw [beq_iff_eq.mp hb]; exact List.mem_cons_self
  | false=>rw [hb] at h; exact List.mem_cons_of_mem _ (yF h)
theorem qA {P:Program} {w:World} {K:Frag} {mg mb:Str->Option Value} {CX:CXT} {k:Nat} {fa a:Addr} {fd:FuncData} {x:Str} {sp:Sp} {s₁:Shared} {vs:List Value} {ns:List Int}
  (KX:K.In s₁.heap) (hns:s₁.heap.Ns mainGlobals mg) (hb:s₁.heap.Ns builtinsNs mb) (hbb:∀ x:Str,x ≠ "__name__" -> mb x=bootBuiltins x) (hlim:s₁.heap.NoLimit) (hg:s₁.gens=#[])
  (hbm:∃ bm o,mg "__builtins__" = some (.ref bm)/\bm≠builtinsNs/\s₁.heap.get? bm=some o/\o.cls=.type "module" /\ o.dict=some builtinsNs/\o.data=.plain)
  (hT:∀ p∈lamT,s₁.heap.get? p.1=some { cls:=.none,data:=.fields #[] }/\isCodeTable s₁.heap p.1/\K.lookup p.1=none/\lamT.lookup p.1=some p.2)
  (ha:s₁.heap.get? a=some { cls:=.type "list",data:=.seq vs.toArray }) (hi:IntsAre vs ns) (hl:ns.length<=sizeLine) (hr:Room k callerA)
  (F:∀ base:Heap,K.In base->base.Ns mainGlobals mg->FnOk P w K mg base CX k fa fd [x] sp) (hbind:∀ (s:Shared) (u:Value),BindsTo s fd ⟨[u],[]⟩ [(x,u)])
  (hsp:∀ H:Hp,lG H->SqL K H a (ns.map V.int)->sp [.ref a] H (fun v _=>v=.bl true) fun _ _ _=>False)
  (hCX:∀ H e s',CX [] H s₁ (fun _ _ _=>False) e s'->False) :
  codeAny (model P w) callerA (.call (.ref fa) ⟨[.ref a],[]⟩) (fun r s'=>r=.ok (.ret (.bool true))/\OldK s₁.heap s'.heap/\s'.os=s₁.os/\AllBare s'.gens) s₁:=by
 have rv:=lN hi
 have lenV:=hi.length
 have tabT:∀ b q,lamT.lookup b=some q->s₁.heap.get? b=some { cls:=.none,data:=.fields #[] }/\isCodeTable s₁.heap b/\K.lookup b=none:=fun b q e=>by
  have hm:=yF e
  exact ⟨(hT _ hm).1,(hT _ hm).2.1,(hT _ hm).2.2.1⟩
 -- from an abstract heap in which nothing but the script and the tables may be tracked
 have core:∀ H:Hp,lG H->SqL K H a (ns.map V.int)->HOk P w H s₁.heap->(∀ b,H b≠none->b=a\/∃ q,lamT.lookup b=some q)->(∀ b,H b≠none->K.lookup b=none)->(∀ b q,H b=some (.tbl q)->lamT.lookup b=some q)->(∀ p∈lamT,H p.1=some (.tbl p.2)) ->
   codeAny (model P w) callerA (.call (.ref fa) ⟨[.ref a],[]⟩) (fun r s'=>r=.ok (.ret (.bool true))/\OldK s₁.heap s'.heap/\s'.os=s₁.os/\AllBare s'.gens) s₁:=by
  intro H hO hS hok hA hK hB hTb
  have base_of:∀ {b:Addr} {o:Obj},s₁.heap.get? b=some o->H b=none->(Z5 s₁.heap H).get? b=some o:=fun e n=>qL e n
  have noX:∀ {b:Addr} {o:Obj},s₁.heap.get? b=some o->(∀ its n,o.data≠.seq its n)->(∀ ps,o.data≠.fields ps)->H b=none:=fun {b o} e d1 d2=>by
   cases q:H b with
   | none=>rfl
   | some u=>
    rcases hA b (by rw [q]; simp) with e' | ⟨y,e'⟩
    ·subst e'
     rw [ha] at e; cases e
     exact absurd rfl (d1 _ _)
    ·rw [(tabT b y e').1] at e; cases e
     exact absurd rfl (d2 _)
  have noA:∀ {b:Addr} {o:Obj} {es:Array DictEntry} {ep:Nat},s₁.heap.get? b=some o->o.data=.dict es ep->H b=none:=fun {b o es ep} e d=>noX e (fun _ _ z=>by rw [d] at z; cases z) fun _ z=>by rw [d] at z; cases z
  have nsK:∀ {b:Addr} {m:Str->Option Value},s₁.heap.Ns b m->(Z5 s₁.heap H).Ns b m:=fun {b m} zz51=>by obtain ⟨o,es,ep,e,d,r⟩:=zz51; exact ⟨o,es,ep,base_of e (noA e d),d,r⟩
  have hKb:K.In (Z5 s₁.heap H):=fun b o e=>base_of (KX b o e) (by
   cases q:H b with
   | none=>rfl
   | some u=>rw [hK b (by rw [q]; simp)] at e; cases e)
  have hM:Mod K mg (Z5 s₁.heap H):=⟨hKb,nsK hns,⟨mb,nsK hb,hbb⟩,let ⟨mc,h1,h2⟩:=hlim; ⟨mc,nsK h1,h2⟩,let ⟨bm,o,b1,b2,b3,b4,b5,b6⟩:=hbm; ⟨bm,o,b1,b2,base_of b3 (noX b3 (fun _ _ z=>by rw [b6] at z; cases z) fun _ z=>by rw [b6] at z; cases z),b4,b5,b6⟩⟩
  have e0:lH P w K mg (Z5 s₁.heap H) callerA [] s₁ H:=⟨rfl,hM,fun b o e=>uG e,Nat.le_of_eq (nU _ _),trivial,fun b hb=>absurd (show b∈([]:List Addr) from hb) (by simp),hok,.of_eq hg,hTb⟩
  refine codeAny_mono ((F _ hKb (nsK hns)).run callerA [] s₁ H ⟨[.ref a],[]⟩ [.ref a] [.ref a] _ _ hr e0 (hbind s₁ (.ref a)) (.cons rfl .nil) (hsp H hO hS)) fun r s' h=>?_
  cases r with
  | error e=>exact (hCX H e s' h).elim
  | ok fl=>
   cases fl with
   | next=>exact False.elim h
   | brk=>exact False.elim h
   | cont=>exact False.elim h
   | ret u=>
    obtain ⟨v,H',os,bare,un,hok',r',q⟩:=h
    have q':v=.bl true:=q
    subst q'
    obtain rfl:u=Value.bool true:=r'
    have key:∀ b o,s₁.heap.get? b=some o->asItWas s₁.heap s'.heap b o:=fun b o e=>by
     cases q:H b with
     | none=>exact .inl (un.keep b o e q (by intro z; exact absurd (show b∈([]:List Addr) from z) (by simp)) (by simp))
     | some u=>
      rcases hO b with z | ⟨ob,xs,z⟩ | ⟨y,z⟩
      ·rw [q] at z; cases z
      ·have z2:=un.frzs b ob _ z
       obtain ⟨e1,_⟩:=hok b _ z
       obtain ⟨e2,_⟩:=hok' b _ z2
       rw [e] at e1; cases e1
       exact .inl e2
      ·have z2:=un.tbls b _ z
       obtain ⟨ps,e2,_⟩:=hok' b _ z2
       obtain ⟨t1,t2,_⟩:=tabT b y (hB b y z)
       rw [t1] at e; cases e
       exact .inr (.inl ⟨t2,rfl,#[],ps,rfl,by rw [e2]; simp⟩)
    refine ⟨rfl,⟨key,fun b o e=>un.there b o e (by simp)⟩,os,bare⟩
 have tobj:∀ (H:Hp) b q,lamT.lookup b=some q->ObjOk P w H s₁.heap b (.tbl q):=fun H b q e=>⟨#[],(tabT b q e).1,.inl rfl⟩
 cases hk:K.lookup a with
 | some o=>
  -- the script is one of the module's own objects
  have e:=KX a o hk
  rw [ha] at e
  cases e
  refine core (fun b=>(lamT.lookup b).map .tbl) (fun b=>?_) (.inr ⟨_,vs.toArray,_,hk,rfl,rfl,rfl,by rw [List.size_toArray,lenV]; exact hl,by simpa using rv⟩) (fun b u z=>?_) (fun b z=>?_) (fun b z=>?_) (fun b y z=>?_) fun p hp=>?_
  ·cases q:lamT.lookup b with
   | none=>exact .inl (by show (lamT.lookup b).map HO.tbl=_; rw [q]; rfl)
   | some y=>exact .inr (.inr ⟨y,by show (lamT.lookup b).map HO.tbl=_; rw [q]; rfl⟩)
  ·obtain ⟨y,e1,rfl⟩:=Option.map_eq_some_iff.mp z
   exact tobj _ b y e1
  ·cases q:lamT.lookup b with
   | none=>exact absurd (by rw [q]; rfl) z
   | some y=>exact .inr ⟨y,rfl⟩
  ·cases q:lamT.lookup b with
   | none=>exact absurd (by rw [q]; rfl) z
   | some y=>exact (tabT b y q).2.2
  ·obtain ⟨y',e1,e2⟩:=Option.map_eq_some_iff.mp z
   cases e2; exact e1
  ·show (lamT.lookup p.1).map HO.tbl=_
   rw [(hT p hp).2.2.2]; rfl
 | none=>
  have na:∀ b y,lamT.lookup b=some y->b≠a:=fun b y e z=>by
   have:=(tabT b y e).1
   rw [z,ha] at this; cases this
  refine core (fun b=>if b=a then some (.frz { cls:=.type "list",data:=.seq vs.toArray } (.lst (ns.map V.int))) else (lamT.lookup b).map .tbl) (fun b=>?_) (.inl (.inr ⟨{ cls:=.type "list",data:=.seq vs.toArray },if_pos rfl⟩)) (fun b u z=>?_) (fun b z=>?_) (fun b z=>?_) (fun b y z=>?_) fun p hp=>?_
  ·by_cases hb:b=a
   ·exact .inr (.inl ⟨_,_,if_pos hb⟩)
   ·dsimp only
    rw [if_neg hb]
    cases q:lamT.lookup b with
    | none=>exact .inl rfl
    | some y=>exact .inr (.inr ⟨y,rfl⟩)
  ·by_cases hb:b=a
   ·have z':=(if_pos hb).symm.trans z
    cases z'
    subst hb
    exact ⟨ha,by rw [List.length_map]; exact hl,vs,_,rv,ha⟩
   ·have z':=(if_neg hb).symm.trans z
    obtain ⟨y,e1,rfl⟩:=Option.map_eq_some_iff.mp z'
    exact tobj _ b y e1
  ·by_cases hb:b=a
   ·exact .inl hb
   ·cases q:lamT.lookup b with
    | none=>exact absurd (by rw [if_neg hb,q]; rfl) z
    | some y=>exact .inr ⟨y,rfl⟩
  ·by_cases hb:b=a
   ·rw [hb]; exact hk
   ·cases q:lamT.lookup b with
    | none=>exact absurd (by rw [if_neg hb,q]; rfl) z
    | some y=>exact (tabT b y q).2.2
  ·by_cases hb:b=a
   ·have z':=(if_pos hb).symm.trans z
    cases z'
   ·have z':=(if_neg hb).symm.trans z
    obtain ⟨y',e1,e2⟩:=Option.map_eq_some_iff.mp z'
    cases e2; exact e1
  ·have hp2:=(hT p hp).2.2.2
   show (if p.1=a then _ else (lamT.lookup p.1).map HO.tbl)=_
   rw [if_neg (na _ _ hp2),hp2]; rfl
end L2
namespace L2
open PySem PySem.Spec PyProof.Rows
end L2
namespace L2
open PySem PySem.Spec PyProof.Rows
def M4 (s:Stmt):Arguments:=match s with
 | .FunctionDef _ a _ _ _ _ _ _ _ _=>a
 | _=>{ posonlyargs:=[],args:=[],vararg:=none,kwonlyargs:=[],kw_defaults:=[],kwarg:=none,defaults:=[] }
def C1 (s:Stmt):List Stmt:=match s with
 | .FunctionDef _ _ b _ _ _ _ _ _ _=>b
 | _=>[]
def c0 (s:Stmt):Scope:=match s with
 | .FunctionDef _ _ _ _ _ _ sc _ _ _=>sc
 | _=>{ kind:=.function,names:=[],isGenerator:=false,isCoroutine:=false }
abbrev CX0:CXT:=fun _ _ _ _ _ _=>False
abbrev E0:XK:=fun _ _ _=>False
theorem BD {X:Cx}:jc CX0 X E0:=fun _ _ _ _ _ _ _ h=>h.elim
structure Fun (K:Frag) (x qual:Str) (st:Stmt) (f:Addr) (fd:FuncData):Prop where
 ex:∃ (oc:Value) (od:Option Addr) (kV doc pm:Value) (an:Option Addr) (cdv ct:Value) (osl:Array (Option Value)),
  fd=PySem.W.fnOf x qual (M4 st) (C1 st) (c0 st) .none kV doc pm an cdv ct/\K.lookup f=some ⟨oc,od,.func fd,osl⟩/\PySem.W.codeIn K cdv qual=true
 kp:PySem.W.keepIn K (.ref f)=true
section
variable {P:Program} {w:World} {K:Frag} {mg:Str->Option Value} {base:Heap}
theorem Fun.ok {x qual:Str} {st:Stmt} {f:Addr} {fd:FuncData} {N ps:List Str} {k:Nat} {sp:Sp} (F:Fun K x qual st f fd) (S:f9 N ps (c0 st)) (len:∀ vs H Q E,sp vs H Q E->vs.length=ps.length)
  (hbody:∀ (cdv:Value) (A:Around) (outer:List Env) (s:Shared) (H:Hp) (vs:List V) (Q:VK) (E:XK),Room k (A.deeper (envOfC qual (c0 st) s.heap.objs.size f cdv))->sp vs H Q E ->
   ∃ t,PSs (ac CX0 P w K mg base N qual (c0 st) f cdv A outer s H E).nox (C1 st) t/\t { nx:=fun _ H'=>Q .non H',rt:=Q } (start N vs) H):FnOk P w K mg base CX0 (k+1) f fd ps sp:=by
 obtain ⟨oc,od,kV,doc,pm,an,cdv,ct,osl,rfl,lk,hcd⟩:=F.ex
 refine sC lk hcd S len fun A outer s H vs Q E hr hsp=>?_
 obtain ⟨t,h,q⟩:=hbody cdv A outer s H vs Q E hr hsp
 exact ⟨t,h.nox,q⟩
theorem Fun.binds {x qual:Str} {st:Stmt} {f:Addr} {fd:FuncData} {ps:List Str} (F:Fun K x qual st f fd)
  (h:∀ (kV doc pm:Value) (an:Option Addr) (cdv ct:Value) (us:List Value),us.length=ps.length->bindArgs (PySem.W.fnOf x qual (M4 st) (C1 st) (c0 st) .none kV doc pm an cdv ct) ⟨us,[]⟩=pure (ps.zip us)):Binds K fd ps []:=by
 obtain ⟨oc,od,kV,doc,pm,an,cdv,ct,osl,rfl,lk,hcd⟩:=F.ex
 exact .all (h kV doc pm an cdv ct)
theorem zE {x qual:Str} {st:Stmt} {f:Addr} {oc:Value} {od an:Option Addr} {osl:Array (Option Value)} {kV doc pm cdv ct:Value} (l:K.lookup f=some ⟨oc,od,.func (PySem.W.fnOf x qual (M4 st) (C1 st) (c0 st) .none kV doc pm an cdv ct),osl⟩)
  (c:PySem.W.codeIn K cdv qual=true) (k:PySem.W.keepIn K (.ref f)=true):Fun K x qual st f (PySem.W.fnOf x qual (M4 st) (C1 st) (c0 st) .none kV doc pm an cdv ct):=⟨⟨oc,od,kV,doc,pm,an,cdv,ct,osl,rfl,l,c⟩,k⟩
end
section
variable {X:Cx}
theorem pv (i:Nat) {x:Str} {pos:Pos} (hN:X.N[i]?=some x:=by rfl) (hv:Vis X.env.scope x:=by first | exact Or.inl rfl | exact Or.inr (Or.inl rfl) | exact Or.inr (Or.inr rfl)) (hd:(x == ("__debug__" : Str))=false:=by decide)
  (hcd:(x == ("__classdict__" : Str))=false:=by decide):PE X (.Name x pos) (U3 i):=W7 hN hv hd hcd
end
def Same (H H':Hp):Prop:=∀ b o,H b=some o->H' b=some o
theorem Same.refl (H:Hp):Same H H:=fun _ _ h=>h
theorem Same.trans {H H1 H2:Hp} (a:Same H H1) (b:Same H1 H2):Same H H2:=fun c o h=>b c o (a c o h)
theorem Same.free {H H':Hp} (e:Same H H') {l:Addr} (h:H' l=Option.none):H l=Option.none:=by
 cases q:H l with
 | none=>rfl
 | some o=>
  rw [e l o q] at h
  cases h
theorem Same.seq {K:Frag} {H H':Hp} {a:Addr} {xs:List V} (e:Same H H') (h:SqL K H a xs):SqL K H' a xs:=by
 rcases h with (h | ⟨o,h⟩) | h
 ·exact .inl (.inl (e _ _ h))
 ·exact .inl (.inr ⟨o,e _ _ h⟩)
 ·exact .inr h
end L2
namespace L2
open PySem PySem.Spec PyProof.Rows
def Dk (h h':Heap):Prop:=∀ b o,h.get? b=some o->∃ o',h'.get? b=some o'/\o'.cls=o.cls/\o'.dict=o.dict
structure KD {α:Type} (t:Sem α):Prop where
 out:∀ (M:Model) (Γ:PySem.Ctx) (P:α->Pos->Shared->Prop) (Ee:Value->Pos->Shared->Prop) (p:Pos) (s:Shared),
  Sem.wp M Γ t P Ee p s->Sem.wp M Γ t (fun a p' s'=>P a p' s'/\Dk s.heap s'.heap) Ee p s
def cut (h:Heap) (fs:List Addr):Heap:={ h with objs:=h.objs.mapIdx fun i o=>if i∈fs then { o with data:=.freed } else o }
section
variable {P:Program} {w:World} {K:Frag} {mg:Str->Option Value} {base:Heap} {N:List Str} {qual:Str} {scope:Scope} {f:Addr} {cd:Value} {A:Around} {outer:List Env} {s:Shared} {H:Hp} {E:XK}
 {pins:List (Addr×Obj)} {σ:St} {H':Hp} {s2:Shared} {a:Addr}
end
end L2
namespace L2
open PySem PySem.Spec PyProof.Rows
section
variable {prog:Program} {w:World} {A:Around} {E:Value->Shared->Prop} {s:Shared} {K:Frag} {x C:Addr} {ox:Obj} {od:Option Obj} {name:Str} {tk:Tok} {fill expr:Bool} {v:Value} {Q:Value->Shared->Prop}
end
end L2
namespace L2
open PySem PySem.Spec PyProof.Rows
section
variable {prog:Program} {w:World} {A:Around} {E:Value->Shared->Prop} {s:Shared} {K:Frag} {x C:Addr} {ox:Obj} {name:Str} {tk:Tok} {v:Value} {Q:Unit->Shared->Prop}
end
end L2
namespace L2
open PySem PySem.Spec PyProof.Rows
section
variable {prog:Program} {w:World} {A:Around} {s:Shared} {K:Frag} {C f:Addr} {R:Result->Shared->Prop} {nm q:Str} {N:Addr} {bs bm bmB:List Value} {hdct:Bool} {sn:List Str} {sub:List Value} {ab:Bool} {col:Option Bool} {dd:Option Addr} {k0 k1 k2 k3 k5:Option Value}
 {B Bn newId nid initId inN:String} {bmN:List Value} {rest:List Value}
end
end L2
namespace L2
open PySem PySem.Spec PyProof.Rows
section
variable {prog:Program} {w:World} {A:Around} {E:Value->Shared->Prop} {s:Shared} {K:Frag} {env:Env} {x:Expr} {pos:Pos} {Q:Flow->Shared->Prop}
end
end L2
namespace L2
open PySem PySem.Spec PyProof.Rows
section
variable {X:Cx} {pins:List (Addr×Obj)} {σ σ':St} {H:Hp} {s:Shared}
theorem bE {b:Addr} {o:Obj} (I:Inv X pins σ H s) (e:X.s₀.heap.get? b=some o):b≠X.env.locals:=by
 intro z
 have l:=Heap.lt_size e
 have a:=I.ok.above
 rw [<- z] at a
 exact absurd l (Nat.not_lt.mpr a)
theorem Inv.reloc {h':Heap} {tk:Nat} {m':Str->Option Value} (I:Inv X pins σ H s) (hs:Heap.SameBut X.env.locals s.heap h') (hn:h'.Ns X.env.locals m') (hl:σ'.length=σ.length)
  (lk:∀ (i:Nat) (x:Str) (v:V),X.N[i]?=some x->σ'[i]?=some (some v)->Vis X.env.scope x->∃ u,RelV v u/\Look X.env h' m' x u):Inv X pins σ' H { s with heap:=h',toks:=tk } where
 ok:=I.ok
 os:=I.os
 bare:=I.bare
 base:={
  keep:=fun b o e n p q=>(hs.2 b (bE I e)).trans (I.base.keep b o e n p q)
  slot:=fun b o e n p q=>by
   obtain ⟨sl,y⟩:=I.base.slot b o e n p q
   exact ⟨sl,(hs.2 b (bE I e)).trans y⟩
  free:=I.base.free
  there:=fun b o e q=>by
   obtain ⟨o',y⟩:=I.base.there b o e q
   exact ⟨o',(hs.2 b (bE I e)).trans y⟩
  tups:=I.base.tups
  frzs:=I.base.frzs
  tbls:=I.base.tbls }
 loc:=⟨m',hn,lk⟩
 cell:=fun x c e=>by
  obtain ⟨v,z⟩:=I.cell x c e
  exact ⟨v,z.sameBut hs (I.cne x c e)⟩
 free:=I.free
 freeC:=I.freeC
 pin:=fun p hp=>by
  obtain ⟨a,b,c,d⟩:=I.pin p hp
  exact ⟨(hs.2 p.1 c).trans a,b,c,d⟩
 hok:=fun b ob e=>by
  have key:∀ c,(∃ q,H c=some q)->c≠X.env.locals:=fun c zz52 z=>by obtain ⟨q,hq⟩:=zz52; rw [z,I.free] at hq; cases hq
  exact (I.hok b ob e).stay (fun c u hc q=>(hs.2 c (key c (hc.elim (fun z=>⟨ob,z ▸ e⟩) fun z=>⟨_,z⟩))).trans q) (fun _ q=>q) fun _ _ q=>q
 len:=hl.trans I.len
theorem eT {M:Model} {A:Around} {E:Value->Shared->Prop} {i:Nat} {x:Str} {pos:Pos} {Q:Unit->Shared->Prop} (I:Inv X pins σ H s) (hN:X.N.Nodup) (hi:X.N[i]?=some x) (hk:X.env.kindOf x=some .local)
  (hq:∀ s',Inv X pins (σ.set i none) H s'->Q () s'):wpAny M A (do bindName X.env x Value.none; unbindBehindTheSuite X.env x pos) Q E s:=by
 have hcls:(X.env.scope.kind == .class||(X.env.scope.kind == .module&&X.env.locals != X.env.globals))=false:=by rw [I.ok.kind]; rfl
 have hiσ:i<σ.length:=by rw [I.len]; exact (List.getElem?_eq_some_iff.mp hi).1
 unfold bindName
 refine wpAny_bind (wpAny_bind (wpAny_holding (wpAny_point (wpAny_bind (Y2 (v:=.non) I hN hi (.inl hk) rfl (fun s1 I1=>?_) (.inr hk))))))
 refine wpAny_point ?_
 unfold unbindBehindTheSuite
 obtain ⟨m,hn,lk⟩:=I1.loc
 obtain ⟨u,ru,l⟩:=lk i x .non hi (List.getElem?_set_self hiσ) (.inl hk)
 have hm:m x=some u:=by
  rcases l with ⟨_,e⟩ | ⟨k,_⟩
  ·exact e
  ·rcases k with k | k <;> (rw [hk] at k; cases k)
 refine wpAny_onRaise (wpAny_unbindName_local hk hn hm hcls fun h' z hn' hs=>hq _ (Inv.reloc (tk:=s1.toks) I1 hs hn' (by simp) fun j y v e1 e2 e3=>?_))
 by_cases hj:j=i
 ·subst hj
  rw [List.getElem?_set_self hiσ] at e2
  cases e2
 ·rw [List.getElem?_set_ne (Ne.symm hj)] at e2
  obtain ⟨u',r',q⟩:=lk j y v e1 (by rw [List.getElem?_set_ne (Ne.symm hj)]; exact e2) e3
  refine ⟨u',r',?_⟩
  rcases q with ⟨k,e⟩ | ⟨k,c,e,z⟩
  ·refine .inl ⟨k,?_⟩
   have:y≠x:=fun e=>hj (cN hN e1 (e ▸ hi))
   simp [this,e]
  ·exact .inr ⟨k,c,e,z.sameBut hs (I1.cne y c e)⟩
end
end L2
namespace L2
open PySem PySem.Spec PyProof.Rows
section
variable {X:Cx} {pins:List (Addr×Obj)} {σ:St} {H H':Hp} {s s1:Shared}
end
end L2
namespace L2
open PySem PySem.Spec PyProof.Rows
section
variable {X:Cx} {pins:List (Addr×Obj)} {σ:St} {H H':Hp} {s s1:Shared} {a:Addr} {B:Heap} {cls:Value} {od:Option Addr}
structure Here (X:Cx) (pins:List (Addr×Obj)) (σ:St) (H':Hp) (a:Addr) (B:Heap) (cls:Value) (od:Option Addr) (s:Shared):Prop where
 inv:Inv X pins σ H' s
 dict:∃ o,s.heap.get? a=some o/\o.dict=od
end
end L2
namespace L2
open PySem PySem.Spec PyProof.Rows
section
variable {X:Cx} {k:Nat} {f:Addr} {fd:FuncData} {ps:List Str} {sp:Sp} {fn cn n y:Str} {fp cp ap np hpos yp pos:Pos} {e:Expr} {es:List Expr} {t:TA} {C:Addr} {i jn:Nat} {b0:Stmt} {suite:List Stmt} {tb:TS}
def tCatch (X:Cx) (C:Addr) (jn:Nat) (tb:TS) (D:Ends) (σ:St):XK:=fun cls od H'=>∃ Dc,cls=.ref Dc/\PySem.W.exmOne X.K (.ref Dc) (.ref C)=some true /\
 ∀ (a:Addr) (o:Obj),H' a=none->o.cls=cls->o.dict=od->(∃ vs:Array Value,o.data=.fields vs) ->
  tb { nx:=fun σ' H'=>D.nx (σ'.set jn none) H',rt:=D.rt,bk:=fun σ' H'=>D.bk (σ'.set jn none) H',ct:=fun σ' H'=>D.ct (σ'.set jn none) H' } (σ.set jn (some (.ref a))) (upd H' a (.ext fun h=>h.get? a=some o))
end
end L2
namespace L2
open PySem PySem.Spec PyProof.Rows
section
variable {X:Cx} {pins:List (Addr×Obj)} {σ:St} {H:Hp} {s:Shared}
end
end L2
namespace L2
open PySem PySem.Spec PyProof.Rows
section
variable {X:Cx}
end
end L2
namespace L2
open PySem PySem.Spec PyProof.Rows
section
variable {X:Cx} {pins:List (Addr×Obj)} {σ:St} {H:Hp} {s:Shared}
end
end L2
namespace L2
open PySem PySem.Spec PyProof.Rows
section
variable {P:Program} {w:World} {K:Frag} {mg:Str->Option Value} {base:Heap} {N:List Str} {qual:Str} {scope:Scope} {f0:Addr} {cd:Value} {A:Around} {outer:List Env} {s0:Shared} {H0:Hp} {E:XK}
 {k:Nat} {C f:Addr} {fd:FuncData} {ps:List Str} {sp:Sp} {cn:Str} {np cp pos:Pos} {e:Expr} {es:List Expr} {t:TA}
end
end L2
namespace L2
open PySem PySem.Spec PyProof.Rows
section
variable {P:Program} {w:World} {K:Frag} {mg:Str->Option Value} {base:Heap} {k:Nat} {f:Addr} {fd:FuncData} {ps N:List Str} {sp:Sp} {CX:CXT}
end
end L2
namespace L2
open PySem PySem.Spec PyProof.Rows
section
variable {X:Cx} {o:Expr} {ta:TE} {name:Str} {pos:Pos}
end
end L2
namespace L2
open PySem PySem.Spec PyProof.Rows
section
variable {X:Cx} {pins:List (Addr×Obj)} {σ:St} {H:Hp} {s:Shared} {A:Around} {E:Value->Shared->Prop} {Q:Value->Shared->Prop} {c:Value} {b:Bool} {a C:Addr} {ox:Obj} {vs:Array Value}
end
end L2
namespace L2
open PySem PySem.Spec PyProof.Rows
section
variable {P:Program} {w:World} {K:Frag} {mg:Str->Option Value} {base:Heap} {N:List Str} {qual:Str} {scope:Scope} {f0:Addr} {cd:Value} {A:Around} {outer:List Env} {s0:Shared} {H0:Hp} {E:XK}
 {C:Addr} {cn:Str} {np cp pos:Pos} {e:Expr} {es:List Expr} {t:TA}
end
end L2
namespace L2
open PySem
structure Nx {α:Type} (t:Sem α):Prop where
 out:∀ (M:Model) (Γ:PySem.Ctx) (P:α->Pos->Shared->Prop) (Ee Ef:Value->Pos->Shared->Prop) (p:Pos) (s:Shared),Sem.wp M Γ t P Ee p s->Sem.wp M Γ t P Ef p s
structure Po {α:Type} (t:Sem α) (pre:Shared->Prop) (post:α->Shared->Prop):Prop where
 out:∀ (M:Model) (Γ:PySem.Ctx) (P:α->Pos->Shared->Prop) (Ee Ef:Value->Pos->Shared->Prop) (p:Pos) (s:Shared),
  pre s->Sem.wp M Γ t P Ee p s->Sem.wp M Γ t (fun a p' s'=>P a p' s'/\post a s') Ef p s
def sS (v:Value) (i:Nat) (x:Value) (h:Heap):Prop:=∃ (a:Addr) (o:Obj) (vs:Array Value),v=.ref a/\h.get? a=some o/\o.data=.fields vs/\vs[i]?=some x
def Marked (e:Value) (f:Addr) (h:Heap):Prop:=∃ t,sS e 1 t h/\sS t 3 (rawInt f) h/\t≠.none
structure Free {α:Type} (t:Sem α):Prop where
 out:∀ (M:Model) (Γ Γ':PySem.Ctx) (P P':α->Pos->Shared->Prop) (E E':Value->Pos->Shared->Prop) (p p':Pos) (s:Shared),(∀ a p p' s,P a p s->P' a p' s)->(∀ a p p' s,E a p s->E' a p' s)->Sem.wp M Γ t P E p s->Sem.wp M Γ' t P' E' p' s
end L2
namespace L2
open PySem PySem.Spec PyProof.Rows
section
variable {X:Cx} {k:Nat} {f:Addr} {fd:FuncData} {ps:List Str} {sp:Sp} {fn cn n y:Str} {fp cp ap np hpos yp pos:Pos} {e:Expr} {es:List Expr} {t:TA} {C:Addr} {i jn:Nat} {b0:Stmt} {suite:List Stmt} {tb:TS}
end
end L2
namespace L2
open PySem PySem.Spec PyProof.Rows
section
variable {X:Cx} {k:Nat} {C f:Addr} {fd:FuncData} {ps:List Str} {sp:Sp} {cn:Str} {np cp pos:Pos} {e:Expr} {es:List Expr} {t:TA}
end
end L2
namespace L2
open PySem PySem.Spec PyProof.Rows
section
variable {κ:Type} [DecidableEq κ]
def Q0 (kvs:List (κ×V)) (k:κ):Option V:=(kvs.find? fun kv=>decide (kv.1=k)).map (·.2)
def putK (kvs:List (κ×V)) (k:κ) (v:V):List (κ×V):=
 if (kvs.any fun kv=>decide (kv.1=k))=true then kvs.map (fun kv=>if kv.1=k then (kv.1,v) else kv) else kvs ++ [(k,v)]
def dropK (kvs:List (κ×V)) (k:κ):List (κ×V):=kvs.filter fun kv=>decide (kv.1≠k)
theorem cD {p:κ×V} {r:List (κ×V)} {k:κ} (e:p.1=k):Q0 (p::r) k=some p.2:=by simp [Q0,List.find?_cons,e]
theorem cE {p:κ×V} {r:List (κ×V)} {k:κ} (e:¬ p.1=k):Q0 (p::r) k=Q0 r k:=by simp [Q0,List.find?_cons,e]
theorem cF (k:κ):∀ kvs:List (κ×V),(kvs.any fun kv=>decide (kv.1=k))=(Q0 kvs k).isSome
 | []=>rfl
 | p::r=>by
  rw [List.any_cons]
  by_cases e:p.1=k
  ·simp only [cD e,decide_eq_true e,Bool.true_or,Option.isSome_some]
  ·rw [cE e,decide_eq_false e,Bool.false_or]; exact cF k r
theorem cj (kvs:List (κ×V)) (k:κ) (v:V):(putK kvs k v).length<=kvs.length+1:=by
 unfold putK
 split
 ·rw [List.length_map]; omega
 ·rw [List.length_append,List.length_cons,List.length_nil]; omega
theorem RelO.isSome_eq {o:Option V} {u:Option Value} (r:RelO o u):o.isSome=u.isSome:=by
 cases o with
 | none=>cases u with
  | none=>rfl
  | some _=>exact (show False from r).elim
 | some _=>cases u with
  | none=>exact (show False from r).elim
  | some _=>rfl
theorem KV.val {kvs:List (κ×V)} {vs:List (κ×Value)} (r:KV kvs vs) (k:κ):RelO (Q0 kvs k) (valueAt vs k):=by
 unfold KV at r
 induction r with
 | nil=>exact True.intro
 | @cons p q ps qs h t ih=>
  obtain ⟨h1,h2⟩:=h
  by_cases e:p.1=k
  ·have e':q.1=k:=h1.symm.trans e
   have b:valueAt (q::qs) k=some q.2:=by simp [valueAt,List.find?_cons,e']
   rw [cD e,b]; exact h2
  ·have e':¬ q.1=k:=fun z=>e (h1.trans z)
   have b:valueAt (q::qs) k=valueAt qs k:=by simp [valueAt,List.find?_cons,e']
   rw [cE e,b]; exact ih
theorem KV.any {kvs:List (κ×V)} {vs:List (κ×Value)} (r:KV kvs vs) (k:κ):(kvs.any fun kv=>decide (kv.1=k))=vs.any fun kv=>decide (kv.1=k):=by
 unfold KV at r
 induction r with
 | nil=>rfl
 | cons h t ih=>rw [List.any_cons,List.any_cons,ih,h.1]
theorem KV.repl {kvs:List (κ×V)} {vs:List (κ×Value)} (r:KV kvs vs) (k:κ) {y:V} {u:Value} (ry:RelV y u) :
  KV (kvs.map fun kv=>if kv.1=k then (kv.1,y) else kv) (vs.map fun kv=>if kv.1=k then (kv.1,u) else kv):=by
 unfold KV at r ⊢
 induction r with
 | nil=>exact .nil
 | @cons p q ps qs h t ih=>
  rw [List.map_cons,List.map_cons]
  refine .cons ?_ ih
  obtain ⟨h1,h2⟩:=h
  by_cases e:p.1=k
  ·rw [if_pos e,if_pos (h1.symm.trans e)]; exact ⟨h1,ry⟩
  ·rw [if_neg e,if_neg (fun z=>e (h1.trans z))]; exact ⟨h1,h2⟩
theorem KV.put {kvs:List (κ×V)} {vs:List (κ×Value)} (r:KV kvs vs) (k:κ) {y:V} {u:Value} (ry:RelV y u):KV (putK kvs k y) (stored vs k u):=by
 unfold putK stored
 rw [r.any k]
 by_cases e:(vs.any fun kv=>decide (kv.1=k))=true
 ·rw [if_pos e,if_pos e]; exact r.repl k ry
 ·rw [if_neg e,if_neg e]; exact Paired.snoc r ⟨rfl,ry⟩
theorem KV.length {kvs:List (κ×V)} {vs:List (κ×Value)} (r:KV kvs vs):kvs.length=vs.length:=Paired.length r
end
theorem kW {P:Program} {w:World} {k:Key} {u:Value} (r:RelV (kV k) u):(v7 P w).is k u=true:=by
 cases k with
 | inl i=>obtain ⟨t,e⟩:=(show ∃ t,u=Value.int i t from r); subst e; exact jk P w i t
 | inr x=>obtain ⟨t,e⟩:=(show ∃ t,u=Value.str x t from r); subst e; exact jj P w x t
theorem fH {P:Program} {w:World}:∀ {ks:List Key} {us:List Value},Vals (ks.map kV) us->ItemsAre (v7 P w) ks us
 | [],_,r=>by rw [List.map_nil] at r; cases r; exact .nil
 | k::ks,_,r=>by
  rw [List.map_cons] at r
  cases r with
  | cons h t=>exact .cons (kW h) (fH t)
abbrev KT (H:Hp):List (List Key×V)->List (List Key×Addr×Value)->Prop:=Paired fun p q=>p.1=q.1/\H q.2.1=some (.tup (p.1.map kV))/\RelV p.2 q.2.2
theorem KT.val {H:Hp} {kvs:List (List Key×V)} {xs:List (List Key×Addr×Value)} (r:KT H kvs xs) (k:List Key):RelO (Q0 kvs k) ((atKey xs k).map (·.2)):=by
 induction r with
 | nil=>exact True.intro
 | @cons p q ps qs h t ih=>
  obtain ⟨h1,_,h2⟩:=h
  by_cases e:p.1=k
  ·have e':q.1=k:=h1.symm.trans e
   have b:atKey (q::qs) k=some q.2:=by simp [atKey,List.find?_cons,e']
   rw [cD e,b]; exact h2
  ·have e':¬ q.1=k:=fun z=>e (h1.trans z)
   have b:atKey (q::qs) k=atKey qs k:=by simp [atKey,List.find?_cons,e']
   rw [cE e,b]; exact ih
theorem KT.repl {H:Hp} {kvs:List (List Key×V)} {xs:List (List Key×Addr×Value)} (r:KT H kvs xs) (k:List Key) {y:V} {u:Value} (ry:RelV y u) :
  KT H (kvs.map fun kv=>if kv.1=k then (kv.1,y) else kv) (xs.map (putAt k u)):=by
 induction r with
 | nil=>exact .nil
 | @cons p q ps qs h t ih=>
  rw [List.map_cons,List.map_cons]
  refine .cons ?_ ih
  obtain ⟨h1,h2,h3⟩:=h
  unfold putAt
  by_cases e:p.1=k
  ·rw [if_pos e,if_pos (h1.symm.trans e)]; exact ⟨h1,h2,ry⟩
  ·rw [if_neg e,if_neg (fun z=>e (h1.trans z))]; exact ⟨h1,h2,h3⟩
theorem KT.put {H:Hp} {kvs:List (List Key×V)} {xs:List (List Key×Addr×Value)} (r:KT H kvs xs) (k:List Key) {b:Addr} {y:V} {u:Value} (hb:H b=some (.tup (k.map kV))) (ry:RelV y u) :
  KT H (putK kvs k y) (storedH xs k b u):=by
 have e:(kvs.any fun kv=>decide (kv.1=k))=(atKey xs k).isSome:=by
  rw [cF,(r.val k).isSome_eq,Option.isSome_map]
 unfold putK storedH
 rw [e]
 by_cases q:(atKey xs k).isSome=true
 ·rw [if_pos q,if_pos q]; exact r.repl k ry
 ·rw [if_neg q,if_neg q]; exact Paired.snoc r ⟨rfl,hb,ry⟩
theorem KT.keeps {H H':Hp} {kvs:List (List Key×V)} {xs:List (List Key×Addr×Value)} (r:KT H kvs xs) (ht:∀ b ys,H b=some (.tup ys)->H' b=some (.tup ys)):KT H' kvs xs:=
 Paired.mapP r fun _ _ z=>⟨z.1,ht _ _ z.2.1,z.2.2⟩
section
variable {P:Program} {w:World} {H:Hp} {h:Heap} {a:Addr}
theorem rY {u:HO} (ok:HOk P w H h) (e:Rd H a u):ObjOk P w H h a u:=e.ok ok
theorem sK {kvs:List (Key×V)} (ok:HOk P w H h) (e:Rd H a (.dK kvs)):kvs.length<=sizeLine/\(a == sysModules)=false/\∃ vs,KV kvs vs/\h.DictOf (v7 P w) a vs:=
 show ObjOk P w H h a (.dK kvs) from rY ok e
theorem BY {kvs:List (Key×V)} (ok:HOk P w H h) (e:H a=some (.dK kvs)):kvs.length<=sizeLine/\(a == sysModules)=false/\∃ vs,KV kvs vs/\h.DictOf (v7 P w) a vs:=sK ok (.inl e)
theorem dF {ks:List Key} (ok:HOk P w H h) (e:H a=some (.tup (ks.map kV))):(tupleKind (v7 P w)).is h ks a:=by
 obtain ⟨_,its,r,o,h1,h2,n,h3⟩:=(show ObjOk P w H h a (.tup (ks.map kV)) from ok a _ e)
 exact ⟨o,its.toArray,n,h1,h2,h3,by simpa using fH r⟩
theorem sI {kvs:List (List Key×V)} (ok:HOk P w H h) (e:Rd H a (.dT kvs)):kvs.length<=sizeLine/\(a == sysModules)=false /\
  ∃ xs,KT H kvs xs/\h.DictOfH (tupleKind (v7 P w)) a xs:=by
 obtain ⟨z,y,xs,r,o,es,ep,h1,h2,h3,h4,h5⟩:=(show ObjOk P w H h a (.dT kvs) from rY ok e)
 refine ⟨z,y,xs,r,o,es,ep,h1,h2,h3,h4,fun x hx=>?_,h5⟩
 have all:∀ {l:List (List Key×V)} {m:List (List Key×Addr×Value)},KT H l m->∀ x∈m,(tupleKind (v7 P w)).is h x.1 x.2.1:=by
  intro l m q
  induction q with
  | nil=>intro x hx; exact nomatch hx
  | @cons p q ps qs hq t ih=>
   intro x hx
   rcases List.mem_cons.mp hx with e | hx
   ·subst e
    exact dF ok (by rw [<- hq.1]; exact hq.2.1)
   ·exact ih x hx
 exact all r x hx
theorem sJ {kvs:List (List Key×V)} (ok:HOk P w H h) (e:H a=some (.dT kvs)):kvs.length<=sizeLine/\(a == sysModules)=false /\
  ∃ xs,KT H kvs xs/\h.DictOfH (tupleKind (v7 P w)) a xs:=sI ok (.inl e)
end
def DGet (H:Hp) (a:Addr) (y:V) (r:Option V):Prop:=
 (∃ kvs k,Rd H a (.dK kvs)/\y=kV k/\r=Q0 kvs k)\/∃ kvs k b,Rd H a (.dT kvs)/\y=.ref b/\H b=some (.tup (k.map kV))/\r=Q0 kvs k
def DPut (H:Hp) (a:Addr) (y v:V) (H':Hp):Prop:=
 (∃ kvs k,H a=some (.dK kvs)/\y=kV k/\kvs.length<sizeLine/\H'=upd H a (.dK (putK kvs k v))) \/
 ∃ kvs k b,H a=some (.dT kvs)/\y=.ref b/\H b=some (.tup (k.map kV))/\kvs.length<sizeLine/\H'=upd H a (.dT (putK kvs k v))
theorem DGet.t {H:Hp} {a b:Addr} {kvs:List (List Key×V)} {k:List Key} (e:H a=some (.dT kvs)) (eb:H b=some (.tup (k.map kV))):DGet H a (.ref b) (Q0 kvs k):=.inr ⟨kvs,k,b,.inl e,rfl,eb,rfl⟩
theorem DPut.t {H:Hp} {a b:Addr} {kvs:List (List Key×V)} {k:List Key} {v:V} (e:H a=some (.dT kvs)) (eb:H b=some (.tup (k.map kV))) (hl:kvs.length<sizeLine) :
  DPut H a (.ref b) v (upd H a (.dT (putK kvs k v))):=.inr ⟨kvs,k,b,e,rfl,eb,hl,rfl⟩
section
variable {X:Cx} {pins:List (Addr×Obj)} {σ:St} {H:Hp} {s:Shared} {a:Addr} {y v:V} {u r:Value} {o:Option V} {A:Around} {E:Value->Shared->Prop}
theorem Inv.big (I:Inv X pins σ H s):sysModules<s.heap.objs.size:=by
 have h:mainGlobals<s.heap.objs.size:=(I.mod.glob.keeps I.bk).lt
 exact Nat.lt_trans (by decide) h
theorem d_in {Q:Value->Shared->Prop} (hu:A.units+1<cLine) (I:Inv X pins σ H s) (g:DGet H a y o) (ry:RelV y u) (h:∀ s',Inv X pins σ H s'->Q (.bool o.isSome) s') :
  wpAny (model X.prog X.w) A (compareOp .In u (.ref a)) Q E s:=by
 rcases g with ⟨kvs,k,e,ey,l⟩ | ⟨kvs,k,b,e,ey,eb,l⟩
 ·subst ey
  obtain ⟨z,hd,vs,rel,dd⟩:=sK I.hok e
  refine wpAny_in_of (kW ry) hd dd.mapOf ?_
  rw [<- (rel.val k).isSome_eq,<- l]
  exact h _ (I.tok _)
 ·subst ey
  cases (show u=Value.ref b from ry)
  obtain ⟨z,hd,xs,rel,dd⟩:=sI I.hok e
  refine wpAny_in_heap (tupleKind_room_in1 hu) (dF I.hok eb) hd dd ?_
  have q:=(rel.val k).isSome_eq
  rw [Option.isSome_map] at q
  rw [<- q,<- l]
  exact h _ (I.tok _)
theorem fg {h':Heap} {t':Nat} {ob:HO} (I:Inv X pins σ H s) (mu:Mut (H a)) (hs:Heap.SameBut a s.heap h') (he:∃ q,h'.get? a=some q) (new:ObjOk X.prog X.w (upd H a ob) h' a ob) :
  Inv X pins σ (upd H a ob) { s with heap:=h',toks:=t' }:=
 I.write (x:=a) (e:=a) mu (.inl rfl) (fun b q hb z=>(hs.2 b hb).trans z) he new
theorem Ai {P:Program} {w:World} {H':Hp} {h':Heap} {kvs:List (Key×V)} {vs:List (Key×Value)} (z:kvs.length<=sizeLine) (hd:(a == sysModules)=false) (rel:KV kvs vs) (dd:h'.DictOf (v7 P w) a vs) :
  ObjOk P w H' h' a (.dK kvs):=⟨z,hd,vs,rel,dd⟩
theorem om {H':Hp} {Q:Unit->Shared->Prop} (hu:A.units+1<cLine) (I:Inv X pins σ H s) (g:DPut H a y v H') (ry:RelV y u) (rv:RelV v r) (h:∀ s',Inv X pins σ H' s'->Q () s') :
  wpAny (model X.prog X.w) A (setItem (.ref a) u r) Q E s:=by
 rcases g with ⟨kvs,k,e,ey,l,eH⟩ | ⟨kvs,k,b,e,ey,eb,l,eH⟩
 ·subst ey eH
  obtain ⟨z,hd,vs,rel,dd⟩:=BY I.hok e
  have hz:vs.length<=sizeLine:=by rw [<- rel.length]; exact z
  have hl:(putK kvs k v).length<=sizeLine:=by have:=cj kvs k v; omega
  refine wpAny_setItem_pairs (hsz:=hz) (kW ry) dd fun h' dd' hs=>h _ ?_
  have he:∃ q,h'.get? a=some q:=let ⟨q,_,_,hq,_⟩:=dd'; ⟨q,hq⟩
  exact fg I (by rw [e]; exact True.intro) hs he (Ai hl hd (rel.put k rv) dd')
 ·subst ey eH
  cases (show u=Value.ref b from ry)
  obtain ⟨z,hd,xs,rel,dd⟩:=sJ I.hok e
  have hz:xs.length<=sizeLine:=by rw [<- Paired.length rel]; exact z
  have hl:(putK kvs k v).length<=sizeLine:=by have:=cj kvs k v; omega
  refine wpAny_setItem_heap (hsz:=hz) (tupleKind_room_in1 hu) (dF I.hok eb) dd fun h' dd' hs=>h _ ?_
  obtain ⟨q,es,ep,hq,h2,h3,h4,_,h5⟩:=dd'
  refine fg I (by rw [e]; exact True.intro) hs ⟨q,hq⟩ ⟨hl,hd,_,(rel.put k eb rv).keeps fun c ys ec=>?_,q,es,ep,hq,h2,h3,h4,h5⟩
  rw [d8 (so ec e (fun z=>nomatch z))]
  exact ec
end
section
variable {X:Cx} {pins:List (Addr×Obj)} {σ:St} {H:Hp} {s:Shared} {a:Addr} {kvs:List (Key×V)} {k:Key} {u:Value} {A:Around} {E:Value->Shared->Prop}
end
def wH (ty td:TE):TE:=fun σ H Q=>ty σ H fun y H1=>td σ H1 fun x H2=>∃ a o,x=.ref a/\DGet H2 a y o/\Q (.bl o.isSome) H2
def rX (td ty tv:TE):TS:=fun D σ H=>tv σ H fun v H1=>td σ H1 fun x H2=>ty σ H2 fun y H3=>∃ a H4,x=.ref a/\DPut H3 a y v H4/\D.nx σ H4
section
variable {X:Cx} {o i e value:Expr} {pos pos' tpos:Pos} {td ty tv:TE}
theorem yr (hu:X.A.units+1<cLine) (hi:PE X i ty) (ho:PE X o td):PC X .In i o (wH ty td):=by
 intro pins s σ H Q I h
 refine thn (hi pins s σ H _ I h) fun iv s1 ⟨y,H1,I1,ry,q1⟩=>thn (ho pins s1 σ H1 _ I1 q1) fun u s2 zz54=>?_
 obtain ⟨x,H2,I2,rx,a,ov,ex,g,q2⟩:=zz54
 subst ex
 obtain rfl:u=Value.ref a:=rx
 exact d_in hu I2 g ry fun s3 I3=>⟨.bl ov.isSome,H2,I3,rfl,q2⟩
theorem um (hu:X.A.units+1<cLine) (ho:PE X o td) (hi:PE X i ty) (hv:PE X value tv) (hs:swapsWith value (some (.Subscript o i pos')) pos.line X.env=pure false) :
  PS X (.Assign [.Subscript o i pos'] value pos) (rX td ty tv):=by
 intro pins s σ H D I h
 refine wpAny_Assign_Subscript (thn (hv pins s σ H _ I h) fun r s1 ⟨v,H1,I1,rv,q1⟩=>thn (ho pins s1 σ H1 _ I1 q1) fun u s2 ⟨x,H2,I2,rx,q2⟩=>thn (hi pins s2 σ H2 _ I2 q2) fun iv s3 zz57=>?_) hs
 obtain ⟨y,H3,I3,ry,a,H4,ex,g,q3⟩:=zz57
 subst ex
 obtain rfl:u=Value.ref a:=rx
 exact om hu I3 g ry rv fun s4 I4=>⟨σ,H4,I4,q3⟩
end
theorem rl {P:Program} {w:World} {H:Hp} (h:Heap) (hb:sysModules<h.objs.size):ObjOk P w H (h.push { cls:=.type "dict",data:=.dict #[] }) h.objs.size (.dT []):=
 ⟨Nat.zero_le _,beq_eq_false_iff_ne.mpr (Ne.symm (Nat.ne_of_lt hb)),[],.nil,_,#[],0,Heap.get?_push_size _ rfl,⟨rfl,rfl,rfl⟩,rfl,rfl,List.nodup_nil⟩
section
variable {X:Cx} {pos:Pos}
end
end L2
namespace L2
open PySem
structure Sub where
 t:Bool
 i:Addr
 l:Addr
def Sub.At (u:Sub) (h:Heap) (n:Nat):Prop:=if u.t=true then h.IsTupleIter u.i u.l n else h.IsListIter u.i u.l n
def Sub.Src (u:Sub) (h:Heap) (xs:Array Value):Prop:=if u.t=true then h.IsTuple u.l xs else h.IsList u.l xs
theorem Sub.At.obj {u:Sub} {h:Heap} {n:Nat} (x:u.At h n):∃ o,h.get? u.i=some o/\o.data=.fields #[.ref u.l,.int n 0]:=by
 unfold Sub.At at x
 split at x <;> (obtain ⟨o,e,_,d⟩:=x; exact ⟨o,e,d⟩)
theorem Sub.At.keep {u:Sub} {h h':Heap} {n:Nat} (x:u.At h n) (k:∀ o,h.get? u.i=some o->h'.get? u.i=some o):u.At h' n:=by
 unfold Sub.At at x ⊢
 split at x <;> (rename_i ht; obtain ⟨o,e,r⟩:=x; simp only [ht,if_true,if_false,Bool.false_eq_true]; exact ⟨o,k o e,r⟩)
theorem Sub.Src.keep {u:Sub} {h h':Heap} {xs:Array Value} (x:u.Src h xs) (k:∀ o,h.get? u.l=some o->h'.get? u.l=some o):u.Src h' xs:=by
 unfold Sub.Src at x ⊢
 split at x <;> (rename_i ht; obtain ⟨o,e,r⟩:=x; simp only [ht,if_true,if_false,Bool.false_eq_true]; exact ⟨o,k o e,r⟩)
section
variable {prog:Program} {w:World} {A:Around} {E:Value->Shared->Prop} {s:Shared}
theorem dC {it t:Addr} {i:Nat} {items:Array Value} {x:Value} {Q:Value->Shared->Prop} (hit:s.heap.IsTupleIter it t i) (ht:s.heap.IsTuple t items) (hx:items[i]?=some x)
  (hQ:∀ h',h'.IsTupleIter it t (i+1)->Heap.SameBut it s.heap h'->Q x { s with heap:=h' }):wpAny (model prog w) A (Builtin.SmallTypes.nextOf (.ref it)) Q E s:=by
 obtain ⟨o,ho,hc,hd⟩:=id hit; obtain ⟨ol,hol,_,nl,hdl⟩:=ht; unfold Builtin.SmallTypes.nextOf
 refine wpAny_bind (wpAny_callSpecial?_slot (name:=Str.ofString "__next__") hit.typeIs F.slot_tuple_iterator_next (wpAny_call_entry F.slot_tuple_iterator_next hit.typeIs F.entry_tuple_iterator_next ?_ (F.args_tuple_iterator_next_1 _)))
 show wpAny _ _ (field (.ref it) 0>>=_) _ _ s; refine wpAny_bind (wpAny_field ho hd (x:=.ref t) rfl ?_)
 show wpAny _ _ (if (Value.ref t == Value.none)=true then _ else _) _ _ s; rw [if_neg (show ¬ ((Value.ref t == Value.none)=true) from Bool.false_ne_true)]
 show wpAny _ _ (field (.ref it) 1>>=_) _ _ s; refine wpAny_bind (wpAny_field ho hd (x:=.int i 0) rfl ?_)
 show wpAny _ _ (seqItems? (.ref t)>>=_) _ _ s; refine wpAny_bind (wpAny_seqItems hol hdl ?_); simp only [Int.toNat_natCast,hx]
 refine wpAny_bind (wpAny_setField ho hd (by simp) (wpAny_pure ⟨x,rfl,wpAny_pure (hQ _ ?_ (Heap.SameBut.update ..))⟩)); exact ⟨_,Heap.get?_update_self _ ho (Obj.isFreed_of_fields (Obj.data_mapFields hd _)),(Obj.cls_mapFields ..).trans hc,by rw [Obj.data_mapFields hd]; simp [rawInt]⟩
theorem eL {it t:Addr} {i:Nat} {items:Array Value} {Q:Value->Shared->Prop} (hh:A.handled=none) (hit:s.heap.IsTupleIter it t i) (ht:s.heap.IsTuple t items) (hx:items[i]?=none)
  (hE:∀ h' e,Heap.ExtBut it s.heap h'->(∃ o,h'.get? e=some o/\o.cls=.type "StopIteration")->E (.ref e) { s with heap:=h' }):wpAny (model prog w) A (Builtin.SmallTypes.nextOf (.ref it)) Q E s:=by
 obtain ⟨o,ho,hc,hd⟩:=id hit; obtain ⟨ol,hol,_,nl,hdl⟩:=ht; unfold Builtin.SmallTypes.nextOf
 refine wpAny_bind (wpAny_callSpecial?_slot (name:=Str.ofString "__next__") hit.typeIs F.slot_tuple_iterator_next (wpAny_call_entry F.slot_tuple_iterator_next hit.typeIs F.entry_tuple_iterator_next ?_ (F.args_tuple_iterator_next_1 _)))
 show wpAny _ _ (field (.ref it) 0>>=_) _ _ s; refine wpAny_bind (wpAny_field ho hd (x:=.ref t) rfl ?_)
 show wpAny _ _ (if (Value.ref t == Value.none)=true then _ else _) _ _ s; rw [if_neg (show ¬ ((Value.ref t == Value.none)=true) from Bool.false_ne_true)]
 show wpAny _ _ (field (.ref it) 1>>=_) _ _ s; refine wpAny_bind (wpAny_field ho hd (x:=.int i 0) rfl ?_)
 show wpAny _ _ (seqItems? (.ref t)>>=_) _ _ s; refine wpAny_bind (wpAny_seqItems hol hdl ?_); simp only [Int.toNat_natCast,hx]
 refine wpAny_bind (wpAny_rule (wpAny_bind (wpAny_setField ho hd (by simp) ?_))); show wpAny _ _ (newExc (.type "StopIteration") []>>=_) _ _ _
 refine wpAny_bind ?_; simp only [newExc,newTuple]; refine wpAny_bind (wpAny_newObj_type ?_ (by size_fits))
 refine wpAny_bind (m:=firstArgMember _ _) (wpAny_of_eq (a:=Value.none) (by first | rfl | (simp only [firstArgMember]; rfl)) ?_); refine wpAny_newObj_type ?_ (by size_fits); simp only [raiseNew]
 refine wpAny_bind (wpAny_handled ?_); first | rw [show A.in1.handled=none from hh] | rw [hh]
 refine wpAny_bind (wpAny_pure (wpAny_throw ?_)); exact hE _ _ (((Heap.SameBut.update ..).extBut.push _).push _) ⟨_,Heap.get?_push_size _ rfl,rfl⟩
theorem Sub.item {u:Sub} {n:Nat} {xs:Array Value} {x:Value} {Q:Value->Shared->Prop} (ha:u.At s.heap n) (hs:u.Src s.heap xs) (hx:xs[n]?=some x)
  (hQ:∀ h',u.At h' (n+1)->Heap.SameBut u.i s.heap h'->Q x { s with heap:=h' }):wpAny (model prog w) A (Builtin.SmallTypes.nextOf (.ref u.i)) Q E s:=by
 unfold Sub.At at ha hQ; unfold Sub.Src at hs
 cases ht:u.t with
 | true=>simp only [ht,if_true] at ha hs hQ; exact dC ha hs hx hQ
 | false=>simp only [ht,if_false,Bool.false_eq_true] at ha hs hQ; exact wpAny_nextOf_list_item ha hs hx hQ
theorem Sub.ends {u:Sub} {n:Nat} {xs:Array Value} {Q:Value->Shared->Prop} (hh:A.handled=none) (ha:u.At s.heap n) (hs:u.Src s.heap xs) (hx:xs[n]?=none)
  (hE:∀ h' e,Heap.ExtBut u.i s.heap h'->(∃ o,h'.get? e=some o/\o.cls=.type "StopIteration")->E (.ref e) { s with heap:=h' }):wpAny (model prog w) A (Builtin.SmallTypes.nextOf (.ref u.i)) Q E s:=by
 unfold Sub.At at ha; unfold Sub.Src at hs
 cases ht:u.t with
 | true=>simp only [ht,if_true] at ha hs; exact eL hh ha hs hx hE
 | false=>simp only [ht,if_false,Bool.false_eq_true] at ha hs; exact wpAny_nextOf_list_end hh ha hs hx hE
abbrev C4 (h:Heap) (T:Addr) (arr:Array Value):Prop:=h.get? T=some { cls:=.type "tuple",data:=.seq arr }
def drawn (n:Nat):List (Sub×Array Value)->Nat->Array Value->Array Value
 | [],_,arr=>arr
 | u::r,c,arr=>drawn n r (c+1) (arr.setIfInBounds c (u.2.getD n .none))
def sT (prog:Program) (w:World) (A:Around) (z TO:Addr) (E:Value->Shared->Prop) (B:Value×Nat->Option Fin×Unit->Sem (ForInStep (Option Fin×Unit))):Prop:=
 ∀ (v:Value) (k:Nat) (s:Shared) (Q:ForInStep (Option Fin×Unit)->Shared->Prop),
  wpAny (model prog w) A (Builtin.SmallTypes.nextOf v) (fun x s1=>∃ arr,C4 s1.heap TO arr/\arr.size<=sizeLine/\∀ h',C4 h' TO (arr.setIfInBounds k x)->Heap.SameBut TO s1.heap h'->Q (.yield (none,())) { s1 with heap:=h' })
   (fun e s1=>wpAny (model prog w) A (setField (.ref z) 0 .none) (fun _ s2=>E e s2) E s1) s->wpAny (model prog w) A (B (v,k) (none,())) Q E s
structure Apart (z TO:Addr) (ss:List (Sub×Array Value)):Prop where
 zTO:z≠TO
 zi:∀ u∈ss,u.1.i≠z
 ti:∀ u∈ss,u.1.i≠TO
 nd:ss.Pairwise fun u v=>u.1.i≠v.1.i
 lz:∀ u∈ss,u.1.l≠z
 lt:∀ u∈ss,u.1.l≠TO
 li:∀ u∈ss,∀ v∈ss,u.1.l≠v.1.i
theorem Apart.tail {z TO:Addr} {u:Sub×Array Value} {ss:List (Sub×Array Value)} (D:Apart z TO (u::ss)):Apart z TO ss:=
 ⟨D.zTO,fun v hv=>D.zi v (List.mem_cons_of_mem _ hv),fun v hv=>D.ti v (List.mem_cons_of_mem _ hv),(List.pairwise_cons.mp D.nd).2,fun v hv=>D.lz v (List.mem_cons_of_mem _ hv),fun v hv=>D.lt v (List.mem_cons_of_mem _ hv),
  fun v hv x hx=>D.li v (List.mem_cons_of_mem _ hv) x (List.mem_cons_of_mem _ hx)⟩
theorem draws {z TI TO:Addr} {n:Nat} {B:Value×Nat->Option Fin×Unit->Sem (ForInStep (Option Fin×Unit))} (hB:sT prog w A z TO E B) :
  ∀ (ss:List (Sub×Array Value)) (c:Nat) (arr:Array Value) (s:Shared) (Q:Option Fin×Unit->Shared->Prop),Apart z TO ss->IsZip s.heap z TI TO .ellipsis->C4 s.heap TO arr->arr.size<=sizeLine ->
   (∀ u∈ss,u.1.At s.heap n/\u.1.Src s.heap u.2/\∃ x,u.2[n]?=some x) ->
   (∀ h',IsZip h' z TI TO .ellipsis->C4 h' TO (drawn n ss c arr)->(∀ u∈ss,u.1.At h' (n+1))->h'.objs.size=s.heap.objs.size ->
    (∀ b o,b≠TO->(∀ u∈ss,b≠u.1.i)->s.heap.get? b=some o->h'.get? b=some o)->Q (none,()) { s with heap:=h' }) ->
   wpAny (model prog w) A (forIn ((ss.map fun u=>Value.ref u.1.i).zipIdx c) (none,()) B) Q E s:=by
 intro ss
 induction ss with
 | nil=>
  intro c arr s Q D hz hT hl hu hQ
  simp only [List.map_nil,List.zipIdx_nil,List.forIn_nil]
  exact wpAny_pure (hQ s.heap hz hT (fun _ h=>absurd h List.not_mem_nil) rfl fun _ _ _ _ e=>e)
 | cons u r ih=>
  intro c arr s Q D hz hT hl hu hQ
  simp only [List.map_cons,List.zipIdx_cons,List.forIn_cons]
  obtain ⟨ha,hsrc,x,hx⟩:=hu u List.mem_cons_self
  refine wpAny_bind (hB _ _ _ _ (Sub.item ha hsrc hx fun h1 ha1 sb1=>⟨arr,sb1.extBut _ _ (D.ti u List.mem_cons_self).symm hT,hl,fun h2 hT2 sb2=>?_⟩))
  have uz:=D.zi u List.mem_cons_self
  have ut:=D.ti u List.mem_cons_self
  have kp:∀ b o,b≠TO->b≠u.1.i->s.heap.get? b=some o->h2.get? b=some o:=fun b o h1 h2 e=>sb2.extBut _ _ h1 (sb1.extBut _ _ h2 e)
  have hui:∀ v∈r,v.1.i≠u.1.i:=fun v hv=>((List.pairwise_cons.mp D.nd).1 v hv).symm
  refine ih (c+1) (arr.setIfInBounds c x) { s with heap:=h2 } Q D.tail (kp _ _ D.zTO uz.symm hz) hT2 (by simpa using hl) (fun v hv=>?_) fun h3 z3 T3 a3 s3 k3=>?_
  ·obtain ⟨a,b,y⟩:=hu v (List.mem_cons_of_mem _ hv)
   exact ⟨a.keep fun o e=>kp _ o (D.ti v (List.mem_cons_of_mem _ hv)) (hui v hv) e,b.keep fun o e=>kp _ o (D.lt v (List.mem_cons_of_mem _ hv)) (D.li v (List.mem_cons_of_mem _ hv) u List.mem_cons_self) e,y⟩
  ·refine hQ h3 z3 ?_ (fun v hv=>?_) (by rw [s3]; show h2.objs.size=_; rw [sb2.1,sb1.1]) fun b o h1 h2 e=>k3 b o h1 (fun v hv=>h2 v (List.mem_cons_of_mem _ hv)) (kp b o h1 (h2 u List.mem_cons_self) e)
   ·have e:u.2.getD n .none=x:=by simp [Array.getD_eq_getD_getElem?,hx]
    show C4 h3 TO (drawn n r (c+1) (arr.setIfInBounds c (u.2.getD n .none)))
    rw [e]; exact T3
   ·rcases List.mem_cons.mp hv with rfl | hv
    ·exact ha1.keep fun o e=>k3 _ o ut (fun v' hv'=>(hui v' hv').symm) (sb2.extBut _ _ ut e)
    ·exact a3 v hv
theorem nY {z TI TO:Addr} {n:Nat} {B:Value×Nat->Option Fin×Unit->Sem (ForInStep (Option Fin×Unit))} (hh:A.handled=none) (hB:sT prog w A z TO E B) :
  ∀ (ss:List (Sub×Array Value)) (c:Nat) (arr:Array Value) (s:Shared) (Q:Option Fin×Unit->Shared->Prop),Apart z TO ss->IsZip s.heap z TI TO .ellipsis->C4 s.heap TO arr->arr.size<=sizeLine ->
   (∀ u∈ss,u.1.At s.heap n/\u.1.Src s.heap u.2)->(∃ u∈ss,u.2[n]?=none) ->
   (∀ h' e,(∀ b o,b≠z->b≠TO->(∀ u∈ss,b≠u.1.i)->s.heap.get? b=some o->h'.get? b=some o)->(∃ o,h'.get? e=some o/\o.cls=.type "StopIteration")->E (.ref e) { s with heap:=h' }) ->
   wpAny (model prog w) A (forIn ((ss.map fun u=>Value.ref u.1.i).zipIdx c) (none,()) B) Q E s:=by
 intro ss
 induction ss with
 | nil=>
  intro c arr s Q D hz hT hl hu hx hQ
  obtain ⟨_,h,_⟩:=hx
  exact absurd h List.not_mem_nil
 | cons u r ih=>
  intro c arr s Q D hz hT hl hu hx hQ
  simp only [List.map_cons,List.zipIdx_cons,List.forIn_cons]
  obtain ⟨ha,hsrc⟩:=hu u List.mem_cons_self
  have uz:=D.zi u List.mem_cons_self
  have ut:=D.ti u List.mem_cons_self
  cases hu0:u.2[n]? with
  | none=>
   refine wpAny_bind (hB _ _ _ _ (Sub.ends hh ha hsrc hu0 fun h1 e eb he=>?_))
   obtain ⟨oe,hoe,hce⟩:=he
   have hz1:IsZip h1 z TI TO .ellipsis:=eb _ _ uz.symm hz
   have hez:e≠z:=fun x=>by subst x; rw [hz1] at hoe; cases hoe; simp at hce
   exact wpAny_setField_rec hz1 (by simp) fun h3 _ sb3=>hQ h3 e (fun b o b1 b2 b3 q=>sb3.extBut _ _ b1 (eb _ _ (b3 u List.mem_cons_self) q)) ⟨oe,sb3.extBut _ _ hez hoe,hce⟩
  | some x=>
   refine wpAny_bind (hB _ _ _ _ (Sub.item ha hsrc hu0 fun h1 ha1 sb1=>⟨arr,sb1.extBut _ _ ut.symm hT,hl,fun h2 hT2 sb2=>?_⟩))
   have kp:∀ b o,b≠TO->b≠u.1.i->s.heap.get? b=some o->h2.get? b=some o:=fun b o h1 h2 e=>sb2.extBut _ _ h1 (sb1.extBut _ _ h2 e)
   have hui:∀ v∈r,v.1.i≠u.1.i:=fun v hv=>((List.pairwise_cons.mp D.nd).1 v hv).symm
   refine ih (c+1) (arr.setIfInBounds c x) { s with heap:=h2 } Q D.tail (kp _ _ D.zTO uz.symm hz) hT2 (by simpa using hl) (fun v hv=>?_) ?_ fun h3 e k3 he=>?_
   ·obtain ⟨a,b⟩:=hu v (List.mem_cons_of_mem _ hv)
    exact ⟨a.keep fun o e=>kp _ o (D.ti v (List.mem_cons_of_mem _ hv)) (hui v hv) e,b.keep fun o e=>kp _ o (D.lt v (List.mem_cons_of_mem _ hv)) (D.li v (List.mem_cons_of_mem _ hv) u List.mem_cons_self) e⟩
   ·obtain ⟨v,hv,e⟩:=hx
    rcases List.mem_cons.mp hv with rfl | hv
    ·rw [hu0] at e; cases e
    ·exact ⟨v,hv,e⟩
   ·exact hQ h3 e (fun b o b1 b2 b3 q=>k3 b o b1 b2 (fun v hv=>b3 v (List.mem_cons_of_mem _ hv)) (kp b o b2 (b3 u List.mem_cons_self) q)) he
theorem lm (n:Nat):∀ (ss:List (Sub×Array Value)) (c:Nat) (arr:Array Value),(drawn n ss c arr).size=arr.size:=by
 intro ss
 induction ss with
 | nil=>intro c arr; rfl
 | cons u r ih=>intro c arr; unfold drawn; rw [ih]; simp
theorem nZ (n:Nat):∀ (ss:List (Sub×Array Value)) (c:Nat) (arr:Array Value),c+ss.length=arr.size->(drawn n ss c arr).toList=arr.toList.take c++ss.map fun u=>u.2.getD n .none:=by
 intro ss
 induction ss with
 | nil=>
  intro c arr h
  unfold drawn
  simp at h; subst h
  rw [List.map_nil,List.append_nil]
  exact (List.take_of_length_le (by simp)).symm
 | cons u r ih=>
  intro c arr h
  unfold drawn
  have hc:c<arr.size:=by simp at h; omega
  rw [ih (c+1) _ (by simp at h ⊢; omega)]
  rw [List.map_cons,Array.toList_setIfInBounds]
  have:(arr.toList.set c (u.2.getD n Value.none)).take (c+1)=arr.toList.take c ++ [u.2.getD n Value.none]:=by
   rw [List.take_add_one,List.take_set,List.getElem?_set_self (by simpa using hc)]
   rw [List.set_eq_of_length_le (by simp; omega)]; rfl
  rw [this,List.append_assoc]; rfl
theorem oR {z TI TO:Addr} {n:Nat} {ss:List (Sub×Array Value)} {arr:Array Value} {Q:Option Value->Shared->Prop} (D:Apart z TO ss) (hne:ss ≠ []) (hsz:arr.size=ss.length) (hline:ss.length<=sizeLine)
  (hz:IsZip s.heap z TI TO .none) (hTI:C4 s.heap TI (ss.map fun u=>Value.ref u.1.i).toArray) (hTO:C4 s.heap TO arr) (hu:∀ u∈ss,u.1.At s.heap n/\u.1.Src s.heap u.2/\∃ x,u.2[n]?=some x)
  (hQ:∀ h',IsZip h' z TI TO (rawInt s.heap.objs.size)->(∃ arr',C4 h' TO arr'/\arr'.size=ss.length)->(∀ u∈ss,u.1.At h' (n+1))->C4 h' s.heap.objs.size (ss.map fun u=>u.2.getD n .none).toArray ->
   (∀ b o,b≠z->b≠TO->(∀ u∈ss,b≠u.1.i)->s.heap.get? b=some o->h'.get? b=some o)->Q (some (.ref s.heap.objs.size)) { s with heap:=h' }) :
  wpAny (model prog w) A (pyNext (.ref z)) Q E s:=by
 have hT:s.TypeIs (.ref z) "zip" := ⟨_,hz,rfl⟩
 unfold pyNext
 refine wpAny_bind (wpAny_attempt (wpAny_callSpecial?_slot (name:=Str.ofString "__next__") hT F.slot_zip_next (wpAny_call_entry F.slot_zip_next hT F.entry_zip_next ?_ (F.args_zip_next_1 _))))
 show wpAny _ _ (field (.ref z) 2>>=_) _ _ _; refine wpAny_bind (wpAny_field hz rfl (x:=.bool false) rfl ?_)
 show wpAny _ _ (field (.ref z) 3>>=_) _ _ _; refine wpAny_bind (wpAny_field hz rfl (x:=.ref TI) rfl ?_); refine wpAny_bind (wpAny_seqItems hTI rfl ?_)
 have e1:(ss.map fun u=>Value.ref u.1.i).toArray.isEmpty=false:=by cases ss <;> simp_all
 simp only [e1]
 refine wpAny_bind ?_; unfold Builtin.SmallTypes.ownedTupleIsFree; refine wpAny_bind (wpAny_field hz rfl (x:=.none) rfl (wpAny_pure ?_)); simp only [if_true]
 refine wpAny_bind (wpAny_rule ?_); refine wpAny_bind (wpAny_field hz rfl (x:=.ref TO) rfl ?_)
 refine wpAny_bind (wpAny_setField_rec hz (by simp) fun h1 z1 sb1=>?_); replace z1:IsZip h1 z TI TO .ellipsis:=z1
 refine wpAny_bind (draws (TI:=TI) (n:=n) (z:=z) (TO:=TO) ?_ ss 0 arr _ _ D z1 (sb1.extBut _ _ D.zTO.symm hTO) (by omega) (fun u hm=>?_) fun h2 z2 T2 a2 s2 k2=>?_)
 ·intro v k s Q h
  refine wpAny_bind (wpAny_onRaise ?_)
  show wpAny _ _ (Builtin.SmallTypes.nextOf v>>=_) _ _ _
  refine wpAny_bind (wpAny_mono h (fun x s1 ⟨arr,hT1,hl,hq⟩=>wpAny_pure ?_) fun e s1 he=>he)
  refine wpAny_bind (wpAny_seqItems hT1 rfl ?_)
  refine wpAny_bind (wpAny_updateSeq hT1 rfl ?_ hl (by rw [Array.size_setIfInBounds]; omega))
  refine wpAny_bind (wpAny_letGo (wpAny_pure (hq _ ?_ (Heap.SameBut.update ..))))
  show Heap.get? _ _=_
  rw [Heap.get?_update_self _ hT1 rfl]; simp [Obj.mapSeq]
 ·obtain ⟨a,b,x⟩:=hu u hm
  exact ⟨a.keep fun o e=>sb1.extBut _ _ (D.zi u hm) e,b.keep fun o e=>sb1.extBut _ _ (D.lz u hm) e,x⟩
 ·have ed:(drawn n ss 0 arr).toList=ss.map fun u=>u.2.getD n .none:=by rw [nZ n ss 0 arr (by omega)]; simp
  refine wpAny_bind (wpAny_seqItems T2 rfl ?_)
  have hs2:h2.objs.size=s.heap.objs.size:=by rw [s2]; exact sb1.1
  have hlz:z<h2.objs.size:=Heap.lt_size z2
  refine wpAny_bind (wpAny_newTuple (wpAny_bind ?_) (by rw [ed,List.length_map]; exact hline))
  unfold Builtin.SmallTypes.ownedTupleHandOut
  have z3:IsZip (h2.push { cls:=.type "tuple",data:=.seq (drawn n ss 0 arr).toList.toArray }) z TI TO .ellipsis:=Heap.get?_push_of_some _ z2
  refine wpAny_bind (wpAny_setField_rec z3 (by simp) fun h4 z4 sb4=>?_); replace z4:IsZip h4 z TI TO (rawInt h2.objs.size):=z4
  refine wpAny_setField_rec z4 (by simp) fun h5 z5 sb5=>?_; replace z5:IsZip h5 z TI TO (rawInt h2.objs.size):=z5
  have up:∀ b o,b≠z->h2.get? b=some o->h5.get? b=some o:=fun b o hb e=>sb5.extBut _ _ hb (sb4.extBut _ _ hb (Heap.get?_push_of_some _ e))
  have T5:C4 h5 h2.objs.size (drawn n ss 0 arr).toList.toArray:=sb5.extBut _ _ (Nat.ne_of_gt hlz) (sb4.extBut _ _ (Nat.ne_of_gt hlz) (Heap.get?_push_size _ rfl))
  rw [ed] at T5
  rw [hs2] at z5 T5
  refine wpAny_pure ⟨_,rfl,wpAny_pure ?_⟩
  show Q (some (.ref h2.objs.size)) _
  rw [hs2]
  exact hQ h5 z5 ⟨_,up _ _ D.zTO.symm T2,by rw [lm,hsz]⟩ (fun u hm=>(a2 u hm).keep fun o e=>up _ o (D.zi u hm) e) T5 fun b o b1 b2 b3 e=>up b o b1 (k2 b o b2 b3 (sb1.extBut _ _ b1 e))
theorem oQ {z TI TO:Addr} {n:Nat} {ss:List (Sub×Array Value)} {arr:Array Value} {Q:Option Value->Shared->Prop} (hh:A.handled=none) (D:Apart z TO ss) (hsz:arr.size=ss.length) (hline:ss.length<=sizeLine)
  (hz:IsZip s.heap z TI TO .none) (hTI:C4 s.heap TI (ss.map fun u=>Value.ref u.1.i).toArray) (hTO:C4 s.heap TO arr) (hu:∀ u∈ss,u.1.At s.heap n/\u.1.Src s.heap u.2) (hx:∃ u∈ss,u.2[n]?=none)
  (hQ:∀ h',(∀ b o,b≠z->b≠TO->(∀ u∈ss,b≠u.1.i)->s.heap.get? b=some o->h'.get? b=some o)->Q none { s with heap:=h' }) :
  wpAny (model prog w) A (pyNext (.ref z)) Q E s:=by
 have hT:s.TypeIs (.ref z) "zip" := ⟨_,hz,rfl⟩
 unfold pyNext
 refine wpAny_bind (wpAny_attempt (wpAny_callSpecial?_slot (name:=Str.ofString "__next__") hT F.slot_zip_next (wpAny_call_entry F.slot_zip_next hT F.entry_zip_next ?_ (F.args_zip_next_1 _))))
 show wpAny _ _ (field (.ref z) 2>>=_) _ _ _; refine wpAny_bind (wpAny_field hz rfl (x:=.bool false) rfl ?_)
 show wpAny _ _ (field (.ref z) 3>>=_) _ _ _; refine wpAny_bind (wpAny_field hz rfl (x:=.ref TI) rfl ?_); refine wpAny_bind (wpAny_seqItems hTI rfl ?_)
 have e1:(ss.map fun u=>Value.ref u.1.i).toArray.isEmpty=false:=by
  obtain ⟨u,hm,_⟩:=hx
  cases ss with
  | nil=>exact nomatch hm
  | cons a b=>simp
 simp only [e1]
 refine wpAny_bind ?_; unfold Builtin.SmallTypes.ownedTupleIsFree; refine wpAny_bind (wpAny_field hz rfl (x:=.none) rfl (wpAny_pure ?_)); simp only [if_true]
 refine wpAny_bind (wpAny_rule ?_); refine wpAny_bind (wpAny_field hz rfl (x:=.ref TO) rfl ?_)
 refine wpAny_bind (wpAny_setField_rec hz (by simp) fun h1 z1 sb1=>?_); replace z1:IsZip h1 z TI TO .ellipsis:=z1
 refine wpAny_bind (nY (A:=A.in1) (TI:=TI) (n:=n) (z:=z) (TO:=TO) (show A.in1.handled=none from hh) ?_ ss 0 arr _ _ D z1 (sb1.extBut _ _ D.zTO.symm hTO) (by omega) (fun u hm=>?_) hx fun h2 e k2 he=>?_)
 ·intro v k s Q h
  refine wpAny_bind (wpAny_onRaise ?_)
  show wpAny _ _ (Builtin.SmallTypes.nextOf v>>=_) _ _ _
  refine wpAny_bind (wpAny_mono h (fun x s1 ⟨arr,hT1,hl,hq⟩=>wpAny_pure ?_) fun e s1 he=>he)
  refine wpAny_bind (wpAny_seqItems hT1 rfl ?_)
  refine wpAny_bind (wpAny_updateSeq hT1 rfl ?_ hl (by rw [Array.size_setIfInBounds]; omega))
  refine wpAny_bind (wpAny_letGo (wpAny_pure (hq _ ?_ (Heap.SameBut.update ..))))
  show Heap.get? _ _=_
  rw [Heap.get?_update_self _ hT1 rfl]; simp [Obj.mapSeq]
 ·obtain ⟨a,b⟩:=hu u hm
  exact ⟨a.keep fun o e=>sb1.extBut _ _ (D.zi u hm) e,b.keep fun o e=>sb1.extBut _ _ (D.lz u hm) e⟩
 ·obtain ⟨o,ho,hc⟩:=he
  refine wpAny_bind (wpAny_isInstance (T := "StopIteration") (b:=true) ⟨o,ho,hc⟩ isSubtype_stop ?_)
  exact wpAny_pure (hQ _ fun b o b1 b2 b3 e=>k2 b o b1 b2 b3 (sb1.extBut _ _ b1 e))
def SrcAt (h:Heap) (u:Bool×Addr×Array Value):Prop:=if u.1=true then h.IsTuple u.2.1 u.2.2 else h.IsList u.2.1 u.2.2
def i8 (n:Nat):List (Bool×Addr×Array Value)->List (Sub×Array Value)
 | []=>[]
 | u::r=>(⟨u.1,n,u.2.1⟩,u.2.2)::i8 (n+1) r
theorem qE {u:Bool×Addr×Array Value} {Q:Value->Shared->Prop} (hs:SrcAt s.heap u)
  (hQ:∀ h',(Sub.mk u.1 s.heap.objs.size u.2.1).At h' 0->h'.objs.size=s.heap.objs.size+1->(∀ b o,s.heap.get? b=some o->h'.get? b=some o)->Q (.ref s.heap.objs.size) { s with heap:=h' }) :
  wpAny (model prog w) A (pyIter (.ref u.2.1)) Q E s:=by
 unfold SrcAt at hs
 cases ht:u.1 with
 | true=>
  simp only [ht,if_true] at hs
  refine wpAny_pyIter_tuple hs (hQ _ ?_ (Heap.size_push ..) fun b o e=>Heap.get?_push_of_some _ e)
  unfold Sub.At
  simp only [ht,if_true]
  exact ⟨_,Heap.get?_push_size _ rfl,rfl,rfl⟩
 | false=>
  simp only [ht,Bool.false_eq_true,if_false] at hs
  refine wpAny_pyIter_list hs (hQ _ ?_ (Heap.size_push ..) fun b o e=>Heap.get?_push_of_some _ e)
  unfold Sub.At
  simp only [ht,Bool.false_eq_true,if_false]
  exact ⟨_,Heap.get?_push_size _ rfl,rfl,rfl⟩
theorem SrcAt.keep {h h':Heap} {u:Bool×Addr×Array Value} (x:SrcAt h u) (k:∀ b o,h.get? b=some o->h'.get? b=some o):SrcAt h' u:=by
 unfold SrcAt at x ⊢
 split at x <;> (rename_i ht; obtain ⟨o,e,r⟩:=x; simp only [ht,if_true,if_false,Bool.false_eq_true]; exact ⟨o,k _ o e,r⟩)
theorem jo:∀ (us:List (Bool×Addr×Array Value)) (acc:Array Value) (s:Shared) (Q:Array Value->Shared->Prop),(∀ u∈us,SrcAt s.heap u) ->
  (∀ h',(∀ v∈i8 s.heap.objs.size us,v.1.At h' 0)->h'.objs.size=s.heap.objs.size+us.length->(∀ b o,s.heap.get? b=some o->h'.get? b=some o) ->
   Q (acc++((i8 s.heap.objs.size us).map fun v=>Value.ref v.1.i).toArray) { s with heap:=h' }) ->
  wpAny (model prog w) A (forIn (us.map fun u=>Value.ref u.2.1) acc fun x r=>do let y <- holding r.toList (pyIter x); pure (ForInStep.yield (r.push y))) Q E s:=by
 intro us
 induction us with
 | nil=>
  intro acc s Q _ hQ
  simp only [List.map_nil,List.forIn_nil]
  have:=hQ s.heap (fun _ h=>absurd h List.not_mem_nil) rfl fun _ _ e=>e
  exact wpAny_pure (by simpa [i8] using this)
 | cons u r ih=>
  intro acc s Q hs hQ
  simp only [List.map_cons,List.forIn_cons]
  refine wpAny_bind (wpAny_bind (wpAny_holding (qE (hs u List.mem_cons_self) fun h1 a1 s1 k1=>wpAny_pure ?_)))
  refine ih (acc.push (.ref s.heap.objs.size)) { s with heap:=h1 } Q (fun v hv=>(hs v (List.mem_cons_of_mem _ hv)).keep k1) fun h2 a2 s2 k2=>?_
  have e0:i8 h1.objs.size r=i8 (s.heap.objs.size+1) r:=by rw [s1]
  have q:=hQ h2 (fun v hv=>?_) (by rw [s2]; show h1.objs.size+_=_; rw [s1,List.length_cons]; omega) fun b o e=>k2 b o (k1 b o e)
  ·have e:acc.push (Value.ref s.heap.objs.size)++(List.map (fun v=>Value.ref v.1.i) (i8 h1.objs.size r)).toArray=acc++(List.map (fun v=>Value.ref v.1.i) (i8 s.heap.objs.size (u::r))).toArray:=by
    rw [e0]; simp [i8]
   show Q (acc.push (Value.ref s.heap.objs.size)++(List.map (fun v=>Value.ref v.1.i) (i8 h1.objs.size r)).toArray) _
   rw [e]; exact q
  ·rcases List.mem_cons.mp hv with rfl | hv
   ·exact a1.keep fun o e=>k2 _ o e
   ·exact a2 v (by show v∈i8 h1.objs.size r; rw [e0]; exact hv)
theorem qF {us:List (Bool×Addr×Array Value)} {Q:List Value->Shared->Prop} (hs:∀ u∈us,SrcAt s.heap u)
  (hQ:∀ h',(∀ v∈i8 s.heap.objs.size us,v.1.At h' 0)->h'.objs.size=s.heap.objs.size+us.length->(∀ b o,s.heap.get? b=some o->h'.get? b=some o) ->
   Q ((i8 s.heap.objs.size us).map fun v=>Value.ref v.1.i) { s with heap:=h' }):wpAny (model prog w) A (Builtin.SmallTypes.iterAll (us.map fun u=>Value.ref u.2.1)) Q E s:=by
 unfold Builtin.SmallTypes.iterAll
 refine wpAny_bind (jo us #[] s _ hs fun h' a1 s1 k1=>wpAny_pure ?_)
 have:=hQ h' a1 s1 k1
 simpa using this
theorem M8:∀ (us:List (Bool×Addr×Array Value)) (n:Nat),(i8 n us).length=us.length:=by
 intro us
 induction us with
 | nil=>intro n; rfl
 | cons u r ih=>intro n; unfold i8; rw [List.length_cons,ih,List.length_cons]
theorem fB (us:List (Bool×Addr×Array Value)) (hl:us.length<=sizeLine) :
  Meets (Builtin.«zip.__new__» ⟨.type "zip" :: us.map fun u=>Value.ref u.2.1,[]⟩) (fun _ R s=>(∀ u∈us,SrcAt s.heap u) /\
   ∀ h',(∀ v∈i8 s.heap.objs.size us,v.1.At h' 0)->C4 h' (s.heap.objs.size+us.length) ((i8 s.heap.objs.size us).map fun v=>Value.ref v.1.i).toArray ->
    (∃ arr,C4 h' (s.heap.objs.size+us.length+1) arr/\arr.size=us.length)->IsZip h' (s.heap.objs.size+us.length+2) (s.heap.objs.size+us.length) (s.heap.objs.size+us.length+1) .none ->
    (∀ b o,s.heap.get? b=some o->h'.get? b=some o)->R (.ok (.ret (.ref (s.heap.objs.size+us.length+2)))) { s with heap:=h' }):=
 .of_wp fun prog w A R s h=>by
  obtain ⟨hs,h⟩:=h
  show wpAny _ _ (Builtin.SmallTypes.newClass "zip" _>>=_) _ _ _
  refine wpAny_bind ?_
  unfold Builtin.SmallTypes.newClass
  refine wpAny_bind (wpAny_of_eq (a:=true) rfl ?_)
  simp only [Bool.not_true,Bool.false_eq_true,if_false]
  refine wpAny_bind (wpAny_of_eq (a:=true) sub_zip ?_)
  simp only [Bool.not_true,Bool.false_eq_true,if_false]
  refine wpAny_pure ?_
  simp only [List.length_nil,show ¬ (0>1) by decide,if_false]
  refine wpAny_bind (qF hs fun h1 a1 s1 k1=>?_)
  refine wpAny_bind (wpAny_newTuple ?_ (by simp [M8,hl]))
  refine wpAny_bind (wpAny_newTuple ?_ (by simp [M8,hl]))
  generalize hI:((i8 s.heap.objs.size us).map fun v=>Value.ref v.1.i)=I at h ⊢
  have hIl:I.length=us.length:=by rw [<- hI,List.length_map,M8]
  refine wpAny_bind ?_
  show wpAny _ _ (newObj (.type "zip") (.fields #[.none,.bool false,.bool false,.ref h1.objs.size,.ref (h1.push { cls:=.type "tuple",data:=.seq I.toArray }).objs.size]) none) _ _ _
  refine wpAny_newObj_type (wpAny_pure ?_) (by size_fits)
  have z0:h1.objs.size=s.heap.objs.size+us.length:=s1
  have z1:(h1.push { cls:=.type "tuple",data:=.seq I.toArray }).objs.size=s.heap.objs.size+us.length+1:=by rw [Heap.size_push,s1]
  have z2:((h1.push { cls:=.type "tuple",data:=.seq I.toArray }).push { cls:=.type "tuple",data:=.seq (I.map fun _=>Value.none).toArray }).objs.size=s.heap.objs.size+us.length+2:=by rw [Heap.size_push,z1]
  refine ⟨_,rfl,?_⟩
  have g:=h (((h1.push { cls:=.type "tuple",data:=.seq I.toArray }).push { cls:=.type "tuple",data:=.seq (I.map fun _=>Value.none).toArray }).push { cls:=.type "zip",data:=.fields #[.none,.bool false,.bool false,.ref h1.objs.size,.ref (h1.push { cls:=.type "tuple",data:=.seq I.toArray }).objs.size] })
   (fun v hv=>(a1 v hv).keep fun o e=>Heap.get?_push_of_some _ (Heap.get?_push_of_some _ (Heap.get?_push_of_some _ e))) ?_ ⟨(I.map fun _=>Value.none).toArray,?_,by simp [hIl]⟩ ?_ fun b o e=>Heap.get?_push_of_some _ (Heap.get?_push_of_some _ (Heap.get?_push_of_some _ (k1 b o e)))
  ·rw [<- z2] at g
   exact g
  ·rw [<- z0]; exact Heap.get?_push_of_some _ (Heap.get?_push_of_some _ (Heap.get?_push_size _ rfl))
  ·rw [<- z1]; exact Heap.get?_push_of_some _ (Heap.get?_push_size _ rfl)
  ·rw [<- z2,<- z1,<- z0]; exact Heap.get?_push_size _ rfl
theorem kD (a b c:Value):checkTypeCall "zip" ⟨[a,b,c],[]⟩=pure ():=by kernel_rfl
theorem kP (a b c:Value):checkBuiltinCall "zip.__new__" ⟨[.type "zip",a,b,c],[]⟩=pure ():=by kernel_rfl
theorem ly (a b c d:Value):argsOk "object.__init__" ⟨[a,b,c,d],[]⟩:=by
 unfold argsOk; rw [signature?_of (id := "object.__init__") (n:=['_','_','t','i','n','i','_','_']) (o:=['t','c','e','j','b','o']) (by kernel_rfl) F.owner_object]; kernel_rfl
theorem rB (us:List (Bool×Addr×Array Value)) (hl:us.length=2\/us.length=3) {Q:Value->Shared->Prop} (hs:∀ u∈us,SrcAt s.heap u)
  (h:∀ h',(∀ v∈i8 s.heap.objs.size us,v.1.At h' 0)->C4 h' (s.heap.objs.size+us.length) ((i8 s.heap.objs.size us).map fun v=>Value.ref v.1.i).toArray ->
    (∃ arr,C4 h' (s.heap.objs.size+us.length+1) arr/\arr.size=us.length)->IsZip h' (s.heap.objs.size+us.length+2) (s.heap.objs.size+us.length) (s.heap.objs.size+us.length+1) .none ->
    (∀ b o,s.heap.get? b=some o->h'.get? b=some o)->Q (.ref (s.heap.objs.size+us.length+2)) { s with heap:=h' }) :
  wpAny (model prog w) A (call (.type "zip") (us.map fun u=>Value.ref u.2.1)) Q E s:=by
 have hle:us.length<=sizeLine:=Nat.le_trans (show us.length<=3 by omega) (by decide)
 have k:∀ h',_->_->_->_->_->({ s with heap:=h' }:Shared).TypeIs (.ref (s.heap.objs.size+us.length+2)) "zip" /\ Q (.ref (s.heap.objs.size+us.length+2)) { s with heap:=h' }:=fun h' c1 c2 c3 c4 c5=>⟨⟨_,c4,rfl⟩,h h' c1 c2 c3 c4 c5⟩
 cases us with
 | nil=>rcases hl with hl | hl <;> cases hl
 | cons a us=>
  cases us with
  | nil=>rcases hl with hl | hl <;> cases hl
  | cons b us=>
   cases us with
   | nil=>exact callType_new F.called_zip (by decide) (F.typeCall_zip_2 _ _) (F.newCall_zip_2 _ _) (fun obj=>F.args_object_init_3 obj _ _) F.entry_zip_new (fB [a,b] hle) ⟨hs,k⟩
   | cons c us=>
    cases us with
    | nil=>exact callType_new F.called_zip (by decide) (kD _ _ _) (kP _ _ _) (fun obj=>ly obj _ _ _) F.entry_zip_new (fB [a,b,c] hle) ⟨hs,k⟩
    | cons d us=>rcases hl with hl | hl <;> (simp only [List.length_cons] at hl; omega)
end
end L2
namespace L2
open PySem PySem.Spec PyProof.Rows
theorem V4 {α β:Type} {R:α->β->Prop}:∀ {l:List α},(∀ a∈l,∃ b,R a b)->∃ l':List (α×β),l'.map (·.1)=l/\∀ p∈l',R p.1 p.2:=by
 intro l
 induction l with
 | nil=>exact fun _=>⟨[],rfl,fun _ h=>absurd h List.not_mem_nil⟩
 | cons a l ih=>
  intro h
  obtain ⟨b,hb⟩:=h a List.mem_cons_self
  obtain ⟨l',e,q⟩:=ih fun x hx=>h x (List.mem_cons_of_mem _ hx)
  refine ⟨(a,b)::l',by rw [List.map_cons,e],fun p hp=>?_⟩
  rcases List.mem_cons.mp hp with rfl | hp
  ·exact hb
  ·exact q p hp
def Sq (K:Frag) (H:Hp) (t:Bool) (a:Addr) (xs:List V):Prop:=if t=true then SqT K H a xs else SqL K H a xs
section
variable {X:Cx} {pins:List (Addr×Obj)} {σ:St} {H:Hp} {s:Shared}
theorem kne {b a:Addr} {o:Obj} (I:Inv X pins σ H s) (h:X.K.lookup a=some o) (f:x5 X pins H b):a≠b:=by
 intro e
 subst e
 have hb:X.base.get? a=some o:=I.mod.kin a o h
 obtain ⟨f0,f1,f2,f3,f4,f5⟩:=f
 rcases f3 with z | z
 ·exact I.ok.noex a o hb z
 ·exact absurd (Nat.lt_of_lt_of_le (Heap.lt_size (I.ok.bs a o hb).1) z) (Nat.lt_irrefl _)
theorem Sq.ne {t:Bool} {a b:Addr} {xs:List V} (I:Inv X pins σ H s) (h:Sq X.K H t a xs) (f:x5 X pins H b):a≠b:=by
 have tr:∀ {u:HO},Rd H a u->a≠b:=fun {u} r e=>by
  subst e
  have f0:=f.1
  rcases r with r | ⟨o,r⟩ <;> (rw [f0] at r; cases r)
 unfold Sq at h
 split at h
 ·rcases h with h | ⟨o,its,n,hk,_⟩
  ·exact tr h
  ·exact kne I hk f
 ·rcases h with h | ⟨o,its,n,hk,_⟩
  ·exact tr h
  ·exact kne I hk f
theorem Sq.src {t:Bool} {a:Addr} {xs:List V} (I:Inv X pins σ H s) (h:Sq X.K H t a xs):∃ its:List Value,Vals xs its/\(Sub.mk t 0 a).Src s.heap its.toArray:=by
 unfold Sq at h
 unfold Sub.Src
 split at h
 ·rename_i ht
  obtain ⟨its,r,p,_⟩:=I.tuple h
  exact ⟨its,r,by simp only [ht,if_true]; exact p⟩
 ·rename_i ht
  obtain ⟨its,r,p,_⟩:=I.list h
  exact ⟨its,r,by simp only [ht,if_false]; exact p.isList⟩
theorem Sq.inj {t:Bool} {a:Addr} {xs ys:List V} (I:Inv X pins σ H s) (h:Sq X.K H t a xs) (h':Sq X.K H t a ys):xs=ys:=by
 unfold Sq at h h'
 split at h
 ·rename_i ht; simp only [ht,if_true] at h'; exact I.tuple_inj h h'
 ·rename_i ht; simp only [ht,if_false] at h'; exact I.list_inj h h'
end
def ItZ (K:Frag) (us:List (Bool×Addr)):It:=
  ⟨fun i H=>∀ u∈us,∃ xs x,Sq K H u.1 u.2 xs/\xs[i]?=some x,
   fun i H x H'=>∃ p ys,x=.ref p/\H p=none/\H'=upd H p (.tup ys)/\Paired (fun (u:Bool×Addr) (y:V)=>∀ xs,Sq K H u.1 u.2 xs->xs[i]?=some y) us ys,
   fun i H=>(∀ u∈us,∃ xs,Sq K H u.1 u.2 xs)/\∃ u∈us,∃ xs,Sq K H u.1 u.2 xs/\xs.length<=i⟩
structure ZSt (z TI TO:Addr) (subs:List Sub):Prop where
 zTO:z≠TO
 TIz:TI≠z
 TITO:TI≠TO
 zi:∀ u∈subs,u.i≠z
 ti:∀ u∈subs,u.i≠TO
 Ii:∀ u∈subs,u.i≠TI
 nd:subs.Pairwise fun u v=>u.i≠v.i
abbrev zTn (z TI TO:Addr) (subs:List Sub) (i:Nat) (h:Heap):Prop:=
 IsZip h z TI TO .none/\C4 h TI (subs.map fun u=>Value.ref u.i).toArray/\(∃ arr,C4 h TO arr/\arr.size=subs.length)/\∀ u∈subs,u.At h i
theorem Y7 {α β γ:Type} {F:α->γ->Prop} {f:β->α} {g:β->γ}:∀ {l:List β},(∀ b∈l,F (f b) (g b))->Paired F (l.map f) (l.map g)
 | [],_=>.nil
 | _::_,h=>.cons (h _ List.mem_cons_self) (Y7 fun b hb=>h b (List.mem_cons_of_mem _ hb))
theorem oZ {P:Program} {w:World} {K:Frag} {elts:List Expr} {k:Nat} {tp:Pos} {z TI TO:Addr} {subs:List Sub} (D:ZSt z TI TO subs) (hne:subs ≠ []) (hln:subs.length<=sizeLine) :
  Turn P w K (.Tuple elts k tp) (ItZ K (subs.map fun u=>(u.t,u.l))) (z::TI::TO::subs.map (·.i)) z (zTn z TI TO subs) where
 mem:=by simp
 obj:=fun i h st b hb=>by
  obtain ⟨hz,hTI,⟨arr,hTO,_⟩,hs⟩:=st
  simp only [List.mem_cons,List.mem_map] at hb
  rcases hb with rfl | rfl | rfl | ⟨u,hu,rfl⟩
  ·exact ⟨_,hz,fun v q=>by cases q⟩
  ·exact ⟨_,hTI,fun v q=>by cases q⟩
  ·exact ⟨_,hTO,fun v q=>by cases q⟩
  ·obtain ⟨o,e,d⟩:=(hs u hu).obj
   exact ⟨o,e,fun v q=>by rw [d] at q; cases q⟩
 keep:=fun i h h' st kp=>by
  obtain ⟨hz,hTI,⟨arr,hTO,ha⟩,hs⟩:=st
  exact ⟨kp z (by simp) _ hz,kp TI (by simp) _ hTI,⟨arr,kp TO (by simp) _ hTO,ha⟩,fun u hu=>(hs u hu).keep fun o e=>kp u.i (by simp only [List.mem_cons,List.mem_map]; exact .inr (.inr (.inr ⟨u,hu,rfl⟩))) o e⟩
 item:=by
  intro X hP hw hK hc i pins s σ H E I hf st hg
  subst hP hw hK
  obtain ⟨hz,hTI,⟨arr,hTO,ha⟩,hs⟩:=st
  have fz:=hf z (by simp)
  have fT:=hf TO (by simp)
  have fi:∀ u∈subs,x5 X pins H u.i:=fun u hu=>hf u.i (by simp only [List.mem_cons,List.mem_map]; exact .inr (.inr (.inr ⟨u,hu,rfl⟩)))
  obtain ⟨ss,ess,hss⟩:=V4 (R:=fun (u:Sub) (q:List Value×List V×V)=>Sq X.K H u.t u.l q.2.1/\Vals q.2.1 q.1/\u.Src s.heap q.1.toArray/\q.2.1[i]?=some q.2.2) (l:=subs) (fun u hu=>by
   obtain ⟨xs,x,h1,h2⟩:=hg (u.t,u.l) (List.mem_map.mpr ⟨u,hu,rfl⟩)
   obtain ⟨its,r,hsrc⟩:=Sq.src I h1
   exact ⟨(its,xs,x),h1,r,hsrc,h2⟩)
  have mss:∀ v∈ss,v.1∈subs:=fun v hv=>by rw [<- ess]; exact List.mem_map.mpr ⟨v,hv,rfl⟩
  have nd2:ss.Pairwise fun u v=>u.1.i≠v.1.i:=by
   have:=D.nd
   rw [<- ess,List.pairwise_map] at this
   exact this
  have DA:Apart z TO (ss.map fun v=>(v.1,v.2.1.toArray)):=by
   refine ⟨D.zTO,?_,?_,?_,?_,?_,?_⟩
   ·rintro _ hu; obtain ⟨v,hv,rfl⟩:=List.mem_map.mp hu; exact D.zi _ (mss v hv)
   ·rintro _ hu; obtain ⟨v,hv,rfl⟩:=List.mem_map.mp hu; exact D.ti _ (mss v hv)
   ·rw [List.pairwise_map]; exact nd2
   ·rintro _ hu; obtain ⟨v,hv,rfl⟩:=List.mem_map.mp hu; exact Sq.ne I (hss v hv).1 fz
   ·rintro _ hu; obtain ⟨v,hv,rfl⟩:=List.mem_map.mp hu; exact Sq.ne I (hss v hv).1 fT
   ·rintro _ hu _ hu2; obtain ⟨v,hv,rfl⟩:=List.mem_map.mp hu; obtain ⟨v2,hv2,rfl⟩:=List.mem_map.mp hu2; exact Sq.ne I (hss v hv).1 (fi _ (mss v2 hv2))
  have el:(ss.map fun v=>(v.1,v.2.1.toArray)).length=subs.length:=by rw [List.length_map,<- ess,List.length_map]
  have eI:((ss.map fun v=>(v.1,v.2.1.toArray)).map fun u=>Value.ref u.1.i)=subs.map fun u=>Value.ref u.i:=by rw [<- ess,List.map_map,List.map_map]; rfl
  have ys:∀ v∈ss,∃ u,v.2.1.toArray[i]?=some u/\RelV v.2.2.2 u:=fun v hv=>by
   obtain ⟨u,e,r⟩:=(hss v hv).2.1.get (hss v hv).2.2.2
   exact ⟨u,by simpa using e,r⟩
  refine oR (n:=i) DA (by intro q; apply hne; have:=congrArg List.length q; rw [el] at this; exact List.length_eq_zero_iff.mp this) (by rw [ha,el]) (by rw [el]; exact hln) hz (by rw [eI]; exact hTI) hTO (fun u hu=>?_) fun h1 z1 T1 a1 p1 k1=>?_
  ·obtain ⟨v,hv,rfl⟩:=List.mem_map.mp hu
   obtain ⟨u,e,_⟩:=ys v hv
   exact ⟨hs _ (mss v hv),(hss v hv).2.2.1,u,e⟩
  refine ⟨_,rfl,wpAny_letOwnedTupleGo_zip z1 fun h2 z2 sb2=>?_⟩
  have hzl:z<s.heap.objs.size:=Heap.lt_size hz
  have kp:∀ b o,b≠z->b≠TO->(∀ u∈subs,b≠u.i)->s.heap.get? b=some o->h2.get? b=some o:=fun b o b1 b2 b3 e=>sb2.extBut _ _ b1 (k1 b o b1 b2 (fun u hu=>by obtain ⟨v,hv,rfl⟩:=List.mem_map.mp hu; exact b3 _ (mss v hv)) e)
  have hfr:H s.heap.objs.size=none:=I.hok.fresh (Nat.le_refl _)
  have trk:∀ b u,H b=some u->b≠z/\b≠TO/\∀ v∈subs,b≠v.i:=fun b u e=>⟨fun q=>(by subst q; rw [fz.1] at e; cases e),fun q=>(by subst q; rw [fT.1] at e; cases e),fun v hv q=>(by subst q; rw [(fi v hv).1] at e; cases e)⟩
  have hP2:C4 h2 s.heap.objs.size (ss.map fun v=>v.2.1.toArray.getD i .none).toArray:=by
   have:=sb2.extBut _ _ (Nat.ne_of_gt hzl) p1
   rw [List.map_map] at this
   exact this
  have rel:Vals (ss.map fun v=>v.2.2.2) (ss.map fun v=>v.2.1.toArray.getD i .none):=Y7 fun v hv=>by
   obtain ⟨u,e,r⟩:=ys v hv
   rw [show v.2.1.toArray.getD i Value.none=u by simp only [Array.getD_eq_getD_getElem?,e,Option.getD_some]]
   exact r
  have len:(ss.map fun v=>v.2.2.2).length<=sizeLine:=by rw [List.length_map,show ss.length=subs.length by rw [<- ess,List.length_map]]; exact hln
  refine ⟨.ref s.heap.objs.size,upd H s.heap.objs.size (.tup (ss.map fun v=>v.2.2.2)),?_,rfl,⟨_,_,rfl,hfr,rfl,?_⟩,⟨z2,?_,?_,fun u hu=>?_⟩,fun b hb=>?_⟩
  ·show Inv X pins σ _ { s with heap:=h2 }
   refine I.step (g':=s.gens) (t':=s.toks) (d':=s.drawn) (ch:=z::TO::subs.map (·.i)) (fun b hb=>?_) (fun b o _ _ hc e _=>kp b o ?_ ?_ ?_ e) (fun b o _ _ hc e _=>⟨o.slots,kp b o ?_ ?_ ?_ e⟩) (fun b o hc e n=>?_) (fun b o hc e=>⟨o,kp b o ?_ ?_ ?_ e⟩) (fun b xs e=>?_) (fun b o u e=>?_) (fun b ps e=>?_) (fun m hm=>?_) ?_ I.bare
   ·simp only [List.mem_cons,List.mem_map] at hb
    rcases hb with rfl | rfl | ⟨u,hu,rfl⟩
    ·exact ⟨fz.2.2.2.1,fz.2.1,fz.2.2.2.2.1,fz.2.2.2.2.2⟩
    ·exact ⟨fT.2.2.2.1,fT.2.1,fT.2.2.2.2.1,fT.2.2.2.2.2⟩
    ·have f:=fi u hu; exact ⟨f.2.2.2.1,f.2.1,f.2.2.2.2.1,f.2.2.2.2.2⟩
   all_goals first
    | (intro q; exact hc (by simp [q]; done))
    | (intro u hu q; exact hc (by rw [q]; exact List.mem_cons_of_mem _ (List.mem_cons_of_mem _ (List.mem_map.mpr ⟨u,hu,rfl⟩))))
    | skip
   ·rw [d8 (Nat.ne_of_lt (Heap.lt_size e))]; exact n
   ·rw [d8 (f7 e hfr)]; exact e
   ·rw [d8 (f7 e hfr)]; exact e
   ·rw [d8 (f7 e hfr)]; exact e
   ·obtain ⟨o,es,ep,ho,r⟩:=hm
    exact ⟨o,es,ep,kp _ o (Ne.symm fz.2.1) (Ne.symm fT.2.1) (fun u hu=>Ne.symm (fi u hu).2.1) ho,r⟩
   ·intro b u e
    by_cases hb:b=s.heap.objs.size
    ·subst hb
     rw [i7] at e; cases e
     exact ⟨len,_,rel,⟨_,hP2,rfl,_,rfl⟩⟩
    ·rw [d8 hb] at e
     refine (I.hok b u e).stay (fun c v hcc q=>?_) (fun c q=>by rw [d8 (f7 q hfr)]; exact q) fun c xs q=>by rw [d8 (f7 q hfr)]; exact q
     rcases hcc with rfl | hcc
     ·exact kp _ v (trk _ _ e).1 (trk _ _ e).2.1 (trk _ _ e).2.2 q
     ·exact kp _ v (trk _ _ hcc).1 (trk _ _ hcc).2.1 (trk _ _ hcc).2.2 q
  ·rw [<- ess,List.map_map]
   exact Y7 fun v hv xs hx=>by rw [Sq.inj I hx (hss v hv).1]; exact (hss v hv).2.2.2
  ·exact kp TI _ D.TIz D.TITO (fun u hu=>Ne.symm (D.Ii u hu)) hTI
  ·obtain ⟨arr',hT',ha'⟩:=T1
   exact ⟨arr',sb2.extBut _ _ D.zTO.symm hT',by rw [ha',el]⟩
  ·have hv:∃ v∈ss,v.1=u:=by rw [<- ess] at hu; exact List.mem_map.mp hu
   obtain ⟨v,hv,rfl⟩:=hv
   exact (a1 (v.1,v.2.1.toArray) (List.mem_map.mpr ⟨v,hv,rfl⟩)).keep fun o e=>sb2.extBut _ _ (D.zi _ (mss v hv)) e
  ·have:b≠s.heap.objs.size:=by
    simp only [List.mem_cons,List.mem_map] at hb
    rcases hb with rfl | rfl | rfl | ⟨u,hu,rfl⟩
    ·exact Nat.ne_of_lt hzl
    ·exact Nat.ne_of_lt (Heap.lt_size hTI)
    ·exact Nat.ne_of_lt (Heap.lt_size hTO)
    ·obtain ⟨o,e,_⟩:=(hs u hu).obj; exact Nat.ne_of_lt (Heap.lt_size e)
   rw [d8 this]
   exact (hf b hb).1
 done:=by
  intro X hP hw hK hc i pins s σ H E I hf st hg
  subst hP hw hK
  obtain ⟨hz,hTI,⟨arr,hTO,ha⟩,hs⟩:=st
  obtain ⟨hall,u0,hu0,xs0,hq0,hl0⟩:=hg
  have fz:=hf z (by simp)
  have fT:=hf TO (by simp)
  have fi:∀ u∈subs,x5 X pins H u.i:=fun u hu=>hf u.i (by simp only [List.mem_cons,List.mem_map]; exact .inr (.inr (.inr ⟨u,hu,rfl⟩)))
  obtain ⟨ss,ess,hss⟩:=V4 (R:=fun (u:Sub) (q:List Value×List V)=>Sq X.K H u.t u.l q.2/\Vals q.2 q.1/\u.Src s.heap q.1.toArray) (l:=subs) (fun u hu=>by
   obtain ⟨xs,h1⟩:=hall (u.t,u.l) (List.mem_map.mpr ⟨u,hu,rfl⟩)
   obtain ⟨its,r,hsrc⟩:=Sq.src I h1
   exact ⟨(its,xs),h1,r,hsrc⟩)
  have mss:∀ v∈ss,v.1∈subs:=fun v hv=>by rw [<- ess]; exact List.mem_map.mpr ⟨v,hv,rfl⟩
  have nd2:ss.Pairwise fun u v=>u.1.i≠v.1.i:=by
   have:=D.nd
   rw [<- ess,List.pairwise_map] at this
   exact this
  have DA:Apart z TO (ss.map fun v=>(v.1,v.2.1.toArray)):=by
   refine ⟨D.zTO,?_,?_,?_,?_,?_,?_⟩
   ·rintro _ hu; obtain ⟨v,hv,rfl⟩:=List.mem_map.mp hu; exact D.zi _ (mss v hv)
   ·rintro _ hu; obtain ⟨v,hv,rfl⟩:=List.mem_map.mp hu; exact D.ti _ (mss v hv)
   ·rw [List.pairwise_map]; exact nd2
   ·rintro _ hu; obtain ⟨v,hv,rfl⟩:=List.mem_map.mp hu; exact Sq.ne I (hss v hv).1 fz
   ·rintro _ hu; obtain ⟨v,hv,rfl⟩:=List.mem_map.mp hu; exact Sq.ne I (hss v hv).1 fT
   ·rintro _ hu _ hu2; obtain ⟨v,hv,rfl⟩:=List.mem_map.mp hu; obtain ⟨v2,hv2,rfl⟩:=List.mem_map.mp hu2; exact Sq.ne I (hss v hv).1 (fi _ (mss v2 hv2))
  have el:(ss.map fun v=>(v.1,v.2.1.toArray)).length=subs.length:=by rw [List.length_map,<- ess,List.length_map]
  have eI:((ss.map fun v=>(v.1,v.2.1.toArray)).map fun u=>Value.ref u.1.i)=subs.map fun u=>Value.ref u.i:=by rw [<- ess,List.map_map,List.map_map]; rfl
  refine oQ (n:=i) (I.ok.hd hc) DA (by rw [ha,el]) (by rw [el]; exact hln) hz (by rw [eI]; exact hTI) hTO (fun u hu=>?_) ?_ fun h1 k1=>⟨rfl,?_⟩
  ·obtain ⟨v,hv,rfl⟩:=List.mem_map.mp hu
   exact ⟨hs _ (mss v hv),(hss v hv).2.2⟩
  ·obtain ⟨u,hu,e0⟩:=List.mem_map.mp hu0
   have hv:∃ v∈ss,v.1=u:=by rw [<- ess] at hu; exact List.mem_map.mp hu
   obtain ⟨v,hv,rfl⟩:=hv
   subst e0
   refine ⟨(v.1,v.2.1.toArray),List.mem_map.mpr ⟨v,hv,rfl⟩,?_⟩
   have e1:=Sq.inj I (hss v hv).1 hq0
   have e2:=(hss v hv).2.1.length
   rw [e1] at e2
   simp only [List.getElem?_toArray]
   exact List.getElem?_eq_none (by omega)
  ·have kp:∀ b o,b≠z->b≠TO->(∀ u∈subs,b≠u.i)->s.heap.get? b=some o->h1.get? b=some o:=fun b o b1 b2 b3 e=>k1 b o b1 b2 (fun u hu=>by obtain ⟨v,hv,rfl⟩:=List.mem_map.mp hu; exact b3 _ (mss v hv)) e
   have trk:∀ b u,H b=some u->b≠z/\b≠TO/\∀ v∈subs,b≠v.i:=fun b u e=>⟨fun q=>(by subst q; rw [fz.1] at e; cases e),fun q=>(by subst q; rw [fT.1] at e; cases e),fun v hv q=>(by subst q; rw [(fi v hv).1] at e; cases e)⟩
   refine I.step (g':=s.gens) (t':=s.toks) (d':=s.drawn) (ch:=z::TO::subs.map (·.i)) (fun b hb=>?_) (fun b o _ _ hc e _=>kp b o ?_ ?_ ?_ e) (fun b o _ _ hc e _=>⟨o.slots,kp b o ?_ ?_ ?_ e⟩) (fun b o hc e n=>n) (fun b o hc e=>⟨o,kp b o ?_ ?_ ?_ e⟩) (fun b xs e=>e) (fun b o u e=>e) (fun _ _ e=>e) (fun m hm=>?_) (fun b u e=>?_) I.bare
   ·simp only [List.mem_cons,List.mem_map] at hb
    rcases hb with rfl | rfl | ⟨u,hu,rfl⟩
    ·exact ⟨fz.2.2.2.1,fz.2.1,fz.2.2.2.2.1,fz.2.2.2.2.2⟩
    ·exact ⟨fT.2.2.2.1,fT.2.1,fT.2.2.2.2.1,fT.2.2.2.2.2⟩
    ·have f:=fi u hu; exact ⟨f.2.2.2.1,f.2.1,f.2.2.2.2.1,f.2.2.2.2.2⟩
   all_goals first
    | (intro q; exact hc (by simp [q]; done))
    | (intro u hu q; exact hc (by rw [q]; exact List.mem_cons_of_mem _ (List.mem_cons_of_mem _ (List.mem_map.mpr ⟨u,hu,rfl⟩))))
    | skip
   ·obtain ⟨o,es,ep,ho,r⟩:=hm
    exact ⟨o,es,ep,kp _ o (Ne.symm fz.2.1) (Ne.symm fT.2.1) (fun u hu=>Ne.symm (fi u hu).2.1) ho,r⟩
   ·refine (I.hok b u e).stay (fun c v hcc q=>?_) (fun c q=>q) fun c xs q=>q
    rcases hcc with rfl | hcc
    ·exact kp _ v (trk _ _ e).1 (trk _ _ e).2.1 (trk _ _ e).2.2 q
    ·exact kp _ v (trk _ _ hcc).1 (trk _ _ hcc).2.1 (trk _ _ hcc).2.2 q
 self:=fun _ _ _ _ _ st h=>wpAny_pyIter_zip st.1 h
def zx (K:Frag) (ta:TA):TI:=fun σ H R=>ta σ H fun vs H1=>∃ us:List (Bool×Addr),vs=us.map (fun u=>V.ref u.2)/\(us.length=2\/us.length=3)/\(∀ u∈us,∃ xs,Sq K H1 u.1 u.2 xs)/\R (ItZ K us) H1
theorem neN {a b:Nat} (h:a≠b):(a:Addr)≠b:=h
theorem lM:∀ {us:List (Bool×Addr)} {vs:List Value},Vals (us.map fun u=>V.ref u.2) vs->vs=us.map fun u=>Value.ref u.2:=by
 intro us
 induction us with
 | nil=>intro vs h; cases h; rfl
 | cons u us ih=>
  intro vs h
  cases h with
  | cons r t=>
   have r':_=Value.ref _:=r
   rw [r',ih t]; rfl
theorem aG:∀ (us:List (Bool×Addr×Array Value)) (n:Nat),∀ v∈i8 n us,n<=v.1.i/\n+us.length>v.1.i:=by
 intro us
 induction us with
 | nil=>exact fun _ _ h=>absurd h List.not_mem_nil
 | cons u r ih=>
  intro n v h
  rcases List.mem_cons.mp h with rfl | h
  ·exact ⟨Nat.le_refl _,by show n+(r.length+1)>n; omega⟩
  ·have:=ih (n+1) v h
   rw [List.length_cons]; omega
theorem jB:∀ (us:List (Bool×Addr×Array Value)) (n:Nat),(i8 n us).Pairwise fun u v=>u.1.i≠v.1.i
 | [],_=>.nil
 | u::r,n=>by
  refine List.pairwise_cons.mpr ⟨fun v hv=>?_,jB r (n+1)⟩
  have:=aG r (n+1) v hv
  show (n:Nat)≠v.1.i
  omega
theorem gn:∀ (us:List (Bool×Addr×Array Value)) (n:Nat),(i8 n us).map (fun u=>(u.1.t,u.1.l))=us.map fun u=>(u.1,u.2.1)
 | [],_=>rfl
 | u::r,n=>by unfold i8; rw [List.map_cons,gn r,List.map_cons]
section
variable {X:Cx}
theorem yk {a:Expr} {es elts:List Expr} {ta:TA} {p pos tp:Pos} {k:Nat} (hg:Gl X "zip") (hm:X.mg "zip" = none) (ha:PA X (a::es) ta) (hs:starEach (a::es) X.env=(false,eval a X.env)::starEach es X.env:=by rfl)
  (hpl:(backTo pos (starEach es X.env)).any (·.1)=false:=by rfl):PI X (.Tuple elts k tp) (.Call (.Name "zip" p) (a::es) [] pos) (zx X.K ta):=by
 intro pins s σ H R I h
 refine Call_ (K7 I hg hm boot_zip (PyProof.Rows.callWith_type1 (thn (ha pos pins s σ H _ I h) fun vs s1 zz60=>?_) hs hpl))
 obtain ⟨xs,H1,I1,r1,us,e1,hl,hsq,q⟩:=zz60
 subst e1
 have e2:=lM r1
 subst e2
 obtain ⟨ws,ew,hws⟩:=V4 (R:=fun (u:Bool×Addr) (its:Array Value)=>SrcAt s1.heap (u.1,u.2,its)) (l:=us) (fun u hu=>by
  obtain ⟨ys,hy⟩:=hsq u hu
  obtain ⟨its,_,hsrc⟩:=Sq.src I1 hy
  exact ⟨its.toArray,by unfold SrcAt; unfold Sub.Src at hsrc; exact hsrc⟩)
 have ev:us.map (fun u=>Value.ref u.2)=(ws.map fun w=>(w.1.1,w.1.2,w.2)).map fun u=>Value.ref u.2.1:=by rw [<- ew,List.map_map,List.map_map]; rfl
 have el:(ws.map fun w=>(w.1.1,w.1.2,w.2)).length=us.length:=by rw [<- ew,List.length_map,List.length_map]
 rw [ev]
 generalize hW:(ws.map fun w=>(w.1.1,w.1.2,w.2))=W at el ev
 have hsw:∀ u∈W,SrcAt s1.heap u:=fun u hu=>by
  rw [<- hW] at hu
  obtain ⟨w,hw,rfl⟩:=List.mem_map.mp hu
  exact hws w hw
 refine rB W (by rw [el]; exact hl) hsw fun h' hA hTI hTO hz hk=>wpAny_pyIter_zip hz ?_
 have I2:Inv X pins σ H1 { s1 with heap:=h' }:=I1.kept (t':=s1.toks) hk
 have eS:((i8 s1.heap.objs.size W).map (·.1)).map (fun u=>(u.t,u.l))=us:=by
  rw [List.map_map]
  show (i8 s1.heap.objs.size W).map (fun u=>(u.1.t,u.1.l))=us
  rw [gn,<- hW,List.map_map,<- ew]
  rfl
 have D:ZSt (s1.heap.objs.size+W.length+2) (s1.heap.objs.size+W.length) (s1.heap.objs.size+W.length+1) ((i8 s1.heap.objs.size W).map (·.1)):=by
  refine ⟨neN (by omega),neN (by omega),neN (by omega),?_,?_,?_,?_⟩
  ·rintro _ hu; obtain ⟨v,hv,rfl⟩:=List.mem_map.mp hu; have:=aG W _ v hv; exact neN (by omega)
  ·rintro _ hu; obtain ⟨v,hv,rfl⟩:=List.mem_map.mp hu; have:=aG W _ v hv; exact neN (by omega)
  ·rintro _ hu; obtain ⟨v,hv,rfl⟩:=List.mem_map.mp hu; have:=aG W _ v hv; exact neN (by omega)
  ·rw [List.pairwise_map]; exact jB W _
 have ls:((i8 s1.heap.objs.size W).map (·.1)).length=W.length:=by rw [List.length_map,M8]
 have TZ:=oZ (P:=X.prog) (w:=X.w) (K:=X.K) (elts:=elts) (k:=k) (tp:=tp) D (by intro q; have:=congrArg List.length q; rw [ls,el] at this; have h0:us.length=0:=this; omega) (by rw [ls,el]; exact Nat.le_trans (show us.length<=3 by omega) (by decide))
 rw [eS] at TZ
 refine ⟨_,_,_,_,H1,rfl,I2,TZ,⟨hz,?_,?_,fun u hu=>?_⟩,fun b hb=>?_,q⟩
 ·rw [List.map_map]; exact hTI
 ·obtain ⟨arr,h1,h2⟩:=hTO
  exact ⟨arr,h1,by rw [ls]; exact h2⟩
 ·obtain ⟨v,hv,rfl⟩:=List.mem_map.mp hu
  exact hA v hv
 ·have hb':s1.heap.objs.size<=b:=by
   simp only [List.mem_cons,List.mem_map] at hb
   rcases hb with rfl | rfl | rfl | ⟨_,⟨v,hv,rfl⟩,rfl⟩
   ·omega
   ·omega
   ·omega
   ·exact (aG W _ v hv).1
  have f:=I1.fpOk (H':=H1) hb' (I1.hok.fresh hb')
  exact f
end
end L2
namespace L2
open PySem PySem.Spec PyProof.Rows
theorem t6 (cs:Scope) (env:Env) (x:Str):(relabel cs env).names.lookup x=(cs.names.lookup x).map fun k=>if (k == .free&&env.scope.kind == .function&&env.kindOf x == some .cell)=true then .cell else k:=by
 unfold relabel
 show List.lookup x (cs.names.map _)=_
 induction cs.names with
 | nil=>rfl
 | cons p r ih=>
  obtain ⟨n,k⟩:=p
  by_cases hx:x=n
  ·subst hx
   rw [List.map_cons]
   simp only [List.lookup_cons]
   split <;> simp_all
  ·have hb:(x == n)=false:=by simpa using hx
   have er:List.lookup x ((n,k)::r)=List.lookup x r:=by rw [List.lookup_cons,hb]
   rw [List.map_cons,er]
   refine Eq.trans ?_ ih
   dsimp only
   by_cases hc:(k == NameKind.free&&env.scope.kind == ScopeKind.function&&env.kindOf n == some NameKind.cell)=true
   ·rw [if_pos hc,List.lookup_cons,hb]
   ·rw [if_neg hc,List.lookup_cons,hb]
theorem P5 {env : Env} : ∀ (names : List (Str × NameKind)) (cs0 : List (Str × Addr)), (∀ x ∈ names, x.2 = .free -> ∃ c, env.cells.lookup x.1 = some c) -> (∀ x c, cs0.lookup x = some c -> env.cells.lookup x = some c) ->
    ∃ cl, (forIn (m := Sem) names cs0 fun x __s => if (x.snd == NameKind.free) = true then do
              let __do_lift <- cellOf env x.fst
              pure (ForInStep.yield ((x.fst, __do_lift) :: __s))
            else pure (ForInStep.yield __s)) = pure cl /\ (∀ x c, cl.lookup x = some c -> env.cells.lookup x = some c) /\ (∀ x, (x, NameKind.free) ∈ names -> ∃ c, cl.lookup x = some c) /\ ∀ x c, cs0.lookup x = some c -> ∃ c', cl.lookup x = some c' := by
  intro names
  induction names with
  | nil =>
    intro cs0 _ h0
    exact ⟨cs0, by simp only [List.forIn_nil], h0, fun _ h => absurd h List.not_mem_nil, fun _ c h => ⟨c, h⟩⟩
  | cons p r ih =>
    intro cs0 hf h0
    obtain ⟨n, k⟩ := p
    by_cases hk : k = .free
    · subst hk
      obtain ⟨c, hc⟩ := hf (n, .free) List.mem_cons_self rfl
      obtain ⟨cl, e, h1, h2, h3⟩ := ih ((n, c) :: cs0) (fun x hx => hf x (List.mem_cons_of_mem _ hx)) (fun x c' hx => by
        rw [List.lookup_cons] at hx
        split at hx
        · rename_i hb
          have hxn : x = n := by simpa using hb
          cases hx; rw [hxn]; exact hc
        · exact h0 x c' hx)
      have hn : ∃ c', cl.lookup n = some c' := h3 n c (by simp)
      refine ⟨cl, ?_, h1, fun x hx => ?_, fun x c' hx => ?_⟩
      · rw [List.forIn_cons]
        simp only [beq_self_eq_true, if_true, cellOf, hc]
        exact e
      · rcases List.mem_cons.mp hx with q | hx
        · cases q; exact hn
        · exact h2 x hx
      · by_cases hxn : x = n
        · subst hxn; exact hn
        · exact h3 x c' (by
            have hb : (x == n) = false := by simpa using hxn
            rw [List.lookup_cons, hb]; exact hx)
    · have hb : (k == NameKind.free) = false := by simpa using hk
      obtain ⟨cl, e, h1, h2, h3⟩ := ih cs0 (fun x hx => hf x (List.mem_cons_of_mem _ hx)) h0
      refine ⟨cl, ?_, h1, fun x hx => ?_, h3⟩
      · rw [List.forIn_cons]
        simp only [hb, Bool.false_eq_true, if_false]
        exact e
      · rcases List.mem_cons.mp hx with q | hx
        · cases q; exact absurd rfl hk
        · exact h2 x hx
structure f8 (sc cs:Scope) (N N':List Str):Prop where
 kind:cs.kind=.function
 ncell:∀ x∈cs.names,x.2≠.cell
 loc:∀ x∈cs.names,x.2=.local->cs.names.lookup x.1=some .local
 free:∀ x∈cs.names,x.2=.free->sc.names.lookup x.1=some .cell\/sc.names.lookup x.1=some .free
 nd:N'.Nodup
 len:N.length<=N'.length
 same:∀ i∈List.range N.length,N'[i]?=N[i]?\/∀ x∈N'[i]?,cs.names.lookup x=none
 out:∀ x∈N'.take N.length,cs.names.lookup x≠some .local
abbrev j5 (X:Cx) (cs:Scope) (cl:List (Str×Addr)) (N':List Str) (ex:List Addr) (s:Shared) (H:Hp):Cx:=
 { X with N:=N',s₀:=s,H₀:=H,env:=compEnvC cs cl s.heap.objs.size X.env,outer:=X.stack,stack:=X.stack,ex:=ex,fn:=fun _=>false,pn:=[],xe:=fun _ _=>False }
def inner (N':List Str) (σ:St):St:=σ++List.replicate (N'.length-σ.length) none
theorem U0 {N':List Str} {σ:St} {i:Nat} {v:V} (h:(inner N' σ)[i]?=some (some v)):σ[i]?=some (some v):=by
 unfold inner at h
 by_cases hi:i<σ.length
 ·rwa [List.getElem?_append_left hi] at h
 ·rw [List.getElem?_append_right (by omega),List.getElem?_replicate] at h
  split at h <;> cases h
theorem rA {X:Cx} {pins:List (Addr×Obj)} {σ:St} {H:Hp} {s3 s4:Shared} {cs:Scope} {cl:List (Str×Addr)} {N':List Str} {fp:List Addr} {m:Str->Option Value} (S:f8 X.env.scope cs X.N N') (I:Inv X pins σ H s3)
  (hcl1:∀ x c,cl.lookup x=some c->X.env.cells.lookup x=some c) (hcl2:∀ x,(x,NameKind.free)∈cs.names->∃ c,cl.lookup x=some c) (hf:∀ b∈fp,x5 X pins H b) (hlt:∀ b∈fp,b<s3.heap.objs.size)
  (kp:∀ b o,s3.heap.get? b=some o->s4.heap.get? b=some o) (hn:s4.heap.Ns s3.heap.objs.size m) (hos:s4.os=s3.os) (hg:s4.gens=s3.gens):Inv (j5 X cs cl N' fp s3 H) [] (inner N' σ) H s4:=by
 have kcell:∀ {c:Addr} {v:Option Value},s3.heap.IsCell c v->s4.heap.IsCell c v:=fun {c v} z=>by obtain ⟨o,e,d⟩:=z; exact ⟨o,kp c o e,d⟩
 refine ⟨⟨I.ok.mod,S.kind,I.ok.glob,I.ok.blt,Nat.le_refl _,fun x y c h1 h2=>I.ok.inj x y c (hcl1 x c h1) (hcl1 y c h2),fun x hx=>?_,fun x c h _=>absurd (show false=true from h) (by decide),I.ok.hd,I.ok.frames,.inl rfl,fun b hb=>⟨?_,fun x c e=>(hf b hb).2.2.2.2.1 x c (hcl1 x c e)⟩,I.bs,Nat.le_trans I.ok.bsz I.sz,fun b o e hb=>?_,fun b hb hfs=>?_,I.stack,I.stkFree,I.tab⟩,
  hos,by rw [hg]; exact I.bare,Un.kept kp,⟨m,hn,fun i x v e1 e2 e3=>?_⟩,fun x c e=>?_,I.hok.fresh (Nat.le_refl _),fun x c e=>I.freeC x c (hcl1 x c e),fun p hp=>absurd (show p∈([]:List (Addr×Obj)) from hp) (by simp),I.hok.kept kp,?_⟩
 ·have hx':(relabel cs X.env).names.lookup x=some .cell\/(relabel cs X.env).names.lookup x=some .free:=hx
  rw [t6] at hx'
  cases hl:cs.names.lookup x with
  | none=>rw [hl] at hx'; rcases hx' with h | h <;> cases h
  | some k=>
   have hm:=PySem.mem_of_lookup hl
   by_cases hk:k=.free
   ·subst hk; exact hcl2 x hm
   ·exfalso
    have hb:(k == NameKind.free)=false:=by simpa using hk
    rw [hl] at hx'
    simp only [Option.map_some,hb,Bool.false_and,Bool.false_eq_true,if_false] at hx'
    rcases hx' with h | h
    ·cases h; exact S.ncell _ hm rfl
    ·cases h; exact hk rfl
 ·intro q
  have hb':b=s3.heap.objs.size:=q
  exact absurd (hlt b hb) (by rw [hb']; exact Nat.lt_irrefl _)
 ·obtain ⟨f0,f1,f2,f3,f4,f5⟩:=hf b hb
  rcases f3 with z | z
  ·exact I.ok.noex b o e z
  ·exact absurd (Nat.lt_of_lt_of_le (Heap.lt_size (I.ok.bs b o e).1) z) (Nat.lt_irrefl _)
 ·have hfs':b∈frs X.stack:=hfs
  rcases List.mem_cons.mp (I.stkSub b hfs') with z | z
  ·exact (hf b hb).2.1 z
  ·exact (hf b hb).2.2.1 z
 ·have e2':=U0 e2
  have hi:i<X.N.length:=by rw [<- I.len]; exact (List.getElem?_eq_some_iff.mp e2').1
  have e1':N'[i]?=some x:=e1
  have e3':Vis (relabel cs X.env) x:=e3
  have hv:∃ k,cs.names.lookup x=some k:=by
   unfold Vis at e3'
   rw [t6] at e3'
   cases hl:cs.names.lookup x with
   | none=>rw [hl] at e3'; rcases e3' with h | h | h <;> cases h
   | some k=>exact ⟨k,rfl⟩
  obtain ⟨k,hk⟩:=hv
  have hN:X.N[i]?=some x:=by
   rcases S.same i (List.mem_range.mpr hi) with q | q
   ·rw [<- q]; exact e1'
   ·have:=q x (by rw [e1']; rfl)
    rw [hk] at this; cases this
  have hnl:k≠.local:=fun q=>by
   subst q
   exact S.out x (List.mem_of_getElem? (i:=i) (by rw [List.getElem?_take_of_lt hi]; exact e1')) hk
  have hm:=PySem.mem_of_lookup hk
  have hfree:k=.free:=by
   unfold Vis at e3'
   rw [t6,hk] at e3'
   by_cases hkf:k=.free
   ·exact hkf
   ·exfalso
    have hb:(k == NameKind.free)=false:=by simpa using hkf
    simp only [Option.map_some,hb,Bool.false_and,Bool.false_eq_true,if_false] at e3'
    rcases e3' with h | h | h
    ·exact hnl (Option.some.inj h)
    ·exact S.ncell _ hm (Option.some.inj h)
    ·exact hkf (Option.some.inj h)
  subst hfree
  obtain ⟨m0,hn0,hl0⟩:=I.loc
  have hvis:Vis X.env.scope x:=by
   rcases S.free _ hm rfl with h | h
   ·exact .inr (.inl h)
   ·exact .inr (.inr h)
  obtain ⟨u,r,l⟩:=hl0 i x v hN e2' hvis
  refine ⟨u,r,.inr ⟨?_,?_⟩⟩
  ·show (relabel cs X.env).names.lookup x=some .cell\/(relabel cs X.env).names.lookup x=some .free
   rw [t6,hk]
   show some (if _ then _ else _)=_\/some (if _ then _ else _)=_
   split
   ·exact .inl rfl
   ·exact .inr rfl
  ·obtain ⟨c,hc⟩:=hcl2 x hm
   have hc':=hcl1 x c hc
   rcases l with ⟨q,_⟩ | ⟨_,c',e,z⟩
   ·exfalso
    have q':X.env.scope.names.lookup x=some .local:=q
    rcases S.free _ hm rfl with h | h <;> (rw [q'] at h; cases h)
   ·rw [hc'] at e; cases e
    exact ⟨c,hc,kcell z⟩
 ·obtain ⟨v,z⟩:=I.cell x c (hcl1 x c e)
  exact ⟨v,kcell z⟩
 ·unfold inner
  rw [List.length_append,List.length_replicate,I.len]
  have:=S.len
  show _=N'.length
  omega
def C9 (n:Nat) (g:TG):Prop:=∀ (v:V) (σ:St) (H:Hp) (Q:St->Hp->Prop),g v σ H Q->g v σ H fun σ2 H2=>Q σ2 H2/\σ2.length=σ.length/\∀ j,j<n->σ2[j]?=σ[j]?
def dS (n:Nat) (g:TGs):Prop:=∀ (vs:List V) (σ:St) (H:Hp) (Q:St->Hp->Prop),g vs σ H Q->g vs σ H fun σ2 H2=>Q σ2 H2/\σ2.length=σ.length/\∀ j,j<n->σ2[j]?=σ[j]?
theorem m8 {n i:Nat} (h:n<=i):C9 n (F4 i):=fun v σ H Q q=>⟨q,by simp,fun j hj=>List.getElem?_set_ne (by omega)⟩
theorem X7 {n:Nat}:dS n gNil:=fun vs σ H Q zz61=>by obtain ⟨e,q⟩:=zz61; exact ⟨e,q,rfl,fun _ _=>rfl⟩
theorem A5 {n i:Nat} {u:TGs} (h:n<=i) (hu:dS n u):dS n (ld (F4 i) u):=fun vs σ H Q zz62=>by
 obtain ⟨v,r,e,q⟩:=zz62
 refine ⟨v,r,e,?_⟩
 have q':=hu r (σ.set i (some v)) H Q q
 show u r (σ.set i (some v)) H _
 have e1:∀ σ2:St,(σ2.length=(σ.set i (some v)).length/\∀ j,j<n->σ2[j]?=(σ.set i (some v))[j]?)=(σ2.length=σ.length/\∀ j,j<n->σ2[j]?=σ[j]?):=fun σ2=>by
  have:∀ j,j<n->(σ.set i (some v))[j]?=σ[j]?:=fun j hj=>List.getElem?_set_ne (by omega)
  rw [List.length_set]
  exact propext ⟨fun zz63=>by obtain ⟨a,b⟩:=zz63; exact ⟨a,fun j hj=>(b j hj).trans (this j hj)⟩,fun zz64=>by obtain ⟨a,b⟩:=zz64; exact ⟨a,fun j hj=>(b j hj).trans (this j hj).symm⟩⟩
 have e2:(fun (σ2:St) (H2:Hp)=>Q σ2 H2/\σ2.length=σ.length/\∀ j,j<n->σ2[j]?=σ[j]?)=fun σ2 H2=>Q σ2 H2/\σ2.length=(σ.set i (some v)).length/\∀ j,j<n->σ2[j]?=(σ.set i (some v))[j]?:=by
  funext σ2 H2; rw [e1]
 rw [e2]; exact q'
theorem X6 {K:Frag} {n k:Nat} {u:TGs} (hu:dS n u):C9 n (kZ K k u):=fun v σ H Q zz65=>by obtain ⟨a,xs,e,h1,h2,q⟩:=zz65; exact ⟨a,xs,e,h1,h2,hu xs σ H Q q⟩
def PIf (X:Cx) (ifs:List Expr) (t:TT):Prop:=
 ∀ (pins:List (Addr×Obj)) (s:Shared) (σ:St) (H:Hp) (Q:Bool->Hp->Prop),Inv X pins σ H s->t σ H Q ->
  wpAny (model X.prog X.w) X.A (forIn ifs true fun c r=>if r=true then do let ok <- isTrue c X.env (eval c X.env); pure (ForInStep.yield ok) else pure (ForInStep.yield r)) (TP X pins σ Q) X.xe s
def tYes:TT:=fun _ H Q=>Q true H
theorem ur {X:Cx}:PIf X [] tYes:=fun _ _ _ H _ I h=>wpAny_tests_nil ⟨H,I,h⟩
theorem uq {X:Cx} {c:Expr} {t:TT} (h:PT X c t):PIf X [c] t:=fun pins s σ H Q I q=>wpAny_tests_one (h pins s σ H Q I q)
def lJ (J:It) (D:Addr) (g:TG) (tc:TT) (te:TE) (σ':St) (H1:Hp) (Q:Hp->Prop):Prop:=
 ∃ W:Nat->Nat->Hp->Prop,(∃ m,W 0 m (upd H1 D (.lst [])))/\∀ i m H2,W i m H2 ->
  (J.stop i H2/\Q H2)\/(J.go i H2/\∀ x H3,J.yld i H2 x H3->g x σ' H3 fun σ4 H4=>tc σ4 H4 fun b H5=>
   if b=true then te σ4 H5 fun y H6=>∃ ys,H6 D=some (.lst ys)/\ys.length<sizeLine/\∃ m',m'<m/\W (i+1) m' (upd H6 D (.lst (ys ++ [y])))
   else ∃ m',m'<m/\W (i+1) m' H5)
def fV (N':List Str) (wi:TI) (g:TG) (tc:TT) (te:TE):TE:=fun σ H Q=>wi σ H fun J H1=>∀ D,H1 D=none->lJ J D g tc te (inner N' σ) H1 (Q (.ref D))
section
variable {X:Cx} {cs:Scope} {N':List Str} {tg iter elt:Expr} {ifs:List Expr} {wi:TI} {g:TG} {tc:TT} {te:TE} {pos:Pos}
theorem BT {cl:List (Str×Addr)} {pins:List (Addr×Obj)} {fp:List Addr} {H3 H':Hp} {s3:Shared} (hcl1:∀ x c,cl.lookup x=some c->X.env.cells.lookup x=some c) (stk:∀ b∈frs X.stack,b∈X.env.locals::X.fs)
  (hf3:∀ b∈fp,x5 X pins H3 b) (hlt:∀ b∈fp,b<s3.heap.objs.size) (hn:∀ b∈fp,H' b=none):∀ b∈fp,x5 (j5 X cs cl N' fp s3 H3) [] H' b:=fun b hb=>by
 obtain ⟨f0,f1,f2,f3,f4,f5⟩:=hf3 b hb
 refine ⟨hn b hb,Nat.ne_of_lt (hlt b hb),fun hfs=>?_,.inl hb,fun x c e=>f4 x c (hcl1 x c e),fun p hp=>absurd (show p∈([]:List (Addr×Obj)) from hp) (by simp)⟩
 have hfs':b∈frs X.stack:=hfs
 rcases List.mem_cons.mp (stk b hfs') with z | z
 ·exact f1 z
 ·exact f2 z
theorem on {cl:List (Str×Addr)} {pins:List (Addr×Obj)} {σ:St} {R:Result->Shared->Prop} {Q:Hp->Prop} {s3 s4:Shared} {H3:Hp} {it D:Addr} {fp:List Addr} {tn:Nat->Heap->Prop} {J:It} {W:Nat->Nat->Hp->Prop} {m0:Nat}
  (hc:X.calm=true) (hg:PG (j5 X cs cl N' fp s3 H3) tg g) (hk:C9 X.N.length g) (ht:PIf (j5 X cs cl N' fp s3 H3) ifs tc) (he:PE (j5 X cs cl N' fp s3 H3) elt te)
  (hcl1:∀ x c,cl.lookup x=some c->X.env.cells.lookup x=some c)
  (I3:Inv X pins σ H3 s3) (I4:Inv (j5 X cs cl N' fp s3 H3) [] (inner N' σ) H3 s4) (T:Turn X.prog X.w X.K tg J fp it tn) (st:tn 0 s4.heap) (hf3:∀ b∈fp,x5 X pins H3 b) (hlt:∀ b∈fp,b<s3.heap.objs.size)
  (w0:W 0 m0 H3)
  (turn:∀ i m H2,W i m H2->(J.stop i H2/\Q H2)\/(J.go i H2/\∀ x H3,J.yld i H2 x H3->g x (inner N' σ) H3 fun σ4 H4=>tc σ4 H4 fun b H5=>
   if b=true then te σ4 H5 fun y H6=>∃ ys,H6 D=some (.lst ys)/\ys.length<sizeLine/\∃ m',m'<m/\W (i+1) m' (upd H6 D (.lst (ys ++ [y])))
   else ∃ m',m'<m/\W (i+1) m' H5))
  (hR:∀ (H':Hp) (s':Shared),Inv X pins σ H' s'->Q H'->(∃ m,s'.heap.Ns s3.heap.objs.size m)->x5 X pins H' s3.heap.objs.size->R (.ok .next) s') :
  codeAny (model X.prog X.w) X.A (.compLoop (.ListComp elt [⟨tg,iter,ifs,0⟩] cs pos) 0 (.ref it) (.ref D) (j5 X cs cl N' fp s3 H3).env) R s4:=by
 have fpx:∀ {H':Hp},(∀ b∈fp,H' b=none)->∀ b∈fp,x5 (j5 X cs cl N' fp s3 H3) [] H' b:=fun hn=>BT hcl1 I3.stkSub hf3 hlt hn
 have lσ:(inner N' σ).length=N'.length:=I4.len
 refine codeAny_loop rfl (fun n s'=>∃ i H',Inv (j5 X cs cl N' fp s3 H3) [] (inner N' σ) H' s'/\tn i s'.heap/\(∀ b∈fp,H' b=none)/\W i n H') (fun n s5 hI=>?_) m0 ⟨0,H3,I4,st,fun b hb=>(hf3 b hb).1,w0⟩
 obtain ⟨i,H5,I5,st5,fr5,w5⟩:=hI
 show wpAny _ _ ((compTurn (.ListComp elt [⟨tg,iter,ifs,0⟩] cs pos) 0 (.ref it) (.ref D) (j5 X cs cl N' fp s3 H3).env).onRaise _) _ _ s5
 refine wpAny_noted ?_
 rw [compTurn_list]
 refine wpAny_bind (wpAny_standAt (wpAny_bind ?_))
 have cvt:∀ {α:Type} {t:Sem α} {P:α->Shared->Prop} {E':Value->Shared->Prop} {s:Shared},wpAny (model X.prog X.w) X.A t P (fun _ _=>False) s->wpAny (model X.prog X.w) X.A t P E' s:=fun h=>wpAny_mono h (fun _ _ q=>q) fun _ _ q=>q.elim
 rcases turn i n H5 w5 with ⟨stop,q⟩ | ⟨go,step⟩
 ·refine thn (T.done (j5 X cs cl N' fp s3 H3) rfl rfl rfl hc i [] s5 _ H5 _ I5 (fpx fr5) st5 stop) fun r s6 ⟨hr,I6⟩=>?_
  subst hr
  refine wpAny_pure ?_
  have J6:Inv X pins σ H5 s6:=I3.call' (H':=H5) (ch:=fp) I6.os I6.base I6.hok I6.bare fun b hb=>by
   obtain ⟨f0,f1,f2,f3,f4,f5⟩:=hf3 b hb
   exact ⟨f3,f1,f4,f5⟩
  obtain ⟨m,hn,_⟩:=I6.loc
  exact hR H5 s6 J6 q ⟨m,hn⟩ (I3.fpOk (Nat.le_refl _) I6.free)
 ·refine thn (T.item (j5 X cs cl N' fp s3 H3) rfl rfl rfl hc i [] s5 _ H5 _ I5 (fpx fr5) st5 go) fun r s6 ⟨u,hr,h6⟩=>?_
  subst hr
  refine wpAny_bind (thn h6 fun _ s7 zz68=>?_)
  obtain ⟨x,H7,I7,r7,y7,st7,fr7⟩:=zz68
  have I7':=I7.pinned (fpx fr7) (T.obj _ _ st7)
  refine wpAny_bind (cvt (thn (hg _ s7 _ H7 x u _ I7' r7 (hk x _ H7 _ (step x H7 y7))) fun _ s8 zz69=>?_))
  obtain ⟨σ8,H8,I8,q8,l8,k8⟩:=zz69
  refine wpAny_bind (cvt (thn (ht _ s8 σ8 H8 _ I8 q8) fun b s9 zz70=>?_))
  obtain ⟨H9,I9,q9⟩:=zz70
  have again:∀ {s':Shared} {H':Hp},Inv (j5 X cs cl N' fp s3 H3) ([]++W6 fp s7.heap) σ8 H' s'->(∃ m',m'<n/\W (i+1) m' H') ->
    ∃ m',m'<n/\∃ i H',Inv (j5 X cs cl N' fp s3 H3) [] (inner N' σ) H' s'/\tn i s'.heap/\(∀ b∈fp,H' b=none)/\W i m' H':=fun {s' H'} I' zz71=>by
   obtain ⟨m',hm,w'⟩:=zz71
   refine ⟨m',hm,i+1,H',(I'.unpinned).weak (by rw [l8]) (fun j v e=>?_),T.keep _ _ _ st7 fun b hb o e=>(I'.pin (b,o) (List.mem_append_right _ (List.mem_append_right _ (F3 hb e)))).1,fun b hb=>?_,w'⟩
   ·have hj:j<X.N.length:=by rw [<- I3.len]; exact (List.getElem?_eq_some_iff.mp (U0 e)).1
    rw [k8 j hj]; exact e
   ·obtain ⟨o,e,d⟩:=T.obj _ _ st7 b hb
    exact (I'.pin (b,o) (List.mem_append_right _ (List.mem_append_right _ (F3 hb e)))).2.1
  cases b with
  | false=>
   have q9':∃ m',m'<n/\W (i+1) m' H9:=q9
   exact wpAny_pure ⟨rfl,again I9 q9'⟩
  | true=>
   have q9':te σ8 H9 _:=q9
   refine wpAny_bind (wpAny_bind (cvt (thn (he _ s9 σ8 H9 _ I9 q9') fun v s10 zz72=>?_)))
   obtain ⟨y,H10,I10,r10,ys,hD,hy,q10⟩:=zz72
   refine wpAny_bind (cvt (thn (aY _ s10 σ8 H10 (.ref D) [y] (.ref D) [v] (fun _ H'=>∃ m',m'<n/\W (i+1) m' H') I10 rfl (.cons r10 .nil) ⟨D,ys,y,rfl,rfl,hD,hy,q10⟩) fun _ s11 zz73=>?_))
   obtain ⟨_,H11,I11,_,q11⟩:=zz73
   exact wpAny_pure (wpAny_pure ⟨rfl,again I11 q11⟩)
theorem fL {cl:List (Str×Addr)} {pins:List (Addr×Obj)} {σ:St} {R:Value->Addr->Result->Shared->Prop} {Q:V->Hp->Prop} {s2:Shared} {itv:Value} (S:f8 X.env.scope cs X.N N') (hc:X.calm=true)
  (hg:∀ cl ex s H,PG (j5 X cs cl N' ex s H) tg g) (hk:C9 X.N.length g) (ht:∀ cl ex s H,PIf (j5 X cs cl N' ex s H) ifs tc) (he:∀ cl ex s H,PE (j5 X cs cl N' ex s H) elt te)
  (hcl1:∀ x c,cl.lookup x=some c->X.env.cells.lookup x=some c) (hcl2:∀ x,(x,NameKind.free)∈cs.names->∃ c,cl.lookup x=some c)
  (h:PIE X pins σ tg (fun J H1=>∀ D,H1 D=none->lJ J D g tc te (inner N' σ) H1 (Q (.ref D))) itv s2)
  (hR:∀ (D C:Addr) (H':Hp) (s':Shared),Inv X pins σ H' s'->Q (.ref D) H'->(∃ m,s'.heap.Ns C m)->x5 X pins H' C->R (.ref D) C (.ok .next) s') :
  wpAny (model X.prog X.w) X.A (newList []) (fun acc s₃=>wpAny (model X.prog X.w) X.A (newFunctionEnv cs X.env.globals cl [] X.env.qual none .none (some X.env)) (fun cenv s₄=>
   codeAny (model X.prog X.w) X.A (.compStart (.ListComp elt [⟨tg,iter,ifs,0⟩] cs pos) 0 itv acc { cenv with scope:=relabel cs X.env }) (R acc cenv.locals) s₄) X.xe s₃) X.xe s2:=by
 obtain ⟨it,fp,tn,J,H2,e,I2,T,st2,f2,hw⟩:=h
 subst e
 refine wpAny_newObj_type (wpAny_newFunctionEnv S.ncell (by intro y hy; simp at hy) (fun h1 hns1 hsb1=>?_) S.kind)
 dsimp only at hns1 hsb1 ⊢
 have hD:=I2.hok.fresh (Nat.le_refl _)
 obtain ⟨W,⟨m0,w0⟩,turn⟩:=hw s2.heap.objs.size hD
 have I3:Inv X pins σ (upd H2 s2.heap.objs.size (.lst [])) { s2 with heap:=s2.heap.push { cls:=.type "list",dict:=none,data:=.seq ([]:List Value).toArray } }:=I2.lnew (t':=s2.toks) .nil (Nat.zero_le _)
 have hfp3:∀ b∈fp,b<s2.heap.objs.size:=fun b hb=>by
  obtain ⟨o,e,_⟩:=T.obj 0 _ st2 b hb
  exact Heap.lt_size e
 have hf3:∀ b∈fp,x5 X pins (upd H2 s2.heap.objs.size (.lst [])) b:=fun b hb=>by
  obtain ⟨f0,r⟩:=f2 b hb
  exact ⟨by rw [d8 (Nat.ne_of_lt (hfp3 b hb))]; exact f0,r⟩
 have hlt:∀ b∈fp,b<(s2.heap.push { cls:=.type "list",dict:=none,data:=.seq ([]:List Value).toArray }).objs.size:=fun b hb=>by rw [Heap.size_push]; exact Nat.lt_succ_of_lt (hfp3 b hb)
 have kp:∀ b o,(s2.heap.push { cls:=.type "list",dict:=none,data:=.seq ([]:List Value).toArray }).get? b=some o->h1.get? b=some o:=fun b o e=>hsb1.extBut b o (Nat.ne_of_lt (Heap.lt_size e)) (Heap.get?_push_of_some _ e)
 have I4:=rA (cs:=cs) (cl:=cl) (N':=N') (fp:=fp) (s4:={ s2 with heap:=h1,toks:=s2.toks+([]:List (Str×Value)).length }) S I3 hcl1 hcl2 hf3 hlt kp hns1 rfl rfl
 have st4:tn 0 h1:=T.keep 0 _ _ st2 fun b hb o e=>kp b o (Heap.get?_push_of_some _ e)
 have loop:=on (R:=R (.ref s2.heap.objs.size) (s2.heap.push { cls:=.type "list",dict:=none,data:=.seq ([]:List Value).toArray }).objs.size) (D:=s2.heap.objs.size) (iter:=iter) (pos:=pos) (it:=it) (Q:=Q (.ref s2.heap.objs.size)) hc (hg cl fp _ _) hk (ht cl fp _ _) (he cl fp _ _) hcl1 I3 I4 T st4 hf3 hlt w0 turn fun H' s' I' q n f=>hR _ _ H' s' I' q n f
 exact codeAny_compStart_list loop (T.self _ 0 _ _ _ st4 loop)
theorem uw (S:f8 X.env.scope cs X.N N') (hc:X.calm=true) (hi:PI X tg iter wi)
  (hg:∀ cl ex s H,PG (j5 X cs cl N' ex s H) tg g) (hk:C9 X.N.length g) (ht:∀ cl ex s H,PIf (j5 X cs cl N' ex s H) ifs tc) (he:∀ cl ex s H,PE (j5 X cs cl N' ex s H) elt te)
  (hs:∀ x,foldedSetIterable iter X.env x=pure x:=by intro _; rfl):PE X (.ListComp elt [⟨tg,iter,ifs,0⟩] cs pos) (fV N' wi g tc te):=by
 intro pins s σ H Q I h
 obtain ⟨cl,e,h1,h2,_⟩:=P5 (env:=X.env) cs.names [] (fun x hx hk=>I.ok.has x.1 (S.free x hx hk)) (fun _ _ z=>nomatch z)
 have hclos:closureFor cs X.env=pure cl:=by
  simp only [closureFor]
  rw [e]; rfl
 rw [eval_ListComp]
 refine wpAny_comprehension_free (use:=none) rfl hs hclos S.kind S.loc (thn (hi pins s σ H _ I h) fun v s1 q1=>thn q1 fun itv s2 q2=>?_)
 refine fL (R:=fun acc C=>compPost (model X.prog X.w) X.A X.xe none (EP X pins σ Q) acc C) (Q:=Q) S hc hg hk ht he h1 h2 q2 fun D C H' s' I' q n f=>?_
 obtain ⟨m,hn⟩:=n
 obtain ⟨f0,f1,f2,f3,f4,f5⟩:=f
 exact ⟨m,hn,fun h' sb=>⟨.ref D,H',I'.turned (t':=s'.toks) (fun b o hb e=>sb.extBut b o hb e) f0 f1 f3 f4 f5,rfl,q⟩⟩
theorem uk {i:Nat} {y:Str} {py spos:Pos} (S:f8 X.env.scope cs X.N N') (hc:X.calm=true) (hi:PI X tg iter wi)
  (hg:∀ cl ex s H,PG (j5 X cs cl N' ex s H) tg g) (hk:C9 X.N.length g) (ht:∀ cl ex s H,PIf (j5 X cs cl N' ex s H) ifs tc) (he:∀ cl ex s H,PE (j5 X cs cl N' ex s H) elt te)
  (hN:X.N.Nodup) (hy:X.N[i]?=some y) (hl:Loc X.env.scope y)
  (hsw:swapsWith (.ListComp elt [⟨tg,iter,ifs,0⟩] cs pos) (some (.Name y py)) spos.line X.env=pure true:=by rfl) (hf:X.fn y=true\/X.env.scope.names.lookup y=some .local:=by first | exact .inl rfl | exact .inr rfl | assumption)
  (hs:∀ x,foldedSetIterable iter X.env x=pure x:=by intro _; rfl):PS X (.Assign [.Name y py] (.ListComp elt [⟨tg,iter,ifs,0⟩] cs pos) spos) (U4 (fV N' wi g tc te) (F4 i)):=by
 intro pins s σ H Q I h
 obtain ⟨cl,e,h1,h2,_⟩:=P5 (env:=X.env) cs.names [] (fun x hx hk=>I.ok.has x.1 (S.free x hx hk)) (fun _ _ z=>nomatch z)
 have hclos:closureFor cs X.env=pure cl:=by
  simp only [closureFor]
  rw [e]; rfl
 rw [exec_Assign_Name_used _ _ _ _ hsw]
 refine wpAny_bind (wpAny_standAt (wpAny_bind ?_))
 show wpAny _ _ (comprehension (.ListComp elt [⟨tg,iter,ifs,0⟩] cs pos) cs X.env _ (newList []) false (eval iter X.env) (some (assign (.Name y py) X.env))>>=_) _ _ s
 refine wpAny_bind (thn (wpAny_comprehension_free (use:=some (assign (.Name y py) X.env)) (Q:=fun _ s'=>SP X pins Q .next s') rfl hs hclos S.kind S.loc (thn (hi pins s σ H _ I h) fun v s1 q1=>thn q1 fun itv s2 q2=>?_)) fun _ s' q=>wpAny_pure (wpAny_pure q))
 refine fL (R:=fun acc C=>compPost (model X.prog X.w) X.A X.xe (some (assign (.Name y py) X.env)) (fun _ s'=>SP X pins Q .next s') acc C) (Q:=fun x H1=>F4 i x σ H1 Q.nx) S hc hg hk ht he h1 h2 q2 fun D C H' s' I' q n f=>?_
 obtain ⟨m,hn⟩:=n
 obtain ⟨f0,f1,f2,f3,f4,f5⟩:=f
 show wpAny _ _ (assign (.Name y py) X.env (.ref D)) _ _ _
 refine wpAny_assign_Name (aH (v:=.ref D) (u:=.ref D) I' hN hy hl rfl (fun s'' I'' zz74=>?_) hf)
 obtain ⟨a,sb,ha⟩:=zz74
 have hCa:C≠a:=by
  rcases ha with rfl | ha
  ·exact f1
  ·exact fun q=>f4 _ _ ha q.symm
 refine ⟨m,hn.sameBut sb hCa,fun h' sb'=>?_⟩
 exact ⟨_,H',I''.turned (t':=s''.toks) (fun b o hb e=>sb'.extBut b o hb e) f0 f1 f3 f4 f5,q⟩
end
end L2
namespace L2
open PySem PySem.Spec PyProof.Rows
theorem Sq.same {K:Frag} {H H':Hp} {t:Bool} {a:Addr} {xs:List V} (e:Same H H') (h:Sq K H t a xs):Sq K H' t a xs:=by
 unfold Sq at h ⊢
 split
 ·rename_i ht; rw [if_pos ht] at h
  rcases h with (h | ⟨o,h⟩) | h
  ·exact .inl (.inl (e _ _ h))
  ·exact .inl (.inr ⟨o,e _ _ h⟩)
  ·exact .inr h
 ·rename_i ht; rw [if_neg ht] at h
  exact e.seq h
def seqAt (K:Frag) (H:Hp) (p:Addr) (R:List V->Prop):Prop:=match H p with
 | some (.tup xs)=>R xs
 | some (.lst xs)=>R xs
 | _=>∃ t xs,Sq K H t p xs/\R xs
section
variable {X:Cx}
def ItQ (K:Frag) (t:Bool) (a:Addr):It:=if t=true then Itt K a else Itl K a
def iSq (K:Frag) (tl:TE):TI:=fun σ H R=>tl σ H fun x H1=>∃ a,x=.ref a/\∃ t xs,Sq K H1 t a xs/\R (ItQ K t a) H1
theorem Bz {tg l:Expr} {tl:TE} (hl:PE X l tl):PI X tg l (iSq X.K tl):=by
 intro pins s σ H R I h
 refine thn (hl pins s σ H _ I h) fun v s1 zz75=>?_
 obtain ⟨x,H1,I1,r1,q1⟩:=zz75
 obtain ⟨a,e,t,xs,hq,q⟩:=q1
 subst e
 cases r1
 cases t with
 | true=>
  have hq':SqT X.K H1 a xs:=by unfold Sq at hq; rw [if_pos rfl] at hq; exact hq
  obtain ⟨its,rv,p,hz⟩:=I1.tuple hq'
  refine wpAny_pyIter_tuple (show s1.heap.IsTuple a its.toArray from p) ?_
  refine ⟨s1.heap.objs.size,[s1.heap.objs.size],_,Itt X.K a,H1,rfl,I1.kept (t':=s1.toks) fun b o e=>Heap.get?_push_of_some _ e,kB a _,⟨_,Heap.get?_push_size _ rfl,rfl,rfl⟩,fun b hb=>?_,q⟩
  have e:b=s1.heap.objs.size:=by simpa using hb
  subst e
  exact I1.fpOk (Nat.le_refl _) (I1.hok.fresh (Nat.le_refl _))
 | false=>
  have hq':SqL X.K H1 a xs:=by unfold Sq at hq; rw [if_neg Bool.false_ne_true] at hq; exact hq
  obtain ⟨its,rv,p,hz⟩:=I1.list hq'
  refine wpAny_pyIter_list p.isList ?_
  refine ⟨s1.heap.objs.size,[s1.heap.objs.size],_,Itl X.K a,H1,rfl,I1.kept (t':=s1.toks) fun b o e=>Heap.get?_push_of_some _ e,lQ a _,⟨_,Heap.get?_push_size _ rfl,rfl,rfl⟩,fun b hb=>?_,q⟩
  have e:b=s1.heap.objs.size:=by simpa using hb
  subst e
  exact I1.fpOk (Nat.le_refl _) (I1.hok.fresh (Nat.le_refl _))
theorem vU:bootBuiltins "bool" = some (.type "bool"):=by decide +kernel
theorem AS:bootBuiltins "int" = some (.type "int"):=by decide +kernel
theorem fk:bootBuiltins "list" = some (.type "list"):=by decide +kernel
theorem t5:bootBuiltins "tuple" = some (.type "tuple"):=by decide +kernel
theorem iR:bootBuiltins "max" = some (.builtin "max"):=by decide +kernel
theorem AR:bootBuiltins "min" = some (.builtin "min"):=by decide +kernel
def tyO:Option HO->Option String
 | some (.lst _)=>some "list"
 | some (.tup _)=>some "tuple"
 | some (.dK _)=>some "dict"
 | _=>none
def tyB (H:Hp):V->Option String
 | .non=>some "NoneType"
 | .bl _=>some "bool"
 | .int _=>some "int"
 | .str _=>some "str"
 | .ref a=>tyO (H a)
 | _=>none
def x3 (A T:String):Option Bool:=
 if A=T then some true else if A = "bool" /\ T = "int" then some true
 else if (A = "NoneType" \/ A = "bool" \/ A = "int" \/ A = "str" \/ A = "list" \/ A = "tuple" \/ A = "dict")/\(T = "bool" \/ T = "int" \/ T = "list" \/ T = "tuple") then some false else none
theorem wx {K:Frag} {H:Hp} {x:V} {A:String} (h:tyB H x=some A):M5 K H x (.type A):=by
 cases x with
 | non=>cases h; exact .non
 | bl _=>cases h; exact .bl _
 | int _=>cases h; exact .int _
 | str _=>cases h; exact .str _
 | ref a=>
  have h:tyO (H a)=some A:=h
  cases e:H a with
  | none=>rw [e] at h; cases h
  | some o=>
   rw [e] at h
   cases o <;> first | (cases h; exact .lst e) | (cases h; exact .tup e) | (cases h; exact .dK e) | cases h
 | _=>cases h
theorem vk {K:Frag} {A T:String} {b:Bool} (h:x3 A T=some b):PySem.W.kitOne K (.type A) (.type T)=some b:=by
 unfold x3 at h
 split at h
 ·rename_i e; subst e; cases h
  unfold PySem.W.kitOne
  rw [if_pos (by simp)]
 ·split at h
  ·rename_i e; obtain ⟨rfl,rfl⟩:=e; cases h; with_unfolding_all rfl
  ·split at h
   ·rename_i h1 h2 e
    obtain ⟨e1,e2⟩:=e
    cases h
    rcases e1 with rfl | rfl | rfl | rfl | rfl | rfl | rfl <;> rcases e2 with rfl | rfl | rfl | rfl <;>
     first | exact absurd rfl h1 | exact absurd ⟨rfl,rfl⟩ h2 | with_unfolding_all rfl
   ·cases h
def rIsi:List V->Hp->VK->Prop:=fun xs H Q=>∃ x T,xs = [x,.ty T]/\∃ A,tyB H x=some A/\∃ b,x3 A T=some b/\Q (.bl b) H
theorem J3:E2 X (.builtin "isinstance") rIsi:=by
 intro pins s σ H xs us Q I r h
 obtain ⟨x,T,rfl,A,ty,b,e,q⟩:=h
 obtain ⟨u,w',rfl,r1,r2⟩:=vals2 r
 have e2:w'=Value.type T:=r2
 subst e2
 exact nO I r1 (wx ty) (vk e) fun tk=>⟨.bl b,H,I.tok tk,rfl,q⟩
end
theorem zf:x3 "bool" "bool" = some true:=by decide
theorem ze:x3 "bool" "int" = some true:=by decide
theorem zd:x3 "int" "bool" = some false:=by decide
theorem zc:x3 "int" "int" = some true:=by decide
theorem yO:x3 "tuple" "tuple" = some true:=by decide
theorem yZ:x3 "list" "list" = some true:=by decide
theorem yW:x3 "NoneType" "int" = some false:=by decide
theorem yX:x3 "NoneType" "bool" = some false:=by decide
theorem yS:x3 "str" "int" = some false:=by decide
theorem yT:x3 "str" "bool" = some false:=by decide
theorem za:x3 "list" "int" = some false:=by decide
theorem zb:x3 "list" "bool" = some false:=by decide
theorem yQ:x3 "tuple" "int" = some false:=by decide
theorem yR:x3 "tuple" "bool" = some false:=by decide
theorem bV {n:Nat} {i:Int} (h0:0<=i) (h1:i<n):ixN n i=some i.toNat:=by unfold ixN; rw [if_pos h0,if_pos h1]
theorem mem_getD {ms:List Int} {P:Int->Prop} (h:∀ x∈ms,P x) {i:Nat} (hi:i<ms.length):P (ms.getD i 0):=by
 have:ms.getD i 0=ms[i]:=by simp [hi]
 rw [this]; exact h _ (List.getElem_mem hi)
structure Runs (J:It) (n:Nat) (H1:Hp) (Y:Nat->V->Hp->Hp->Prop):Prop where
 go:∀ i H,i<n->Same H1 H->J.go i H
 stop:∀ H,Same H1 H->J.stop n H
 yld:∀ i H x H',i<n->Same H1 H->J.yld i H x H'->Y i x H H'
theorem mJ {K:Frag} {t u:Bool} {a b:Addr} {xs ys:List V} {H1:Hp} (h:Sq K H1 t a xs) (h':Sq K H1 u b ys) :
  Runs (ItZ K [(t,a),(u,b)]) (min xs.length ys.length) H1 fun i x H H'=>∃ p y z,x=.ref p/\H p=none/\H'=upd H p (.tup [y,z])/\xs[i]?=some y/\ys[i]?=some z:=by
 refine ⟨fun i H hi s v hv=>?_,fun H s=>⟨fun v hv=>?_,?_⟩,fun i H x H' hi s hy=>?_⟩
 ·simp only [List.mem_cons,List.not_mem_nil,or_false] at hv
  rcases hv with rfl | rfl
  ·exact ⟨xs,xs[i]'(Nat.lt_of_lt_of_le hi (Nat.min_le_left _ _)),Sq.same s h,by simp⟩
  ·exact ⟨ys,ys[i]'(Nat.lt_of_lt_of_le hi (Nat.min_le_right _ _)),Sq.same s h',by simp⟩
 ·simp only [List.mem_cons,List.not_mem_nil,or_false] at hv
  rcases hv with rfl | rfl
  ·exact ⟨xs,Sq.same s h⟩
  ·exact ⟨ys,Sq.same s h'⟩
 ·rcases Nat.le_total xs.length ys.length with q | q
  ·exact ⟨(t,a),by simp,xs,Sq.same s h,by omega⟩
  ·exact ⟨(u,b),by simp,ys,Sq.same s h',by omega⟩
 ·obtain ⟨p,zs,e1,e2,e3,pr⟩:=hy
  cases pr with
  | cons r1 pr=>
   cases pr with
   | cons r2 pr=>
    cases pr
    exact ⟨p,_,_,e1,e2,e3,r1 xs (Sq.same s h),r2 ys (Sq.same s h')⟩
theorem mI {K:Frag} {t u w:Bool} {a b c:Addr} {xs ys zs:List V} {H1:Hp} (h:Sq K H1 t a xs) (h':Sq K H1 u b ys) (h'':Sq K H1 w c zs) :
  Runs (ItZ K [(t,a),(u,b),(w,c)]) (min xs.length (min ys.length zs.length)) H1 fun i x H H'=>∃ p y z v,x=.ref p/\H p=none/\H'=upd H p (.tup [y,z,v])/\xs[i]?=some y/\ys[i]?=some z/\zs[i]?=some v:=by
 refine ⟨fun i H hi s v hv=>?_,fun H s=>⟨fun v hv=>?_,?_⟩,fun i H x H' hi s hy=>?_⟩
 ·simp only [List.mem_cons,List.not_mem_nil,or_false] at hv
  rcases hv with rfl | rfl | rfl
  ·exact ⟨xs,xs[i]'(Nat.lt_of_lt_of_le hi (Nat.min_le_left _ _)),Sq.same s h,by simp⟩
  ·exact ⟨ys,ys[i]'(Nat.lt_of_lt_of_le hi (Nat.le_trans (Nat.min_le_right _ _) (Nat.min_le_left _ _))),Sq.same s h',by simp⟩
  ·exact ⟨zs,zs[i]'(Nat.lt_of_lt_of_le hi (Nat.le_trans (Nat.min_le_right _ _) (Nat.min_le_right _ _))),Sq.same s h'',by simp⟩
 ·simp only [List.mem_cons,List.not_mem_nil,or_false] at hv
  rcases hv with rfl | rfl | rfl
  ·exact ⟨xs,Sq.same s h⟩
  ·exact ⟨ys,Sq.same s h'⟩
  ·exact ⟨zs,Sq.same s h''⟩
 ·have:min xs.length (min ys.length zs.length)=xs.length\/min xs.length (min ys.length zs.length)=ys.length\/min xs.length (min ys.length zs.length)=zs.length:=by omega
  rcases this with q | q | q
  ·exact ⟨(t,a),by simp,xs,Sq.same s h,by omega⟩
  ·exact ⟨(u,b),by simp,ys,Sq.same s h',by omega⟩
  ·exact ⟨(w,c),by simp,zs,Sq.same s h'',by omega⟩
 ·obtain ⟨p,vs,e1,e2,e3,pr⟩:=hy
  cases pr with
  | cons r1 pr=>
   cases pr with
   | cons r2 pr=>
    cases pr with
    | cons r3 pr=>
     cases pr
     exact ⟨p,_,_,_,e1,e2,e3,r1 xs (Sq.same s h),r2 ys (Sq.same s h'),r3 zs (Sq.same s h'')⟩
structure Def (K:Frag) (mg:Str->Option Value) (x:Str) (st:Stmt) (ps:List Str) (f:Addr) (fd:FuncData):Prop where
 F:Fun K x x st f fd
 m:mg x=some (.ref f)
 b:Binds K fd ps []
section
variable {X:Cx}
theorem z8 (K:Frag) {es:List Expr} {pos:Pos} {k:Nat} {t:TGs} (n:Nat) (hc:X.calm=true) (h:PGs X es t) (hK:X.K=K:=by rfl)
  (hn:(assignEach es X.env).length=n:=by rfl) (hst:(assignEach es X.env).findIdx? (·.1)=none:=by rfl):PG X (.Tuple es k pos) (kZ K n t):=by subst hK; exact yl hc h hn hst
def wK (to:TE) (te:TE):TE:=fun σ H Q=>to σ H fun x H1=>∃ p,x=.ref p/\(∃ xs,H1 p=some (.lst xs))/\te σ H1 fun y H2=>match H2 p with
 | some (.lst xs)=>xs.length<sizeLine/\Q .non (upd H2 p (.lst (xs ++ [y])))
 | _=>False
theorem mZ {o e:Expr} {to te:TE} {apos cpos:Pos} (ho:PE X o to) (ha:PE X e te)
  (hbase:attributeBase o "append" X.env (eval o X.env)=eval o X.env:=by rfl)
  (hfew:((backTo cpos (starEach [e] X.env)).all (fun x=>!x.1)&&(backToKw cpos (keywordEach [] X.env)).all (fun x=>x.1.isSome)
   && decide (([e]:List Expr).length+([]:List Keyword).length+(if ([]:List Keyword).isEmpty then 0 else 1)<30))=true:=by rfl)
  (hline:(apos.endLine == cpos.line)=true:=by rfl) (hs:starEach [e] X.env=(false,eval e X.env)::starEach [] X.env:=by rfl):PE X (.Call (.Attribute o "append" apos) [e] [] cpos) (wK to te):=by
 intro pins s σ H Q I h
 refine wpAny_Call_method_late hbase hfew hline rfl (thn (ho pins s σ H _ I h) fun v s1 zz76=>?_)
 obtain ⟨x,H1,I1,r1,p,ex,⟨xs,e1⟩,q1⟩:=zz76
 subst ex
 obtain ⟨h1,h2⟩:=lP (T := "list") I1 r1 (.inl ⟨rfl,xs,SqL.of e1⟩)
 refine ⟨"list", "list.append",PySem.F.plainAttrs_list,PySem.F.slot_list_append,PySem.F.type_list_append,h1,h2,?_⟩
 have hA:=jI ha pa_nil hs cpos pins s1 σ H1 (fun vs H2=>∃ y,vs = [y]/\match H2 p with
  | some (.lst xs)=>xs.length<sizeLine/\Q .non (upd H2 p (.lst (xs ++ [y])))
  | _=>False) I1 (by
   have e:(fun (y:V) (H2:Hp)=>match H2 p with
     | some (.lst xs)=>xs.length<sizeLine/\Q .non (upd H2 p (.lst (xs ++ [y])))
     | _=>False)=fun (y:V) (H2:Hp)=>∃ y',[y] = [y']/\match H2 p with
     | some (.lst xs)=>xs.length<sizeLine/\Q .non (upd H2 p (.lst (xs ++ [y'])))
     | _=>False:=by
    funext y H2
    exact propext ⟨fun q=>⟨y,rfl,q⟩,fun zz77=>by obtain ⟨y',e,q⟩:=zz77; cases e; exact q⟩
   rw [e] at q1
   exact q1)
 rw [hs] at hA ⊢
 refine Calls.callWith_builtin rfl (Calls.evalArgs_plain ?_)
 refine thn hA fun us s2 zz78=>?_
 obtain ⟨vs,H2,I2,r2,y,ev,q2⟩:=zz78
 subst ev
 refine aY pins s2 σ H2 (.ref p) [y] v us Q I2 r1 r2 ?_
 split at q2
 ·rename_i ys e2; exact ⟨p,ys,y,rfl,rfl,e2,q2.1,q2.2⟩
 ·exact q2.elim
end
def pL (K:Frag):V->Option Int->Option Int->Hp->VK->Prop:=fun x lo hi H Q=>∃ p,x=.ref p/\∃ xs,SqL K H p xs/\∀ l,H l=none->Q (.ref l) (upd H l (.lst (ad xs lo hi)))
section
variable {X:Cx}
end
def sW (i j:Int):Prop:=0<=j/\(Builtin.Int.intBits i:Int)*j<=2^27
theorem vo {ns:List Int} {i:Nat} {z:Int} (h:ns[i]?=some z):ns.getD i 0=z:=by rw [List.getD_eq_getElem?_getD,h]; rfl
theorem aI {ns:List Int} {i:Nat} (h:i<ns.length):ns[i]?=some (ns.getD i 0):=by rw [List.getD_eq_getElem?_getD]; simp [h]
end L2
namespace TP
open PySem L2
inductive W where
 | non | bl (b:Bool) | int (i:Int) | str (x:Str) | ty (n:String) | tup (ws:List W) | lst (ws:List W) | scr (ws:List W)
 | exc (c:Str) (i:Option Int) | cls (c:Str)
def XD (F:Hp) (od:Option Addr):Option Int->Prop
 | none=>od=none
 | some i=>∃ d,od=some d/\F d=some (.xd [("at",.int i)])
mutual
inductive Rep (K:Frag) (F:Hp):V->W->Prop where
 | non:Rep K F .non .non
 | bl {b:Bool}:Rep K F (.bl b) (.bl b)
 | int {i:Int}:Rep K F (.int i) (.int i)
 | str {x:Str}:Rep K F (.str x) (.str x)
 | ty {n:String}:Rep K F (.ty n) (.ty n)
 | tup {a:Addr} {vs:List V} {ws:List W}:F a=some (.tup vs)->Reps K F vs ws->Rep K F (.ref a) (.tup ws)
 | lst {a:Addr} {vs:List V} {ws:List W}:F a=some (.lst vs)->Reps K F vs ws->Rep K F (.ref a) (.lst ws)
 | scr {a:Addr} {vs:List V} {ws:List W}:SqL K F a vs->Reps K F vs ws->Rep K F (.ref a) (.scr ws)
 | exc {a C:Addr} {o:Obj} {vs:Array Value} {c:Str} {i:Option Int}:F a=some (.ext fun h=>h.get? a=some o)->o.cls=.ref C->o.data=.fields vs->PySem.W.nsIn K mainGlobals c=some (some (.ref C))->XD F o.dict i->Rep K F (.ref a) (.exc c i)
 | cls {C:Addr} {c:Str}:PySem.W.nsIn K mainGlobals c=some (some (.ref C))->Rep K F (.ref C) (.cls c)
inductive Reps (K:Frag) (F:Hp):List V->List W->Prop where
 | nil:Reps K F [] []
 | cons {v:V} {w:W} {vs:List V} {ws:List W}:Rep K F v w->Reps K F vs ws->Reps K F (v::vs) (w::ws)
end
section
variable {K:Frag} {F F':Hp}
theorem pi {a:Addr} {xs:List V} (e:Same F F') (h:SqT K F a xs):SqT K F' a xs:=by
 rcases h with (h | ⟨o,h⟩) | h
 ·exact .inl (.inl (e _ _ h))
 ·exact .inl (.inr ⟨o,e _ _ h⟩)
 ·exact .inr h
theorem XD.same (e:Same F F') {od:Option Addr}:∀ {i:Option Int},XD F od i->XD F' od i:=by
 intro i h
 cases i with
 | none=>exact h
 | some _=>obtain ⟨d,h1,h2⟩:=h; exact ⟨d,h1,e _ _ h2⟩
theorem Rep.same (e:Same F F') {v:V} {w:W} (r:Rep K F v w):Rep K F' v w:=
 @Rep.rec K F (fun v w _=>Rep K F' v w) (fun vs ws _=>Reps K F' vs ws) .non .bl .int .str .ty (fun h _ r=>.tup (e _ _ h) r) (fun h _ r=>.lst (e _ _ h) r) (fun h _ r=>.scr (Same.seq e h) r) (fun h1 h2 h3 h4 h5=>.exc (e _ _ h1) h2 h3 h4 (XD.same e h5)) (fun h=>.cls h) .nil (fun _ _ a b=>.cons a b) v w r
theorem Reps.same (e:Same F F') {vs:List V} {ws:List W} (r:Reps K F vs ws):Reps K F' vs ws:=
 @Reps.rec K F (fun _ _ _=>True) (fun vs ws _=>Reps K F' vs ws) trivial trivial trivial trivial trivial (fun _ _ _=>trivial) (fun _ _ _=>trivial) (fun _ _ _=>trivial) (fun _ _ _ _ _=>trivial) (fun _=>trivial) .nil (fun h _ _ b=>.cons (Rep.same e h) b) vs ws r
theorem Reps.ind {P:List V->List W->Prop} (h0:P [] []) (h1:∀ {v:V} {w:W} {vs:List V} {ws:List W},Rep K F v w->Reps K F vs ws->P vs ws->P (v::vs) (w::ws)) {vs:List V} {ws:List W} (r:Reps K F vs ws):P vs ws:=
 @Reps.rec K F (fun _ _ _=>True) (fun vs ws _=>P vs ws) trivial trivial trivial trivial trivial (fun _ _ _=>trivial) (fun _ _ _=>trivial) (fun _ _ _=>trivial) (fun _ _ _ _ _=>trivial) (fun _=>trivial) h0 (fun h r _ b=>h1 h r b) vs ws r
def Bc (K:Frag) (F:Hp) (v:V):W->Prop
 | .non=>v=.non
 | .bl b=>v=.bl b
 | .int i=>v=.int i
 | .str x=>v=.str x
 | .ty n=>v=.ty n
 | .tup ws=>∃ a vs,v=.ref a/\F a=some (.tup vs)/\Reps K F vs ws
 | .lst ws=>∃ a vs,v=.ref a/\F a=some (.lst vs)/\Reps K F vs ws
 | .scr ws=>∃ a vs,v=.ref a/\SqL K F a vs/\Reps K F vs ws
 | .exc _ _=>True
 | .cls _=>True
theorem Rep.inv {v:V} {w:W} (r:Rep K F v w):Bc K F v w:=
 @Rep.rec K F (fun v w _=>Bc K F v w) (fun _ _ _=>True) rfl rfl rfl rfl rfl (fun h r _=>⟨_,_,rfl,h,r⟩) (fun h r _=>⟨_,_,rfl,h,r⟩) (fun h r _=>⟨_,_,rfl,h,r⟩) (fun _ _ _ _ _=>trivial) (fun _=>trivial) trivial (fun _ _ _ _=>trivial) v w r
def RepsI (K:Frag) (F:Hp) (vs:List V):List W->Prop
 | []=>vs = []
 | w::ws=>∃ v us,vs=v::us/\Rep K F v w/\Reps K F us ws
theorem Reps.length {vs:List V} {ws:List W} (r:Reps K F vs ws):vs.length=ws.length:=
 Reps.ind (P:=fun vs ws=>vs.length=ws.length) rfl (fun _ _ h=>congrArg (·+1) h) r
theorem Reps.get {vs:List V} {ws:List W} {i:Nat} {w:W} (r:Reps K F vs ws):ws[i]?=some w->∃ v,vs[i]?=some v/\Rep K F v w:=
 Reps.ind (P:=fun vs ws=>∀ (i:Nat) (w:W),ws[i]?=some w->∃ v,vs[i]?=some v/\Rep K F v w) (fun i w e=>by cases e) (fun h _ b i w e=>by
  cases i with
  | zero=>cases e; exact ⟨_,rfl,h⟩
  | succ i=>exact b i w e) r i w
theorem Reps.get' {vs:List V} {ws:List W} {i:Nat} {v:V} (r:Reps K F vs ws):vs[i]?=some v->∃ w,ws[i]?=some w/\Rep K F v w:=
 Reps.ind (P:=fun vs ws=>∀ (i:Nat) (v:V),vs[i]?=some v->∃ w,ws[i]?=some w/\Rep K F v w) (fun i w e=>by cases e) (fun h _ b i w e=>by
  cases i with
  | zero=>cases e; exact ⟨_,rfl,h⟩
  | succ i=>exact b i w e) r i v
theorem Reps.append {vs us:List V} {ws xs:List W} (r:Reps K F vs ws) (s:Reps K F us xs):Reps K F (vs++us) (ws++xs):=
 Reps.ind (P:=fun vs ws=>Reps K F (vs++us) (ws++xs)) s (fun h _ b=>.cons h b) r
theorem Reps.take {vs:List V} {ws:List W} (n:Nat) (r:Reps K F vs ws):Reps K F (vs.take n) (ws.take n):=
 Reps.ind (P:=fun vs ws=>∀ n,Reps K F (vs.take n) (ws.take n)) (fun n=>by simpa using .nil) (fun h _ b n=>by
  cases n with
  | zero=>exact .nil
  | succ n=>exact .cons h (b n)) r n
theorem Reps.drop {vs:List V} {ws:List W} (n:Nat) (r:Reps K F vs ws):Reps K F (vs.drop n) (ws.drop n):=
 Reps.ind (P:=fun vs ws=>∀ n,Reps K F (vs.drop n) (ws.drop n)) (fun n=>by simpa using .nil) (fun h r b n=>by
  cases n with
  | zero=>exact .cons h r
  | succ n=>exact b n) r n
theorem Reps.reverse {vs:List V} {ws:List W} (r:Reps K F vs ws):Reps K F vs.reverse ws.reverse:=by
 induction r using Reps.rec (motive_1:=fun _ _ _=>True) with
 | nil=>exact .nil
 | cons h _ _ ih=>rw [List.reverse_cons,List.reverse_cons]; exact Reps.append ih (.cons h .nil)
 | _=>trivial
theorem Reps.set {v:V} {w:W} (h:Rep K F v w) {vs:List V} {ws:List W} (i:Nat) (r:Reps K F vs ws):Reps K F (vs.set i v) (ws.set i w):=
 Reps.ind (P:=fun vs ws=>∀ i,Reps K F (vs.set i v) (ws.set i w)) (fun _=>.nil) (fun q t b i=>by
  cases i with
  | zero=>exact .cons h t
  | succ i=>exact .cons q (b i)) r i
theorem Reps.snoc {vs:List V} {ws:List W} {v:V} {w:W} (r:Reps K F vs ws) (h:Rep K F v w):Reps K F (vs ++ [v]) (ws ++ [w]):=r.append (.cons h .nil)
end
mutual
def noL:W->Bool
 | .lst _=>false
 | .scr _=>false
 | .tup ws=>m7 ws
 | _=>true
def m7:List W->Bool
 | []=>true
 | w::ws=>noL w&&m7 ws
end
def isL:HO->Bool
 | .lst _=>true
 | .dT _=>true
 | .dK _=>true
 | .frz _ (.lst _)=>true
 | _=>false
def join (H0 G:Hp):Hp:=fun a=>match H0 a with
 | some o=>if isL o then some o else G a
 | none=>G a
inductive Sl where
 | un | val (w:W) | par (w:W) | own (ws:List W) | dic (ks:List (List Int)) | dik (ks:List Int) | iop (p:Addr) (ws:List W) | hz (w:W)
abbrev Rho:=List Sl
def eK (G:Hp):Hp:=fun a=>match G a with
 | some o=>if isL o then none else some o
 | none=>none
theorem aX {G G':Hp} (h:Same G G'):Same (eK G) (eK G'):=fun a o e=>by
 unfold eK at e ⊢
 cases q:G a with
 | none=>rw [q] at e; cases e
 | some u=>rw [q] at e; rw [h a u q]; exact e
theorem qj {G:Hp}:Same (eK G) G:=fun a o e=>by
 unfold eK at e
 cases q:G a with
 | none=>rw [q] at e; cases e
 | some u=>
  rw [q] at e
  dsimp only at e
  cases hl:isL u
  ·rw [hl] at e; exact e
  ·rw [hl] at e; cases e
def SlR (K:Frag) (H0 G H:Hp):Sl->Option V->Prop
 | .un,_=>True
 | .val w,o=>∃ v,o=some v/\Rep K G v w
 | .par w,o=>∃ v,o=some v/\Rep K (join H0 G) v w
 | .own ws,o=>∃ a vs,o=some (.ref a)/\H a=some (.lst vs)/\G a=none/\H0 a=none/\Reps K G vs ws
 | .dic ks,o=>∃ (a:Addr) (kvs:List (List Key×V)),o=some (.ref a)/\H a=some (.dT kvs)/\G a=none/\H0 a=none/\kvs.map (·.1)=ks.map fun k=>k.map Sum.inl
 | .dik ks,o=>∃ (a:Addr) (kvs:List (Key×V)),o=some (.ref a)/\H a=some (.dK kvs)/\G a=none/\H0 a=none/\kvs.map (·.1)=ks.map Sum.inl
 | .iop p ws,o=>o=some (.ref p)/\∃ vs,H0 p=some (.lst vs)/\Reps K G vs ws
 | .hz w,o=>∃ v,o=some v/\Rep K (join H0 (eK G)) v w
structure PIv (K:Frag) (H0 G:Hp) (ρ:Rho) (σ:St) (H:Hp):Prop where
 g0:∀ a o,H0 a=some o->isL o=false->G a=some o
 gl:∀ a o,H0 a=some o->isL o=true->G a=none
 gh:Same G H
 hh:Same H0 H
 len:ρ.length=σ.length
 sl:∀ (i:Nat) (x:Sl) (o:Option V),ρ[i]?=some x->σ[i]?=some o->SlR K H0 G H x o
 ne:∀ (i j:Nat) (ws us:List W) (a:Addr),i≠j->ρ[i]?=some (.own ws)->ρ[j]?=some (.own us)->σ[i]?=some (some (.ref a))->σ[j]?≠some (some (.ref a))
structure Ext (G H G' H':Hp):Prop where
 gg:Same G G'
 hh:Same H H'
 gh:Same G' H'
 keep:∀ a o,H a=some o->isL o=true->G a=none->G' a=none
theorem Ext.refl {G H:Hp} (h:Same G H):Ext G H G H:=⟨Same.refl G,Same.refl H,h,fun _ _ _ _ e=>e⟩
theorem Ext.trans {G H G1 H1 G2 H2:Hp} (a:Ext G H G1 H1) (b:Ext G1 H1 G2 H2):Ext G H G2 H2:=
 ⟨a.gg.trans b.gg,a.hh.trans b.hh,b.gh,fun x o h l e=>b.keep x o (a.hh x o h) l (a.keep x o h l e)⟩
section
variable {K:Frag} {H0 G H G' H':Hp} {ρ:Rho} {σ:St}
theorem w9 (h:Same G G'):Same (join H0 G) (join H0 G'):=fun a o e=>by
 unfold join at e ⊢
 cases q:H0 a with
 | none=>rw [q] at e; exact h a o e
 | some u=>
  rw [q] at e
  dsimp only at e ⊢
  by_cases hl:isL u=true
  ·rw [if_pos hl] at e ⊢; exact e
  ·rw [if_neg hl] at e ⊢; exact h a o e
theorem PIv.G_join (I:PIv K H0 G ρ σ H):Same G (join H0 G):=fun a o e=>by
 unfold join
 cases q:H0 a with
 | none=>exact e
 | some u=>
  dsimp only
  by_cases hl:isL u=true
  ·rw [I.gl a u q hl] at e; cases e
  ·rw [if_neg hl]; exact e
theorem PIv.join_H (I:PIv K H0 G ρ σ H):Same (join H0 G) H:=fun a o e=>by
 unfold join at e
 cases q:H0 a with
 | none=>rw [q] at e; exact I.gh a o e
 | some u=>
  rw [q] at e
  dsimp only at e
  by_cases hl:isL u=true
  ·rw [if_pos hl] at e; cases e; exact I.hh a _ q
  ·rw [if_neg hl] at e; exact I.gh a o e
theorem PIv.ext (I:PIv K H0 G ρ σ H) (x:Ext G H G' H'):PIv K H0 G' ρ σ H' where
 g0 a o e l:=x.gg a o (I.g0 a o e l)
 gl a o e l:=x.keep a o (I.hh a o e) l (I.gl a o e l)
 gh:=x.gh
 hh:=I.hh.trans x.hh
 len:=I.len
 sl i s o h1 h2:=by
  have:=I.sl i s o h1 h2
  cases s with
  | un=>trivial
  | val w=>obtain ⟨v,e,r⟩:=this; exact ⟨v,e,r.same x.gg⟩
  | par w=>obtain ⟨v,e,r⟩:=this; exact ⟨v,e,r.same (w9 x.gg)⟩
  | own ws=>
   obtain ⟨a,vs,e,h,g,h0,r⟩:=this
   exact ⟨a,vs,e,x.hh a _ h,x.keep a _ h rfl g,h0,r.same x.gg⟩
  | dic ks=>
   obtain ⟨a,kvs,e,h,g,h0,r⟩:=this
   exact ⟨a,kvs,e,x.hh a _ h,x.keep a _ h rfl g,h0,r⟩
  | dik ks=>
   obtain ⟨a,kvs,e,h,g,h0,r⟩:=this
   exact ⟨a,kvs,e,x.hh a _ h,x.keep a _ h rfl g,h0,r⟩
  | iop p ws=>
   obtain ⟨e,vs,h,r⟩:=this
   exact ⟨e,vs,h,r.same x.gg⟩
  | hz w=>obtain ⟨v,e,r⟩:=this; exact ⟨v,e,r.same (w9 (aX x.gg))⟩
 ne:=I.ne
theorem cV {a:Addr} {o:HO} (h:join H0 G a=some o) (l:isL o=false):G a=some o:=by
 unfold join at h
 cases q:H0 a with
 | none=>rw [q] at h; exact h
 | some u=>
  rw [q] at h
  dsimp only at h
  by_cases hl:isL u=true
  ·rw [if_pos hl] at h; cases h; rw [hl] at l; cases l
  ·rw [if_neg hl] at h; exact h
theorem XD.clean {od:Option Addr}:∀ {i:Option Int},XD (join H0 G) od i->XD G od i
 | none,h=>h
 | some _,⟨d,h1,h2⟩=>⟨d,h1,cV h2 rfl⟩
theorem Rep.clean (I:PIv K H0 G ρ σ H) {v:V} {w:W} (r:Rep K (join H0 G) v w):noL w=true->Rep K G v w:=
 @Rep.rec K (join H0 G) (fun v w _=>noL w=true->Rep K G v w) (fun vs ws _=>m7 ws=true->Reps K G vs ws) (fun _=>.non) (fun _=>.bl) (fun _=>.int) (fun _=>.str) (fun _=>.ty)
  (fun h _ r n=>.tup (cV h rfl) (r n)) (fun _ _ _ n=>by cases n) (fun _ _ _ n=>by cases n) (fun h1 h2 h3 h4 h5 _=>.exc (cV h1 rfl) h2 h3 h4 (XD.clean h5)) (fun h _=>.cls h) (fun _=>.nil)
  (fun _ _ a b n=>by rw [m7,Bool.and_eq_true] at n; exact .cons (a n.1) (b n.2)) v w r
theorem Reps.clean (I:PIv K H0 G ρ σ H) {vs:List V} {ws:List W} (r:Reps K (join H0 G) vs ws):m7 ws=true->Reps K G vs ws:=
 @Reps.rec K (join H0 G) (fun _ _ _=>True) (fun vs ws _=>m7 ws=true->Reps K G vs ws) trivial trivial trivial trivial trivial (fun _ _ _=>trivial) (fun _ _ _=>trivial) (fun _ _ _=>trivial) (fun _ _ _ _ _=>trivial) (fun _=>trivial) (fun _=>.nil)
  (fun h _ _ b n=>by rw [m7,Bool.and_eq_true] at n; exact .cons (Rep.clean I h n.1) (b n.2)) vs ws r
end
structure XW where
 cls:Str
 at_:Option Int
inductive R (α:Type) where
 | ok (a:α) | ex (e:XW) | stuck
def R.bind {α β:Type} (x:R α) (f:α->R β):R β:=match x with
 | .ok a=>f a
 | .ex e=>.ex e
 | .stuck=>.stuck
instance:Monad R where
 pure:=R.ok
 bind:=R.bind
@[simp] theorem R.ok_bind {α β:Type} (a:α) (f:α->R β):((R.ok a:R α)>>=f)=f a:=rfl
@[simp] theorem R.stuck_bind {α β:Type} (f:α->R β):((R.stuck:R α)>>=f)=.stuck:=rfl
@[simp] theorem R.ex_bind {α β:Type} (e:XW) (f:α->R β):((R.ex e:R α)>>=f)=.ex e:=rfl
@[simp] theorem R.pure_eq {α:Type} (a:α):(pure a:R α)=.ok a:=rfl
inductive Mode where
 | F | V | U | C | B
def Md (K:Frag) (H0 H G' H':Hp) (v:V) (w:W):Mode->Prop
 | .V=>Rep K G' v w
 | .U=>Rep K (join H0 G') v w
 | .F=>match w with
  | .lst ws=>∃ a vs,v=.ref a/\H' a=some (.lst vs)/\G' a=none/\H a=none/\Reps K G' vs ws
  | w=>Rep K G' v w
 | .C=>Rep K G' v w\/∃ a vs ws,v=.ref a/\w=.lst ws/\H' a=some (.lst vs)/\Reps K G' vs ws
 | .B=>Rep K (join H0 G') v w\/∃ a vs ws,v=.ref a/\w=.lst ws/\H' a=some (.lst vs)/\Reps K G' vs ws
abbrev EXT:=XW->Hp->Prop
def Out {α β:Type} (EX:EXT) (G H:Hp) (md:α->β->Hp->Hp->Prop) (r:R α) (Q:β->Hp->Prop):Prop:=match r with
 | .ok w=>∀ v G' H',Ext G H G' H'->md w v G' H'->Q v H'
 | .ex e=>∀ H',Same H H'->EX e H'
 | .stuck=>False
abbrev mdW (K:Frag) (d:Mode) (H0 H:Hp):W->V->Hp->Hp->Prop:=fun w v G' H'=>Md K H0 H G' H' v w d
abbrev mdB:Bool->Bool->Hp->Hp->Prop:=fun b c _ _=>c=b
inductive MdA (K:Frag) (d:Mode) (H0 H G' H':Hp):List W->List V->Prop where
 | nil:MdA K d H0 H G' H' [] []
 | cons {w:W} {v:V} {ws:List W} {vs:List V}:Md K H0 H G' H' v w d->MdA K d H0 H G' H' ws vs->MdA K d H0 H G' H' (w::ws) (v::vs)
def MdAI (K:Frag) (d:Mode) (H0 H G' H':Hp) (vs:List V):List W->Prop
 | []=>vs = []
 | w::ws=>∃ v us,vs=v::us/\Md K H0 H G' H' v w d/\MdA K d H0 H G' H' ws us
abbrev mdA (K:Frag) (d:Mode) (H0 H:Hp):List W->List V->Hp->Hp->Prop:=fun ws vs G' H'=>MdA K d H0 H G' H' ws vs
def tM (K:Frag) (EX:EXT) (d:Mode) (m:Rho->R W):TE:=fun σ H Q=>∃ H0 G ρ,PIv K H0 G ρ σ H/\Out EX G H (mdW K d H0 H) (m ρ) Q
def tT (K:Frag) (EX:EXT) (m:Rho->R Bool):TT:=fun σ H Q=>∃ H0 G ρ,PIv K H0 G ρ σ H/\Out EX G H mdB (m ρ) Q
def tA (K:Frag) (EX:EXT) (d:Mode) (m:Rho->R (List W)):TA:=fun σ H Q=>∃ H0 G ρ,PIv K H0 G ρ σ H/\Out EX G H (mdA K d H0 H) (m ρ) Q
section
variable {K:Frag} {EX:EXT} {H0 G H G1 H1 G2 H2:Hp} {ρ:Rho} {σ:St}
theorem Out.bind {α β γ δ:Type} {md:α->β->Hp->Hp->Prop} {md':γ->δ->Hp->Hp->Prop} {m:R α} {k:α->R γ} {Q:δ->Hp->Prop} {Q1:β->Hp->Prop} (o:Out EX G H md' (m>>=k) Q)
  (h:∀ x G1 H1 w,Ext G H G1 H1->md w x G1 H1->Out EX G1 H1 md' (k w) Q->Q1 x H1):Out EX G H md m Q1:=by
 cases m with
 | ok w=>
  intro v G' H' e d
  refine h v G' H' w e d ?_
  rw [R.ok_bind] at o
  revert o
  cases k w with
  | ok u=>exact fun o v2 G2 H2 e2 d2=>o v2 G2 H2 (e.trans e2) d2
  | ex x=>exact fun o H2 s2=>o H2 (e.hh.trans s2)
  | stuck=>exact fun o=>o
 | ex x=>exact o
 | stuck=>exact o
theorem Md.start {v:V} {w:W} {d:Mode} (s:Same H H1) (h:Md K H0 H1 G2 H2 v w d):Md K H0 H G2 H2 v w d:=by
 cases d with
 | F=>
  cases w with
  | lst ws=>obtain ⟨a,vs,e,h1,h2,h3,r⟩:=h; exact ⟨a,vs,e,h1,h2,s.free h3,r⟩
  | _=>exact h
 | _=>exact h
theorem Md.move {v:V} {w:W} {d:Mode} (x:Ext G1 H1 G2 H2) (h:Md K H0 H G1 H1 v w d):Md K H0 H G2 H2 v w d:=by
 cases d with
 | V=>exact Rep.same x.gg h
 | U=>exact Rep.same (w9 x.gg) h
 | F=>
  cases w with
  | lst ws=>obtain ⟨a,vs,e,h1,h2,h3,r⟩:=h; exact ⟨a,vs,e,x.hh _ _ h1,x.keep _ _ h1 rfl h2,h3,r.same x.gg⟩
  | non=>exact Rep.same x.gg h
  | bl _=>exact Rep.same x.gg h
  | int _=>exact Rep.same x.gg h
  | str _=>exact Rep.same x.gg h
  | ty _=>exact Rep.same x.gg h
  | tup _=>exact Rep.same x.gg h
  | scr _=>exact Rep.same x.gg h
  | exc _ _=>exact Rep.same x.gg h
  | cls _=>exact Rep.same x.gg h
 | C=>
  rcases h with h | ⟨a,vs,ws,e,e2,h1,r⟩
  ·exact .inl (h.same x.gg)
  ·exact .inr ⟨a,vs,ws,e,e2,x.hh _ _ h1,r.same x.gg⟩
 | B=>
  rcases h with h | ⟨a,vs,ws,e,e2,h1,r⟩
  ·exact .inl (h.same (w9 x.gg))
  ·exact .inr ⟨a,vs,ws,e,e2,x.hh _ _ h1,r.same x.gg⟩
theorem Md.CB {v:V} {w:W} (I:PIv K H0 G1 ρ σ H1) (h:Md K H0 H G1 H1 v w .C):Md K H0 H G1 H1 v w .B:=by
 rcases h with h | h
 ·exact .inl (h.same I.G_join)
 ·exact .inr h
def sca:W->Bool
 | .tup _=>false
 | .scr _=>false
 | .lst _=>false
 | _=>true
theorem Md.sca {v:V} {w:W} (hs:sca w=true) (r:∀ F,Rep K F v w) (d:Mode):Md K H0 H G1 H1 v w d:=by
 cases d with
 | V=>exact r _
 | U=>exact r _
 | C=>exact .inl (r _)
 | B=>exact .inl (r _)
 | F=>cases w <;> first | exact r _ | cases hs
theorem Md.repB {v:V} {w:W} (h:Md K H0 H G1 H1 v w .B) (n:∀ us,w≠.lst us):Rep K (join H0 G1) v w:=Or.elim h id fun zz79=>by obtain ⟨_,_,us,_,e,_⟩:=zz79; exact absurd e (n us)
theorem Md.repC {v:V} {w:W} (h:Md K H0 H G1 H1 v w .C) (n:∀ us,w≠.lst us):Rep K G1 v w:=Or.elim h id fun zz80=>by obtain ⟨_,_,us,_,e,_⟩:=zz80; exact absurd e (n us)
theorem Md.lstB {v:V} {ws:List W} (I:PIv K H0 G1 ρ σ H1) (h:Md K H0 H G1 H1 v (.lst ws) .B):∃ a vs,v=.ref a/\H1 a=some (.lst vs)/\Reps K (join H0 G1) vs ws:=by
 rcases h with h | ⟨a,vs,us,e,e2,h1,r⟩
 ·obtain ⟨a,vs,e,s,r⟩:=h.inv; exact ⟨a,vs,e,I.join_H _ _ s,r⟩
 ·rw [W.lst.inj e2]; exact ⟨a,vs,e,h1,r.same I.G_join⟩
theorem Md.scrB {v:V} {ws:List W} (I:PIv K H0 G1 ρ σ H1) (h:Md K H0 H G1 H1 v (.scr ws) .B):∃ a vs,v=.ref a/\SqL K H1 a vs/\Reps K (join H0 G1) vs ws:=by
 obtain ⟨a,vs,e,s,r⟩:=(h.repB fun _=>W.noConfusion).inv; exact ⟨a,vs,e,Same.seq I.join_H s,r⟩
theorem Md.lstC {v:V} {ws:List W} (I:PIv K H0 G1 ρ σ H1) (h:Md K H0 H G1 H1 v (.lst ws) .C):∃ a vs,v=.ref a/\H1 a=some (.lst vs)/\Reps K G1 vs ws:=by
 rcases h with h | ⟨a,vs,us,e,e2,h1,r⟩
 ·obtain ⟨a,vs,e,s,r⟩:=h.inv; exact ⟨a,vs,e,I.gh _ _ s,r⟩
 ·rw [W.lst.inj e2]; exact ⟨a,vs,e,h1,r⟩
theorem Md.tupB {v:V} {ws:List W} (I:PIv K H0 G1 ρ σ H1) (h:Md K H0 H G1 H1 v (.tup ws) .B):∃ a vs,v=.ref a/\H1 a=some (.tup vs)/\Reps K (join H0 G1) vs ws:=by
 obtain ⟨a,vs,e,s,r⟩:=(h.repB fun _=>W.noConfusion).inv; exact ⟨a,vs,e,I.join_H _ _ s,r⟩
theorem Md.tupC {v:V} {ws:List W} (I:PIv K H0 G1 ρ σ H1) (h:Md K H0 H G1 H1 v (.tup ws) .C):∃ a vs,v=.ref a/\H1 a=some (.tup vs)/\Reps K G1 vs ws:=by
 obtain ⟨a,vs,e,s,r⟩:=(h.repC fun _=>W.noConfusion).inv; exact ⟨a,vs,e,I.gh _ _ s,r⟩
theorem Md.intB {v:V} {i:Int} (h:Md K H0 H G1 H1 v (.int i) .B):v=.int i:=(h.repB fun _=>W.noConfusion).inv
theorem Md.blB {v:V} {i:Bool} (h:Md K H0 H G1 H1 v (.bl i) .B):v=.bl i:=(h.repB fun _=>W.noConfusion).inv
theorem Md.strB {v:V} {i:Str} (h:Md K H0 H G1 H1 v (.str i) .B):v=.str i:=(h.repB fun _=>W.noConfusion).inv
theorem Md.nonB {v:V} (h:Md K H0 H G1 H1 v .non .B):v=.non:=(h.repB fun _=>W.noConfusion).inv
theorem Md.tyB {v:V} {n:String} (h:Md K H0 H G1 H1 v (.ty n) .B):v=.ty n:=(h.repB fun _=>W.noConfusion).inv
theorem uO {m:Rho->R W} {Q:VK} (h:tM K EX .V m σ H Q):tM K EX .F m σ H Q:=by
 obtain ⟨H0,G,ρ,I,o⟩:=h
 refine ⟨H0,G,ρ,I,?_⟩
 revert o
 cases m ρ with
 | ex e=>exact id
 | stuck=>exact id
 | ok w=>
  intro o v G' H' e d
  cases w with
  | lst ws=>
   obtain ⟨a,vs,rfl,h1,h2,h3,r⟩:=d
   have s1:Same G' (upd G' a (.lst vs)):=fun b o q=>by rw [d8 (f7 q h2)]; exact q
   refine o _ (upd G' a (.lst vs)) H' ⟨e.gg.trans s1,e.hh,fun b o q=>?_,fun b o q l g=>?_⟩ (.lst i7 (r.same s1))
   ·by_cases hb:b=a
    ·subst hb; rw [i7] at q; cases q; exact h1
    ·rw [d8 hb] at q; exact e.gh b o q
   ·rw [d8 (f7 q h3)]; exact e.keep b o q l g
  | _=>exact o v G' H' e d
theorem uL {m:Rho->R W} {Q:VK} (h:tM K EX .U m σ H Q):tM K EX .V m σ H Q:=by
 obtain ⟨H0,G,ρ,I,o⟩:=h
 refine ⟨H0,G,ρ,I,?_⟩
 revert o
 cases m ρ with
 | ex e=>exact id
 | stuck=>exact id
 | ok w=>exact fun o v G' H' e d=>o v G' H' e (Rep.same (I.ext e).G_join d)
theorem uM {m:Rho->R W} {Q:VK} (h:tM K EX .C m σ H Q):tM K EX .V m σ H Q:=by
 obtain ⟨H0,G,ρ,I,o⟩:=h
 refine ⟨H0,G,ρ,I,?_⟩
 revert o
 cases m ρ with
 | ex e=>exact id
 | stuck=>exact id
 | ok w=>exact fun o v G' H' e d=>o v G' H' e (.inl d)
theorem uN {m:Rho->R W} {Q:VK} (h:tM K EX .B m σ H Q):tM K EX .U m σ H Q:=by
 obtain ⟨H0,G,ρ,I,o⟩:=h
 refine ⟨H0,G,ρ,I,?_⟩
 revert o
 cases m ρ with
 | ex e=>exact id
 | stuck=>exact id
 | ok w=>exact fun o v G' H' e d=>o v G' H' e (.inl d)
theorem uQ {m:Rho->R W} {Q:VK} (h:tM K EX .B m σ H Q):tM K EX .C m σ H Q:=by
 obtain ⟨H0,G,ρ,I,o⟩:=h
 refine ⟨H0,G,ρ,I,?_⟩
 revert o
 cases m ρ with
 | ex e=>exact id
 | stuck=>exact id
 | ok w=>exact fun o v G' H' e d=>o v G' H' e (Md.CB (H:=H) (I.ext e) d)
theorem uP {m:Rho->R W} {Q:VK} (h:tM K EX .C m σ H Q):tM K EX .F m σ H Q:=by
 obtain ⟨H0,G,ρ,I,o⟩:=h
 refine ⟨H0,G,ρ,I,?_⟩
 revert o
 cases m ρ with
 | ex e=>exact id
 | stuck=>exact id
 | ok w=>
  intro o v G' H' e d
  cases w with
  | lst ws=>obtain ⟨a,vs,rfl,h1,h2,h3,r⟩:=d; exact o _ G' H' e (.inr ⟨a,vs,ws,rfl,rfl,h1,r⟩)
  | _=>exact o v G' H' e (.inl d)
def chk (w:W):R W:=if noL w then .ok w else .stuck
theorem kO {v:V} {w:W} (n:noL w=true) (r:Rep K G1 v w):Md K H0 H G1 H1 v w .F:=by
 cases w with
 | lst ws=>cases n
 | _=>exact r
theorem ia {m:Rho->R W} {Q:VK} {d:Mode} (hd:d=.F\/d=.V) (h:tM K EX d (fun ρ=>m ρ>>=chk) σ H Q):tM K EX .U m σ H Q:=by
 obtain ⟨H0,G,ρ,I,o⟩:=h
 refine ⟨H0,G,ρ,I,Out.bind o fun x G1 H1 w e m1 o1=>?_⟩
 unfold chk at o1
 by_cases n:noL w=true
 ·rw [if_pos n] at o1
  have r:=Rep.clean (I.ext e) m1 n
  refine o1 x G1 H1 (Ext.refl e.gh) ?_
  rcases hd with rfl | rfl
  ·exact kO n r
  ·exact r
 ·rw [if_neg n] at o1; exact o1.elim
end
end TP
namespace TP
open PySem L2
section
variable {K:Frag} {EX:EXT} {H0 G H G1 H1 G2 H2:Hp} {ρ:Rho} {σ:St} {d:Mode} {Q:VK}
theorem Y0 {v:V} {w:W} (hs:sca w=true) (r:∀ F,Rep K F v w) (h:tM K EX d (fun _=>.ok w) σ H Q):tC v σ H Q:=by
 obtain ⟨H0,G,ρ,I,o⟩:=h
 exact o v G H (Ext.refl I.gh) (Md.sca hs r d)
def b8 (d:Mode) (i:Nat):Rho->R W:=fun ρ=>match ρ[i]? with
 | some (.val w)=>(match d with | .F=>chk w | _=>.ok w)
 | some (.par w)=>(match d with | .F=>chk w | .V=>chk w | .C=>chk w | _=>.ok w)
 | some (.own ws)=>(match d with | .C=>.ok (.lst ws) | .B=>.ok (.lst ws) | _=>.stuck)
 | some (.iop _ ws)=>(match d with | .B=>.ok (.lst ws) | .U=>.ok (.lst ws) | _=>.stuck)
 | some (.hz w)=>(match d with | .B=>.ok w | .U=>.ok w | _=>.stuck)
 | _=>.stuck
theorem Out.chk {α:Type} {v:V} {w:W} {md:W->α->Hp->Hp->Prop} {Q:α->Hp->Prop} (o:Out EX G H md (chk w) Q):noL w=true/\Out EX G H md (.ok w) Q:=by
 unfold TP.chk at o
 by_cases n:noL w=true
 ·rw [if_pos n] at o; exact ⟨n,o⟩
 ·rw [if_neg n] at o; exact o.elim
theorem ge {i:Nat} (h:tM K EX d (b8 d i) σ H Q):U3 i σ H Q:=by
 obtain ⟨H0,G,ρ,I,o⟩:=h
 unfold b8 at o
 cases e:ρ[i]? with
 | none=>rw [e] at o; exact o.elim
 | some s=>
  rw [e] at o
  have hi:i<σ.length:=by rw [<- I.len]; exact (List.getElem?_eq_some_iff.mp e).1
  have es:σ[i]?=some σ[i]:=by simp
  have r:=I.sl i s _ e es
  cases s with
  | un=>exact o.elim
  | val w=>
   obtain ⟨v,ev,r⟩:=r
   refine ⟨v,by rw [es,ev],?_⟩
   cases d with
   | F=>obtain ⟨n,o⟩:=Out.chk (v:=v) o; exact o v G H (Ext.refl I.gh) (kO n r)
   | V=>exact o v G H (Ext.refl I.gh) r
   | U=>exact o v G H (Ext.refl I.gh) (r.same I.G_join)
   | C=>exact o v G H (Ext.refl I.gh) (.inl r)
   | B=>exact o v G H (Ext.refl I.gh) (.inl (r.same I.G_join))
  | par w=>
   obtain ⟨v,ev,r⟩:=r
   refine ⟨v,by rw [es,ev],?_⟩
   cases d with
   | F=>obtain ⟨n,o⟩:=Out.chk (v:=v) o; exact o v G H (Ext.refl I.gh) (kO n (Rep.clean I r n))
   | V=>obtain ⟨n,o⟩:=Out.chk (v:=v) o; exact o v G H (Ext.refl I.gh) (Rep.clean I r n)
   | U=>exact o v G H (Ext.refl I.gh) r
   | C=>obtain ⟨n,o⟩:=Out.chk (v:=v) o; exact o v G H (Ext.refl I.gh) (.inl (Rep.clean I r n))
   | B=>exact o v G H (Ext.refl I.gh) (.inl r)
  | own ws=>
   obtain ⟨a,vs,ev,ha,hg,h0,r⟩:=r
   refine ⟨.ref a,by rw [es,ev],?_⟩
   cases d with
   | F=>exact o.elim
   | V=>exact o.elim
   | U=>exact o.elim
   | C=>exact o _ G H (Ext.refl I.gh) (.inr ⟨a,vs,ws,rfl,rfl,ha,r⟩)
   | B=>exact o _ G H (Ext.refl I.gh) (.inr ⟨a,vs,ws,rfl,rfl,ha,r⟩)
  | dic ks=>exact o.elim
  | dik ks=>exact o.elim
  | hz w=>
   obtain ⟨v,ev,r⟩:=r
   refine ⟨v,by rw [es,ev],?_⟩
   have rj:=r.same (w9 (H0:=H0) (qj (G:=G)))
   cases d with
   | F=>exact o.elim
   | V=>exact o.elim
   | C=>exact o.elim
   | U=>exact o v G H (Ext.refl I.gh) rj
   | B=>exact o v G H (Ext.refl I.gh) (.inl rj)
  | iop p ws=>
   obtain ⟨ev,vs,h0,r⟩:=r
   refine ⟨.ref p,by rw [es,ev],?_⟩
   have rj:Rep K (join H0 G) (.ref p) (.lst ws):=by
    refine .lst (vs:=vs) ?_ (r.same I.G_join)
    unfold join
    rw [h0]; rfl
   cases d with
   | F=>exact o.elim
   | V=>exact o.elim
   | U=>exact o _ G H (Ext.refl I.gh) rj
   | C=>exact o.elim
   | B=>exact o _ G H (Ext.refl I.gh) (.inl rj)
def Op2 (K:Frag) (b d:Mode) (r:R2) (f:W->W->R W):Prop:=∀ (EX:EXT) (H0 Hs G H:Hp) (ρ:Rho) (σ:St) (Ha Hb:Hp) (x y:V) (u v:W) (Q:VK),PIv K H0 G ρ σ H->Same Hs H->Md K H0 Ha G H x u b->Md K H0 Hb G H y v b ->
 Out EX G H (mdW K d H0 Hs) (f u v) Q->r x y H Q
theorem iO {b:Mode} {r:R2} {f:W->W->R W} {ma mb:Rho->R W} (hr:Op2 K b d r f) (h:tM K EX d (fun ρ=>ma ρ>>=fun x=>mb ρ>>=fun y=>f x y) σ H Q):tOp r (tM K EX b ma) (tM K EX b mb) σ H Q:=by
 obtain ⟨H0,G,ρ,I,o⟩:=h
 refine ⟨H0,G,ρ,I,Out.bind o fun x G1 H1 u e1 m1 o1=>⟨H0,G1,ρ,I.ext e1,Out.bind o1 fun y G2 H2 v e2 m2 o2=>?_⟩⟩
 exact hr EX H0 H G2 H2 ρ σ H H1 x y u v Q ((I.ext e1).ext e2) (e1.hh.trans e2.hh) (m1.move e2) m2 o2
def Op1 (K:Frag) (b d:Mode) (r:V->Hp->VK->Prop) (f:W->R W):Prop:=∀ (EX:EXT) (H0 Hs G H:Hp) (ρ:Rho) (σ:St) (Ha:Hp) (x:V) (u:W) (Q:VK),PIv K H0 G ρ σ H->Same Hs H->Md K H0 Ha G H x u b ->
 Out EX G H (mdW K d H0 Hs) (f u) Q->r x H Q
theorem c_un {b:Mode} {r:V->Hp->VK->Prop} {f:W->R W} {ma:Rho->R W} (hr:Op1 K b d r f) (h:tM K EX d (fun ρ=>ma ρ>>=fun x=>f x) σ H Q):tUn r (tM K EX b ma) σ H Q:=by
 obtain ⟨H0,G,ρ,I,o⟩:=h
 exact ⟨H0,G,ρ,I,Out.bind o fun x G1 H1 u e1 m1 o1=>hr EX H0 H G1 H1 ρ σ H x u Q (I.ext e1) e1.hh m1 o1⟩
def fI (C:Int->Int->Prop) [∀ i j,Decidable (C i j)] (g:Int->Int->W):W->W->R W
 | .int i,.int j=>if C i j then .ok (g i j) else .stuck
 | _,_=>.stuck
def fI0 (g:Int->Int->W):W->W->R W
 | .int i,.int j=>.ok (g i j)
 | _,_=>.stuck
theorem o8 {C:Int->Int->Prop} [∀ i j,Decidable (C i j)] {g:Int->Int->W} {gv:Int->Int->V} (hs:∀ i j,sca (g i j)=true) (hg:∀ i j F,Rep K F (gv i j) (g i j)):Op2 K .B d (rI C gv) (fI C g):=by
 intro EX H0 Hs G H ρ σ Ha Hb x y u v Q I s mx my o
 cases u <;> first | exact o.elim | skip
 all_goals (cases v <;> first | exact o.elim | skip)
 rename_i i j
 have o':Out EX G H (mdW K d H0 Hs) (if C i j then R.ok (g i j) else .stuck) Q:=o
 by_cases c:C i j
 ·rw [if_pos c] at o'
  exact ⟨i,j,mx.intB,my.intB,c,o' _ G H (Ext.refl I.gh) (Md.sca (hs i j) (hg i j) d)⟩
 ·rw [if_neg c] at o'; exact o'.elim
theorem bT {g:Int->Int->W} {gv:Int->Int->V} (hs:∀ i j,sca (g i j)=true) (hg:∀ i j F,Rep K F (gv i j) (g i j)):Op2 K .B d (rI0 gv) (fI0 g):=by
 intro EX H0 Hs G H ρ σ Ha Hb x y u v Q I s mx my o
 cases u <;> first | exact o.elim | skip
 all_goals (cases v <;> first | exact o.elim | skip)
 rename_i i j
 exact ⟨i,j,mx.intB,my.intB,o _ G H (Ext.refl I.gh) (Md.sca (hs i j) (hg i j) d)⟩
def fU (g:Int->W):W->R W
 | .int i=>.ok (g i)
 | _=>.stuck
theorem eG {g:Int->W} {gv:Int->V} (hs:∀ i,sca (g i)=true) (hg:∀ i F,Rep K F (gv i) (g i)):Op1 K .B d (rU gv) (fU g):=by
 intro EX H0 Hs G H ρ σ Ha x u Q I s mx o
 cases u <;> first | exact o.elim | skip
 rename_i i
 exact ⟨i,mx.intB,o _ G H (Ext.refl I.gh) (Md.sca (hs i) (hg i) d)⟩
def isN:W->Bool
 | .non=>true
 | _=>false
def S3 (neg:Bool):W->W->R W
 | u,.non=>.ok (.bl (if neg then !isN u else isN u))
 | _,_=>.stuck
theorem nP {b:Mode} (hb:b=.B\/b=.U\/b=.V\/b=.C) {v:V} {w:W} {Hs:Hp} (h:Md K H0 Hs G1 H1 v w b):decide (v=.non)=isN w:=by
 have key:∀ F,Rep K F v w->decide (v=.non)=isN w:=fun F r=>by
  cases r <;> first | rfl | (apply decide_eq_false; intro z; cases z)
 rcases hb with rfl | rfl | rfl | rfl
 ·rcases h with h | ⟨a,vs,ws,rfl,rfl,_⟩
  ·exact key _ h
  ·apply decide_eq_false; intro z; cases z
 ·exact key _ h
 ·exact key _ h
 ·rcases h with h | ⟨a,vs,ws,rfl,rfl,_⟩
  ·exact key _ h
  ·apply decide_eq_false; intro z; cases z
theorem hJ:Op2 K .B d (fun x y H Q=>y=.non/\Q (.bl (decide (x=.non))) H) (S3 false):=by
 intro EX H0 Hs G H ρ σ Ha Hb x y u v Q I s mx my o
 cases v <;> first | exact o.elim | skip
 refine ⟨my.nonB,?_⟩
 rw [nP (.inl rfl) mx]
 exact o _ G H (Ext.refl I.gh) (Md.sca rfl (fun _=>.bl) d)
theorem W9:Op2 K .B d (fun x y H Q=>y=.non/\Q (.bl (!decide (x=.non))) H) (S3 true):=by
 intro EX H0 Hs G H ρ σ Ha Hb x y u v Q I s mx my o
 cases v <;> first | exact o.elim | skip
 refine ⟨my.nonB,?_⟩
 rw [nP (.inl rfl) mx]
 exact o _ G H (Ext.refl I.gh) (Md.sca rfl (fun _=>.bl) d)
def toB:W->R Bool
 | .bl b=>.ok b
 | _=>.stuck
theorem oB {ma:Rho->R W} {Q:Bool->Hp->Prop} (h:tT K EX (fun ρ=>ma ρ>>=toB) σ H Q):rO (tM K EX .B ma) σ H Q:=by
 obtain ⟨H0,G,ρ,I,o⟩:=h
 refine ⟨H0,G,ρ,I,Out.bind o fun x G1 H1 u e1 m1 o1=>?_⟩
 cases u <;> first | exact o1.elim | skip
 rename_i b
 exact ⟨b,m1.blB,o1 b G1 H1 (Ext.refl e1.gh) rfl⟩
theorem c_tB {ma:Rho->R W} {Q:Bool->Hp->Prop} (h:tT K EX (fun ρ=>ma ρ>>=toB) σ H Q):tB (tM K EX .B ma) σ H Q:=oB h
def eu (a b:R Bool):R Bool:=a>>=fun c=>if c then b else .ok false
def rOr (a b:R Bool):R Bool:=a>>=fun c=>if c then .ok true else b
def kH (a:R Bool):R Bool:=a>>=fun c=>.ok (!c)
theorem Cq {ma mb:Rho->R Bool} {Q:Bool->Hp->Prop} (h:tT K EX (fun ρ=>eu (ma ρ) (mb ρ)) σ H Q):wL (tT K EX ma) (tT K EX mb) σ H Q:=by
 obtain ⟨H0,G,ρ,I,o⟩:=h
 refine ⟨H0,G,ρ,I,Out.bind o fun x G1 H1 u e1 m1 o1=>?_⟩
 cases m1
 cases x with
 | true=>exact ⟨H0,G1,ρ,I.ext e1,o1⟩
 | false=>exact o1 false G1 H1 (Ext.refl e1.gh) rfl
theorem c_or {ma mb:Rho->R Bool} {Q:Bool->Hp->Prop} (h:tT K EX (fun ρ=>rOr (ma ρ) (mb ρ)) σ H Q):tOr (tT K EX ma) (tT K EX mb) σ H Q:=by
 obtain ⟨H0,G,ρ,I,o⟩:=h
 refine ⟨H0,G,ρ,I,Out.bind o fun x G1 H1 u e1 m1 o1=>?_⟩
 cases m1
 cases x with
 | true=>exact o1 true G1 H1 (Ext.refl e1.gh) rfl
 | false=>exact ⟨H0,G1,ρ,I.ext e1,o1⟩
theorem Cf {ma:Rho->R Bool} {Q:Bool->Hp->Prop} (h:tT K EX (fun ρ=>kH (ma ρ)) σ H Q):wD (tT K EX ma) σ H Q:=by
 obtain ⟨H0,G,ρ,I,o⟩:=h
 refine ⟨H0,G,ρ,I,Out.bind o fun x G1 H1 u e1 m1 o1=>?_⟩
 cases m1
 exact o1 _ G1 H1 (Ext.refl e1.gh) rfl
def bM (a b:R W):R W:=a>>=fun x=>toB x>>=fun c=>if c then b else .ok (.bl false)
def gA (a b:R W):R W:=a>>=fun x=>toB x>>=fun c=>if c then .ok (.bl true) else b
def fX (a:R W):R W:=a>>=fun x=>toB x>>=fun c=>.ok (.bl (!c))
theorem AQ {ma mb:Rho->R W} (h:tM K EX d (fun ρ=>bM (ma ρ) (mb ρ)) σ H Q):rW (tM K EX .B ma) (tM K EX d mb) σ H Q:=by
 obtain ⟨H0,G,ρ,I,o⟩:=h
 refine ⟨H0,G,ρ,I,Out.bind o fun x G1 H1 u e1 m1 o1=>?_⟩
 cases u <;> first | exact o1.elim | skip
 rename_i b
 refine ⟨b,m1.blB,?_⟩
 cases b with
 | true=>
  rw [if_pos rfl]
  refine ⟨H0,G1,ρ,I.ext e1,?_⟩
  have o2:Out EX G1 H1 (mdW K d H0 H) (mb ρ) Q:=o1
  revert o2
  cases mb ρ with
  | ok w=>exact fun o2 v G2 H2 e2 m2=>o2 v G2 H2 e2 (m2.start e1.hh)
  | ex _=>exact id
  | stuck=>exact id
 | false=>
  rw [if_neg Bool.false_ne_true]
  exact o1 _ G1 H1 (Ext.refl e1.gh) (Md.sca rfl (fun _=>.bl) d)
theorem AF {ma:Rho->R W} (h:tM K EX d (fun ρ=>fX (ma ρ)) σ H Q):rQ (tM K EX .B ma) σ H Q:=by
 obtain ⟨H0,G,ρ,I,o⟩:=h
 refine ⟨H0,G,ρ,I,Out.bind o fun x G1 H1 u e1 m1 o1=>?_⟩
 cases u <;> first | exact o1.elim | skip
 rename_i b
 exact ⟨b,m1.blB,o1 _ G1 H1 (Ext.refl e1.gh) (Md.sca rfl (fun _=>.bl) d)⟩
theorem Out.restart {r:R W} (s:Same H H1) (o:Out EX G1 H1 (mdW K d H0 H) r Q):Out EX G1 H1 (mdW K d H0 H1) r Q:=by
 revert o
 cases r with
 | ok w=>exact fun o v G2 H2 e2 m2=>o v G2 H2 e2 (m2.start s)
 | ex _=>exact id
 | stuck=>exact id
theorem c_if {mc:Rho->R Bool} {ma mb:Rho->R W} (h:tM K EX d (fun ρ=>mc ρ>>=fun c=>if c then ma ρ else mb ρ) σ H Q):tIf (tT K EX mc) (tM K EX d ma) (tM K EX d mb) σ H Q:=by
 obtain ⟨H0,G,ρ,I,o⟩:=h
 refine ⟨H0,G,ρ,I,Out.bind o fun x G1 H1 u e1 m1 o1=>?_⟩
 cases m1
 cases x with
 | true=>exact ⟨H0,G1,ρ,I.ext e1,Out.restart e1.hh o1⟩
 | false=>exact ⟨H0,G1,ρ,I.ext e1,Out.restart e1.hh o1⟩
theorem vT {b:Mode} {r r':R2} {f f':W->W->R W} {ma mb mc:Rho->R W} (hr:Op2 K b .B r f) (hr':Op2 K b d r' f')
  (h:tM K EX d (fun ρ=>ma ρ>>=fun x=>mb ρ>>=fun y=>f x y>>=fun z=>toB z>>=fun c=>if c then mc ρ>>=fun u=>f' y u else .ok (.bl false)) σ H Q) :
  (fun σ H Q=>tM K EX b ma σ H fun x H1=>tM K EX b mb σ H1 fun y H2=>r x y H2 fun z H3=>∃ k,z=.bl k/\if k=true then tM K EX b mc σ H3 fun u H4=>r' y u H4 Q else Q (.bl false) H3) σ H Q:=by
 obtain ⟨H0,G,ρ,I,o⟩:=h
 refine ⟨H0,G,ρ,I,Out.bind o fun x G1 H1 u e1 m1 o1=>⟨H0,G1,ρ,I.ext e1,Out.bind o1 fun y G2 H2 v e2 m2 o2=>?_⟩⟩
 have I2:=(I.ext e1).ext e2
 refine hr EX H0 H G2 H2 ρ σ H H1 x y u v _ I2 (e1.hh.trans e2.hh) (m1.move e2) m2 (Out.bind o2 fun z G3 H3 wz e3 m3 o3=>?_)
 cases wz <;> first | exact o3.elim | skip
 rename_i k
 refine ⟨k,m3.blB,?_⟩
 cases k with
 | true=>
  rw [if_pos rfl]
  refine ⟨H0,G3,ρ,I2.ext e3,Out.bind (k:=fun u=>f' v u) o3 fun t G4 H4 wt e4 m4 o4=>?_⟩
  exact hr' EX H0 H G4 H4 ρ σ H1 H3 y t v wt Q ((I2.ext e3).ext e4) (((e1.hh.trans e2.hh).trans e3.hh).trans e4.hh) ((m2.move e3).move e4) m4 o4
 | false=>
  rw [if_neg Bool.false_ne_true]
  exact o3 _ G3 H3 (Ext.refl e3.gh) (Md.sca rfl (fun _=>.bl) d)
theorem Cg {QA:List V->Hp->Prop} (h:tA K EX d (fun _=>.ok []) σ H QA):tNil σ H QA:=by
 obtain ⟨H0,G,ρ,I,o⟩:=h
 exact o [] G H (Ext.refl I.gh) .nil
theorem AM {ma:Rho->R W} {mr:Rho->R (List W)} {QA:List V->Hp->Prop} (h:tA K EX d (fun ρ=>ma ρ>>=fun x=>mr ρ>>=fun xs=>.ok (x::xs)) σ H QA):rT (tM K EX d ma) (tA K EX d mr) σ H QA:=by
 obtain ⟨H0,G,ρ,I,o⟩:=h
 refine ⟨H0,G,ρ,I,Out.bind o fun x G1 H1 u e1 m1 o1=>⟨H0,G1,ρ,I.ext e1,Out.bind o1 fun xs G2 H2 us e2 m2 o2=>?_⟩⟩
 refine o2 (x::xs) G2 H2 (Ext.refl e2.gh) (.cons (m1.move e2) ?_)
 have go:∀ {ws:List W} {vs:List V},MdA K d H0 H1 G2 H2 ws vs->MdA K d H0 H G2 H2 ws vs:=fun {ws vs} q=>by
  induction q with
  | nil=>exact .nil
  | cons a _ ih=>exact .cons (a.start e1.hh) ih
 exact go m2
theorem MdA.reps {ws:List W} {vs:List V} (h:MdA K .V H0 H G1 H1 ws vs):Reps K G1 vs ws:=
 @MdA.rec K .V H0 H G1 H1 (fun ws vs _=>Reps K G1 vs ws) .nil (fun h _ b=>.cons h b) ws vs h
theorem MdA.repsU {ws:List W} {vs:List V} (h:MdA K .U H0 H G1 H1 ws vs):Reps K (join H0 G1) vs ws:=
 @MdA.rec K .U H0 H G1 H1 (fun ws vs _=>Reps K (join H0 G1) vs ws) .nil (fun h _ b=>.cons h b) ws vs h
theorem uK {p:Addr} {o:HO} (hG:Same G H) (hp:H p=none):Ext G H G (upd H p o):=
 ⟨Same.refl G,fun b u q=>by rw [d8 (f7 q hp)]; exact q,fun b u q=>by rw [d8 (f7 (hG b u q) hp)]; exact hG b u q,fun _ _ _ _ e=>e⟩
theorem cQ {p:Addr} {o:HO} (hG:Same G H) (hp:H p=none):Ext G H (upd G p o) (upd H p o):=by
 have gp:G p=none:=hG.free hp
 refine ⟨fun b u q=>by rw [d8 (f7 q gp)]; exact q,fun b u q=>by rw [d8 (f7 q hp)]; exact q,fun b u q=>?_,fun b u q l g=>?_⟩
 ·by_cases hb:b=p
  ·subst hb; rw [i7] at q ⊢; exact q
  ·rw [d8 hb] at q ⊢; exact hG b u q
 ·rw [d8 (f7 q hp)]; exact g
theorem Out.newL {p:Addr} {vs:List V} {ws:List W} {Hs:Hp} (I:PIv K H0 G ρ σ H) (s:Same Hs H) (r:Reps K G vs ws) (hp:H p=none) (o:Out EX G H (mdW K .F H0 Hs) (.ok (.lst ws)) Q):Q (.ref p) (upd H p (.lst vs)):=
 o _ G _ (uK I.gh hp) ⟨p,vs,rfl,i7,I.gh.free hp,s.free hp,r⟩
theorem Out.newTF {p:Addr} {vs:List V} {ws:List W} {Hs:Hp} (I:PIv K H0 G ρ σ H) (r:Reps K G vs ws) (hp:H p=none) (o:Out EX G H (mdW K .F H0 Hs) (.ok (.tup ws)) Q):Q (.ref p) (upd H p (.tup vs)):=
 o _ (upd G p (.tup vs)) _ (cQ I.gh hp) (.tup i7 (r.same fun b u q=>by rw [d8 (f7 q (I.gh.free hp))]; exact q))
def lim (n:Nat) (w:W):R W:=if n<=1000 then .ok w else .stuck
theorem Out.lim {α:Type} {n:Nat} {w:W} {md:W->α->Hp->Hp->Prop} {Q:α->Hp->Prop} (o:Out EX G H md (lim n w) Q):n<=1000/\Out EX G H md (.ok w) Q:=by
 unfold TP.lim at o
 by_cases n:n<=1000
 ·rw [if_pos n] at o; exact ⟨n,o⟩
 ·rw [if_neg n] at o; exact o.elim
theorem P9 {n:Nat} (h:n<=1000):n<=sizeLine:=Nat.le_trans h (by decide)
theorem Cb {ma:Rho->R (List W)} (h:tM K EX .F (fun ρ=>ma ρ>>=fun ws=>lim ws.length (.tup ws)) σ H Q):pf (tA K EX .V ma) σ H Q:=by
 obtain ⟨H0,G,ρ,I,o⟩:=h
 refine ⟨H0,G,ρ,I,Out.bind o fun xs G1 H1 ws e1 m1 o1=>?_⟩
 obtain ⟨hl,o2⟩:=Out.lim o1
 have r:=MdA.reps m1
 exact ⟨by rw [r.length]; exact P9 hl,fun p hp=>Out.newTF (I.ext e1) r hp o2⟩
theorem Ch {ma:Rho->R (List W)} (h:tM K EX .F (fun ρ=>ma ρ>>=fun ws=>lim ws.length (.lst ws)) σ H Q):wE (tA K EX .V ma) σ H Q:=by
 obtain ⟨H0,G,ρ,I,o⟩:=h
 refine ⟨H0,G,ρ,I,Out.bind o fun xs G1 H1 ws e1 m1 o1=>?_⟩
 obtain ⟨hl,o2⟩:=Out.lim o1
 have r:=MdA.reps m1
 exact ⟨by rw [r.length]; exact P9 hl,fun p hp=>Out.newL (I.ext e1) e1.hh r hp o2⟩
theorem iu {p:Addr} {o:HO} (h:H0 p=none):join H0 (upd G p o)=upd (join H0 G) p o:=by
 funext b
 by_cases hb:b=p
 ·subst hb; unfold join; rw [h]; dsimp only; rw [i7,i7]
 ·rw [d8 hb]; unfold join; cases H0 b with
  | none=>dsimp only; rw [d8 hb]
  | some u=>dsimp only; rw [d8 hb]
theorem AA {ma:Rho->R (List W)} (h:tM K EX .U (fun ρ=>ma ρ>>=fun ws=>lim ws.length (.tup ws)) σ H Q):pf (tA K EX .U ma) σ H Q:=by
 obtain ⟨H0,G,ρ,I,o⟩:=h
 refine ⟨H0,G,ρ,I,Out.bind o fun xs G1 H1 ws e1 m1 o1=>?_⟩
 obtain ⟨hl,o2⟩:=Out.lim o1
 have r:=MdA.repsU m1
 have I1:=I.ext e1
 refine ⟨by rw [r.length]; exact P9 hl,fun p hp=>o2 _ (upd G1 p (.tup xs)) _ (cQ I1.gh hp) ?_⟩
 show Rep K (join H0 (upd G1 p (.tup xs))) _ _
 rw [iu (I1.hh.free hp)]
 exact .tup i7 (r.same fun b u q=>by rw [d8 (f7 (I1.join_H b u q) hp)]; exact q)
end
end TP
namespace TP
open PySem L2
inductive Fl where
 | nx (ρ:Rho) | rt (w:W) | bk (ρ:Rho) | ct (ρ:Rho)
def OutS (K:Frag) (EX:EXT) (d:Mode) (H0 G:Hp) (r:R Fl) (D:Ends):Prop:=match r with
 | .ok (.nx ρ)=>∀ G' σ' H',Same G G'->PIv K H0 G' ρ σ' H'->D.nx σ' H'
 | .ok (.bk ρ)=>∀ G' σ' H',Same G G'->PIv K H0 G' ρ σ' H'->D.bk σ' H'
 | .ok (.ct ρ)=>∀ G' σ' H',Same G G'->PIv K H0 G' ρ σ' H'->D.ct σ' H'
 | .ok (.rt w)=>∀ v G' H',Same G G'->Same G' H'->Same H0 H'->(∀ a o,H0 a=some o->isL o=true->G' a=none)->Md K H0 H0 G' H' v w d->D.rt v H'
 | .ex e=>∀ H',Same H0 H'->EX e H'
 | .stuck=>False
def tSt (K:Frag) (EX:EXT) (d:Mode) (m:Rho->R Fl):TS:=fun D σ H=>∃ H0 G ρ,PIv K H0 G ρ σ H/\OutS K EX d H0 G (m ρ) D
section
variable {K:Frag} {EX:EXT} {H0 G H G1 H1 G2 H2:Hp} {ρ:Rho} {σ:St} {d:Mode} {D:Ends}
theorem OutS.move {r:R Fl} (s:Same G G1) (o:OutS K EX d H0 G r D):OutS K EX d H0 G1 r D:=by
 cases r with
 | stuck=>exact o
 | ex e=>exact o
 | ok f=>
  cases f with
  | nx ρ'=>exact fun G' σ' H' s' I'=>o G' σ' H' (s.trans s') I'
  | bk ρ'=>exact fun G' σ' H' s' I'=>o G' σ' H' (s.trans s') I'
  | ct ρ'=>exact fun G' σ' H' s' I'=>o G' σ' H' (s.trans s') I'
  | rt w=>exact fun v G' H' s0 s1 s2 c md=>o v G' H' (s.trans s0) s1 s2 c md
theorem OutS.bind {α β:Type} {md:α->β->Hp->Hp->Prop} {m:R α} {k:α->R Fl} {Q1:β->Hp->Prop} (I:PIv K H0 G ρ σ H) (o:OutS K EX d H0 G (m>>=k) D)
  (h:∀ x G1 H1 w,Ext G H G1 H1->md w x G1 H1->OutS K EX d H0 G1 (k w) D->Q1 x H1):Out EX G H md m Q1:=by
 cases m with
 | ok w=>exact fun v G' H' e q=>h v G' H' w e q (OutS.move e.gg o)
 | ex e=>exact fun H' s=>o H' (I.hh.trans s)
 | stuck=>exact o
def d9 (m n:Rho->R Fl):Rho->R Fl:=fun ρ=>m ρ>>=fun f=>match f with
 | .nx ρ'=>n ρ'
 | .rt w=>.ok (.rt w)
 | .bk ρ'=>.ok (.bk ρ')
 | .ct ρ'=>.ok (.ct ρ')
theorem AG (h:tSt K EX d (fun ρ=>.ok (.nx ρ)) D σ H):tNext D σ H:=by
 obtain ⟨H0,G,ρ,I,o⟩:=h
 exact o G σ H (Same.refl G) I
theorem Ce {m n:Rho->R Fl} (h:tSt K EX d (d9 m n) D σ H):wB (tSt K EX d m) (tSt K EX d n) D σ H:=by
 obtain ⟨H0,G,ρ,I,o⟩:=h
 refine ⟨H0,G,ρ,I,?_⟩
 unfold d9 at o
 revert o
 cases m ρ with
 | stuck=>exact id
 | ex e=>exact id
 | ok f=>
  cases f with
  | nx ρ'=>exact fun o G' σ' H' s' I'=>⟨H0,G',ρ',I',OutS.move s' o⟩
  | _=>exact id
theorem AL (h:tSt K EX d (fun ρ=>.ok (.ct ρ)) D σ H):tCont D σ H:=by
 obtain ⟨H0,G,ρ,I,o⟩:=h
 exact o G σ H (Same.refl G) I
theorem vR (h:tSt K EX d (fun _=>.stuck) D σ H):tNever D σ H:=by
 obtain ⟨H0,G,ρ,I,o⟩:=h
 exact o
theorem sN {m:Rho->R W} (h:tSt K EX d (fun ρ=>m ρ>>=fun w=>.ok (.rt w)) D σ H):kE (tM K EX d m) D σ H:=by
 obtain ⟨H0,G,ρ,I,o⟩:=h
 refine ⟨H0,G,ρ,I,OutS.bind I o fun x G1 H1 w e1 m1 o1=>?_⟩
 have I1:=I.ext e1
 exact o1 x G1 H1 (Same.refl _) e1.gh I1.hh I1.gl (m1.start I.hh)
def D6 (d:Mode) (i:Nat):Rho->R Fl:=fun ρ=>match ρ[i]? with
 | some (.own ws)=>.ok (.rt (.lst ws))
 | _=>b8 d i ρ>>=fun w=>.ok (.rt w)
theorem rD {i:Nat} (hd:d=.F\/d=.V) (h:tSt K EX d (D6 d i) D σ H):kE (U3 i) D σ H:=by
 obtain ⟨H0,G,ρ,I,o⟩:=h
 unfold D6 at o
 by_cases ho:∃ ws,ρ[i]?=some (.own ws)
 ·obtain ⟨ws,e⟩:=ho
  rw [e] at o
  have hi:i<σ.length:=by rw [<- I.len]; exact (List.getElem?_eq_some_iff.mp e).1
  have es:σ[i]?=some σ[i]:=by simp
  obtain ⟨a,vs,ev,ha,hg,h0,r⟩:=I.sl i _ _ e es
  refine ⟨.ref a,by rw [es,ev],?_⟩
  rcases hd with rfl | rfl
  ·exact o _ G H (Same.refl _) I.gh I.hh I.gl ⟨a,vs,rfl,ha,hg,h0,r⟩
  ·have s1:Same G (upd G a (.lst vs)):=fun b o q=>by rw [d8 (f7 q hg)]; exact q
   refine o _ (upd G a (.lst vs)) H s1 (fun b o q=>?_) I.hh (fun b u q l=>?_) (.lst i7 (r.same s1))
   ·by_cases hb:b=a
    ·subst hb; rw [i7] at q; cases q; exact ha
    ·rw [d8 hb] at q; exact I.gh b o q
   ·rw [d8 (f7 q h0)]; exact I.gl b u q l
 ·have o':OutS K EX d H0 G (b8 d i ρ>>=fun w=>.ok (.rt w)) D:=by
   revert o
   split
   ·rename_i ws e; exact absurd ⟨ws,e⟩ ho
   ·exact id
  have c:kE (tM K EX d (b8 d i)) D σ H:=sN (m:=b8 d i) ⟨H0,G,ρ,I,o'⟩
  exact ge c
theorem PIv.setV {i:Nat} {v:V} {w:W} (I:PIv K H0 G ρ σ H) (r:Rep K G v w):PIv K H0 G (ρ.set i (.val w)) (σ.set i (some v)) H where
 g0:=I.g0
 gl:=I.gl
 gh:=I.gh
 hh:=I.hh
 len:=by rw [List.length_set,List.length_set]; exact I.len
 sl j x o h1 h2:=by
  by_cases hj:i=j
  ·subst hj
   rw [List.getElem?_set] at h1 h2
   simp only [if_true] at h1 h2
   split at h1 <;> split at h2 <;> simp only [Option.some.injEq,reduceCtorEq] at h1 h2
   subst h1; subst h2
   exact ⟨v,rfl,r⟩
  ·rw [List.getElem?_set_ne hj] at h1 h2; exact I.sl j x o h1 h2
 ne a b ws us c hab h1 h2 h3 h4:=by
  have na:i≠a:=by
   rintro rfl
   rw [List.getElem?_set] at h1
   simp only [if_true] at h1
   split at h1 <;> simp at h1
  have nb:i≠b:=by
   rintro rfl
   rw [List.getElem?_set] at h2
   simp only [if_true] at h2
   split at h2 <;> simp at h2
  rw [List.getElem?_set_ne na] at h1 h3
  rw [List.getElem?_set_ne nb] at h2 h4
  exact I.ne a b ws us c hab h1 h2 h3 h4
theorem PIv.setU {i:Nat} {v:V} {w:W} (I:PIv K H0 G ρ σ H) (r:Rep K (join H0 G) v w):PIv K H0 G (ρ.set i (.par w)) (σ.set i (some v)) H where
 g0:=I.g0
 gl:=I.gl
 gh:=I.gh
 hh:=I.hh
 len:=by rw [List.length_set,List.length_set]; exact I.len
 sl j x o h1 h2:=by
  by_cases hj:i=j
  ·subst hj
   rw [List.getElem?_set] at h1 h2
   simp only [if_true] at h1 h2
   split at h1 <;> split at h2 <;> simp only [Option.some.injEq,reduceCtorEq] at h1 h2
   subst h1; subst h2
   exact ⟨v,rfl,r⟩
  ·rw [List.getElem?_set_ne hj] at h1 h2; exact I.sl j x o h1 h2
 ne a b ws us c hab h1 h2 h3 h4:=by
  have na:i≠a:=by
   rintro rfl
   rw [List.getElem?_set] at h1
   simp only [if_true] at h1
   split at h1 <;> simp at h1
  have nb:i≠b:=by
   rintro rfl
   rw [List.getElem?_set] at h2
   simp only [if_true] at h2
   split at h2 <;> simp at h2
  rw [List.getElem?_set_ne na] at h1 h3
  rw [List.getElem?_set_ne nb] at h2 h4
  exact I.ne a b ws us c hab h1 h2 h3 h4
theorem PIv.setO {i:Nat} {a:Addr} {vs:List V} {ws:List W} (I:PIv K H0 G ρ σ H) (ha:H a=some (.lst vs)) (hg:G a=none) (h0:H0 a=none) (r:Reps K G vs ws)
  (nw:∀ (j:Nat) (us:List W),ρ[j]?=some (Sl.own us)->σ[j]?≠some (some (V.ref a))):PIv K H0 G (ρ.set i (.own ws)) (σ.set i (some (.ref a))) H where
 g0:=I.g0
 gl:=I.gl
 gh:=I.gh
 hh:=I.hh
 len:=by rw [List.length_set,List.length_set]; exact I.len
 sl j x o h1 h2:=by
  by_cases hj:i=j
  ·subst hj
   rw [List.getElem?_set] at h1 h2
   simp only [if_true] at h1 h2
   split at h1 <;> split at h2 <;> simp only [Option.some.injEq,reduceCtorEq] at h1 h2
   subst h1; subst h2
   exact ⟨a,vs,rfl,ha,hg,h0,r⟩
  ·rw [List.getElem?_set_ne hj] at h1 h2; exact I.sl j x o h1 h2
 ne p q ws' us c hab h1 h2 h3 h4:=by
  by_cases hp:i=p
  ·subst hp
   rw [List.getElem?_set_ne hab] at h2 h4
   rw [List.getElem?_set] at h3
   simp only [if_true] at h3
   split at h3 <;> simp only [Option.some.injEq,reduceCtorEq,V.ref.injEq] at h3
   subst h3
   exact nw q us h2 h4
  ·rw [List.getElem?_set_ne hp] at h1 h3
   by_cases hq:i=q
   ·subst hq
    rw [List.getElem?_set] at h4
    simp only [if_true] at h4
    split at h4 <;> simp only [Option.some.injEq,reduceCtorEq,V.ref.injEq] at h4
    subst h4
    exact nw p ws' h1 h3
   ·rw [List.getElem?_set_ne hq] at h2 h4
    exact I.ne p q ws' us c hab h1 h2 h3 h4
def K0:W->Sl
 | .lst ws=>.own ws
 | w=>.val w
theorem AB {i:Nat} {m:Rho->R W} (h:tSt K EX d (fun ρ=>m ρ>>=fun w=>.ok (.nx (ρ.set i (.val w)))) D σ H):U4 (tM K EX .V m) (F4 i) D σ H:=by
 obtain ⟨H0,G,ρ,I,o⟩:=h
 exact ⟨H0,G,ρ,I,OutS.bind I o fun x G1 H1 w e1 m1 o1=>o1 G1 _ H1 (Same.refl _) ((I.ext e1).setV m1)⟩
theorem AC {i:Nat} {m:Rho->R W} (h:tSt K EX d (fun ρ=>m ρ>>=fun w=>.ok (.nx (ρ.set i (.par w)))) D σ H):U4 (tM K EX .U m) (F4 i) D σ H:=by
 obtain ⟨H0,G,ρ,I,o⟩:=h
 exact ⟨H0,G,ρ,I,OutS.bind I o fun x G1 H1 w e1 m1 o1=>o1 G1 _ H1 (Same.refl _) ((I.ext e1).setU m1)⟩
theorem iN {i:Nat} {m:Rho->R W} (h:tSt K EX d (fun ρ=>m ρ>>=fun w=>.ok (.nx (ρ.set i (K0 w)))) D σ H):U4 (tM K EX .F m) (F4 i) D σ H:=by
 obtain ⟨H0,G,ρ,I,o⟩:=h
 refine ⟨H0,G,ρ,I,OutS.bind I o fun x G1 H1 w e1 m1 o1=>?_⟩
 have I1:=I.ext e1
 cases w with
 | lst ws=>
  obtain ⟨a,vs,rfl,h1,h2,h3,r⟩:=m1
  refine o1 G1 _ H1 (Same.refl _) (I1.setO h1 h2 (I.hh.free h3) r fun j us q z=>?_)
  obtain ⟨b,us',eb,hb,_⟩:=I.sl j _ _ q z
  cases eb
  rw [h3] at hb; cases hb
 | non=>exact o1 G1 _ H1 (Same.refl _) (I1.setV m1)
 | bl _=>exact o1 G1 _ H1 (Same.refl _) (I1.setV m1)
 | int _=>exact o1 G1 _ H1 (Same.refl _) (I1.setV m1)
 | str _=>exact o1 G1 _ H1 (Same.refl _) (I1.setV m1)
 | ty _=>exact o1 G1 _ H1 (Same.refl _) (I1.setV m1)
 | tup _=>exact o1 G1 _ H1 (Same.refl _) (I1.setV m1)
 | scr _=>exact o1 G1 _ H1 (Same.refl _) (I1.setV m1)
 | exc _ _=>exact o1 G1 _ H1 (Same.refl _) (I1.setV m1)
 | cls _=>exact o1 G1 _ H1 (Same.refl _) (I1.setV m1)
instance:DecidableEq Mode:=fun a b=>by cases a <;> cases b <;> first | exact isTrue rfl | exact isFalse (by intro h; cases h)
def Gt (K:Frag) (e:Mode) (g:TG) (mg:W->Rho->Option Rho):Prop:=∀ (H0 Hs G:Hp) (ρ:Rho) (σ:St) (H:Hp) (v:V) (w:W) (ρ':Rho) (Q:St->Hp->Prop),PIv K H0 G ρ σ H->Md K H0 Hs G H v w e->mg w ρ=some ρ' ->
 (∀ σ',PIv K H0 G ρ' σ' H->Q σ' H)->g v σ H Q
def Gts (K:Frag) (e:Mode) (g:TGs) (mg:List W->Rho->Option Rho):Prop:=∀ (H0 G:Hp) (ρ:Rho) (σ:St) (H:Hp) (vs:List V) (ws:List W) (ρ':Rho) (Q:St->Hp->Prop),PIv K H0 G ρ σ H->Reps K (if e=.V then G else join H0 G) vs ws->mg ws ρ=some ρ' ->
 (∀ σ',PIv K H0 G ρ' σ' H->Q σ' H)->g vs σ H Q
def gN (e:Mode) (i:Nat):W->Rho->Option Rho:=fun w ρ=>some (ρ.set i (if e=.V then .val w else .par w))
theorem i3 {i:Nat}:Gt K .U (F4 i) (gN .U i):=fun H0 Hs G ρ σ H v w ρ' Q I m e h=>by
 cases e; exact h _ (I.setU m)
def gsNil:List W->Rho->Option Rho
 | [],ρ=>some ρ
 | _,_=>none
def l6 (f:W->Rho->Option Rho) (g:List W->Rho->Option Rho):List W->Rho->Option Rho
 | w::ws,ρ=>(f w ρ).bind (g ws)
 | [],_=>none
theorem z9 {e:Mode}:Gts K e gNil gsNil:=fun H0 G ρ σ H vs ws ρ' Q I r e h=>by
 cases r with
 | nil=>cases e; exact ⟨rfl,h _ I⟩
 | cons _ _=>cases e
theorem j4 {e:Mode} {t:TG} {u:TGs} {f:W->Rho->Option Rho} {g:List W->Rho->Option Rho} (he:e=.V\/e=.U) (h1:Gt K e t f) (h2:Gts K e u g):Gts K e (ld t u) (l6 f g):=fun H0 G ρ σ H vs ws ρ' Q I r q h=>by
 cases r with
 | nil=>cases q
 | cons a b=>
  unfold l6 at q
  obtain ⟨ρ1,q1,q2⟩:=Option.bind_eq_some_iff.mp q
  refine ⟨_,_,rfl,h1 H0 H G ρ σ H _ _ ρ1 _ I ?_ q1 fun σ1 I1=>h2 H0 G ρ1 σ1 H _ _ ρ' Q I1 b q2 h⟩
  rcases he with rfl | rfl
  ·exact a
  ·exact a
def gT (n:Nat) (g:List W->Rho->Option Rho):W->Rho->Option Rho
 | .tup ws,ρ=>if ws.length=n then g ws ρ else none
 | _,_=>none
theorem C0 {e:Mode} {n:Nat} {u:TGs} {g:List W->Rho->Option Rho} (he:e=.V\/e=.U) (h:Gts K e u g):Gt K e (kZ K n u) (gT n g):=fun H0 Hs G ρ σ H v w ρ' Q I m q k=>by
 cases w <;> first | cases q | skip
 rename_i ws
 have q':(if ws.length=n then g ws ρ else none)=some ρ':=q
 by_cases hn:ws.length=n
 ·rw [if_pos hn] at q'
  rcases he with rfl | rfl
  ·obtain ⟨a,vs,e,s,r⟩:=Rep.inv m
   exact ⟨a,vs,e,SqT.of (I.gh _ _ s),by rw [r.length]; exact hn,h H0 G ρ σ H _ ws ρ' Q I (by rw [if_pos rfl]; exact r) q' k⟩
  ·obtain ⟨a,vs,e,s,r⟩:=Rep.inv m
   exact ⟨a,vs,e,SqT.of (I.join_H _ _ s),by rw [r.length]; exact hn,h H0 G ρ σ H _ ws ρ' Q I (by rw [if_neg (by intro z; cases z)]; exact r) q' k⟩
 ·rw [if_neg hn] at q'; cases q'
def toR {α:Type}:Option α->R α
 | some a=>.ok a
 | none=>.stuck
theorem Co {e:Mode} {g:TG} {mg:W->Rho->Option Rho} {m:Rho->R W} (hg:Gt K e g mg) (h:tSt K EX d (fun ρ=>m ρ>>=fun w=>toR (mg w ρ)>>=fun ρ'=>.ok (.nx ρ')) D σ H):U4 (tM K EX e m) g D σ H:=by
 obtain ⟨H0,G,ρ,I,o⟩:=h
 refine ⟨H0,G,ρ,I,OutS.bind I o fun x G1 H1 w e1 m1 o1=>?_⟩
 cases q:mg w ρ with
 | none=>rw [q] at o1; exact o1.elim
 | some ρ'=>
  rw [q] at o1
  exact hg H0 H G1 ρ σ H1 x w ρ' _ (I.ext e1) m1 q fun σ' I'=>o1 G1 σ' H1 (Same.refl _) I'
theorem PIv.own_upd {i:Nat} {a:Addr} {vs':List V} {ws ws':List W} (I:PIv K H0 G ρ σ H) (e:ρ[i]?=some (.own ws)) (es:σ[i]?=some (some (.ref a))) (r:Reps K G vs' ws'):PIv K H0 G (ρ.set i (.own ws')) σ (upd H a (.lst vs')):=by
 obtain ⟨a',vs,ev,ha,hg,h0,_⟩:=I.sl i _ _ e es
 cases ev
 refine ⟨I.g0,I.gl,fun b o q=>by rw [d8 (f7 q hg)]; exact I.gh b o q,fun b o q=>by rw [d8 (f7 q h0)]; exact I.hh b o q,by rw [List.length_set]; exact I.len,fun j x o h1 h2=>?_,fun p q ws1 us c hab h1 h2 h3 h4=>?_⟩
 ·by_cases hj:i=j
  ·subst hj
   rw [List.getElem?_set] at h1
   simp only [if_true] at h1
   split at h1 <;> simp only [Option.some.injEq,reduceCtorEq] at h1
   subst h1
   rw [es] at h2; cases h2
   exact ⟨a,vs',rfl,i7,hg,h0,r⟩
  ·rw [List.getElem?_set_ne hj] at h1
   have:=I.sl j x o h1 h2
   cases x with
   | own us=>
    obtain ⟨b,us',eb,hb,hgb,h0b,rb⟩:=this
    subst eb
    have hne:b≠a:=by
     rintro rfl
     exact I.ne i j ws us b hj e h1 es h2
    exact ⟨b,us',rfl,by rw [d8 hne]; exact hb,hgb,h0b,rb⟩
   | dic ks=>
    obtain ⟨b,us',eb,hb,hgb,h0b,rb⟩:=this
    have hne:b≠a:=by
     rintro rfl
     rw [ha] at hb; cases hb
    exact ⟨b,us',eb,by rw [d8 hne]; exact hb,hgb,h0b,rb⟩
   | dik ks=>
    obtain ⟨b,us',eb,hb,hgb,h0b,rb⟩:=this
    have hne:b≠a:=by
     rintro rfl
     rw [ha] at hb; cases hb
    exact ⟨b,us',eb,by rw [d8 hne]; exact hb,hgb,h0b,rb⟩
   | un=>exact this
   | val _=>exact this
   | par _=>exact this
   | iop _ _=>exact this
   | hz _=>exact this
 ·have key:∀ {k:Nat} {us:List W},(ρ.set i (.own ws'))[k]?=some (.own us)->∃ us',ρ[k]?=some (.own us'):=fun {k us} hk=>by
   by_cases hik:i=k
   ·subst hik; exact ⟨ws,e⟩
   ·rw [List.getElem?_set_ne hik] at hk; exact ⟨us,hk⟩
  obtain ⟨w1,k1⟩:=key h1
  obtain ⟨w2,k2⟩:=key h2
  exact I.ne p q w1 w2 c hab k1 k2 h3 h4
theorem PIv.own_at {i:Nat} {ws:List W} (I:PIv K H0 G ρ σ H) (e:ρ[i]?=some (.own ws)):∃ a vs,σ[i]?=some (some (.ref a))/\H a=some (.lst vs)/\G a=none/\H0 a=none/\Reps K G vs ws:=by
 have hi:i<σ.length:=by rw [<- I.len]; exact (List.getElem?_eq_some_iff.mp e).1
 have es:σ[i]?=some σ[i]:=by simp
 obtain ⟨a,vs,ev,r⟩:=I.sl i _ _ e es
 exact ⟨a,vs,by rw [es,ev],r⟩
def R0 (i:Nat) (m:Rho->R W):Rho->R Fl:=fun ρ=>match ρ[i]? with
 | some (.own ws)=>m ρ>>=fun w=>if ws.length<1000 then .ok (.nx (ρ.set i (.own (ws ++ [w])))) else .stuck
 | _=>.stuck
theorem Cp {i:Nat} {m:Rho->R W} (h:tSt K EX d (R0 i m) D σ H):rS (wK (U3 i) (tM K EX .V m)) D σ H:=by
 obtain ⟨H0,G,ρ,I,o⟩:=h
 unfold R0 at o
 split at o
 ·rename_i ws e
  obtain ⟨a,vs,es,ha,hg,h0,r⟩:=I.own_at e
  refine ⟨.ref a,es,a,rfl,⟨vs,ha⟩,H0,G,ρ,I,OutS.bind I o fun x G1 H1 w e1 m1 o1=>?_⟩
  by_cases hl:ws.length<1000
  ·rw [if_pos hl] at o1
   have h1:=e1.hh a _ ha
   dsimp only
   rw [h1]
   dsimp only
   have hlen:vs.length=ws.length:=r.length
   exact ⟨Nat.lt_of_lt_of_le (by omega:vs.length<1000) (by decide),o1 G1 σ _ (Same.refl _) ((I.ext e1).own_upd e es ((r.same e1.gg).snoc m1))⟩
  ·rw [if_neg hl] at o1; exact o1.elim
 ·exact o.elim
def Z0 (i:Nat) (mk me:Rho->R W):Rho->R Fl:=fun ρ=>match ρ[i]? with
 | some (.own ws)=>me ρ>>=fun w=>mk ρ>>=fun k=>(match k with
  | .int k=>(match ixN ws.length k with
   | some j=>.ok (.nx (ρ.set i (.own (ws.set j w))))
   | none=>.stuck)
  | _=>.stuck)
 | _=>.stuck
theorem Cd {i:Nat} {mk me:Rho->R W} (h:tSt K EX d (Z0 i mk me) D σ H):U4 (tM K EX .V me) (gSub (U3 i) (tM K EX .B mk) rSetL) D σ H:=by
 obtain ⟨H0,G,ρ,I,o⟩:=h
 unfold Z0 at o
 split at o
 ·rename_i ws e
  obtain ⟨a,vs,es,ha,hg,h0,r⟩:=I.own_at e
  refine ⟨H0,G,ρ,I,OutS.bind I o fun x G1 H1 w e1 m1 o1=>⟨.ref a,es,H0,G1,ρ,I.ext e1,OutS.bind (I.ext e1) o1 fun y G2 H2 k e2 m2 o2=>?_⟩⟩
  cases k <;> first | exact o2.elim | skip
  rename_i k
  dsimp only at o2
  cases q:ixN ws.length k with
  | none=>rw [q] at o2; exact o2.elim
  | some j=>
   rw [q] at o2
   refine ⟨a,vs,k,j,rfl,m2.intB,e2.hh _ _ (e1.hh _ _ ha),by rw [r.length]; exact q,?_⟩
   exact o2 G2 σ _ (Same.refl _) (((I.ext e1).ext e2).own_upd e es (Reps.set (Rep.same e2.gg m1) j ((r.same e1.gg).same e2.gg)))
 ·exact o.elim
def io (i:Nat) (f:Int->Int->Int) (m:Rho->R W):Rho->R Fl:=fun ρ=>b8 .B i ρ>>=fun x=>m ρ>>=fun y=>match x,y with
 | .int a,.int b=>.ok (.nx (ρ.set i (.val (.int (f a b)))))
 | _,_=>.stuck
theorem Cn {i:Nat} {f:Int->Int->Int} {m:Rho->R W} (h:tSt K EX d (io i f m) D σ H):wJ i (tM K EX .B m) (ipI f) D σ H:=by
 obtain ⟨H0,G,ρ,I,o⟩:=h
 unfold io at o
 have c:tM K EX .B (b8 .B i) σ H (fun x H1=>∃ G1 w,Ext G H G1 H1/\Md K H0 H G1 H1 x w .B/\OutS K EX d H0 G1 (m ρ>>=fun y=>match w,y with
   | .int a,.int b=>.ok (.nx (ρ.set i (.val (.int (f a b)))))
   | _,_=>.stuck) D):=⟨H0,G,ρ,I,OutS.bind I o fun x G1 H1 w e1 m1 o1=>⟨G1,w,e1,m1,o1⟩⟩
 obtain ⟨v,es,G1,w,e1,m1,o1⟩:=ge c
 have I1:=I.ext e1
 refine ⟨v,es,H0,G1,ρ,I1,OutS.bind I1 o1 fun y G2 H2 u e2 m2 o2=>?_⟩
 cases w <;> first | exact o2.elim | skip
 cases u <;> first | exact o2.elim | skip
 rename_i a b
 exact ⟨a,b,m1.intB,m2.intB,o2 G2 _ H2 (Same.refl _) ((I1.ext e2).setV .int)⟩
def mIf (c:Rho->R Bool) (m n:Rho->R Fl):Rho->R Fl:=fun ρ=>c ρ>>=fun b=>if b then m ρ else n ρ
theorem Ci {c:Rho->R Bool} {m n:Rho->R Fl} (h:tSt K EX d (mIf c m n) D σ H):wF (tT K EX c) (tSt K EX d m) (tSt K EX d n) D σ H:=by
 obtain ⟨H0,G,ρ,I,o⟩:=h
 refine ⟨H0,G,ρ,I,OutS.bind I o fun x G1 H1 w e1 m1 o1=>?_⟩
 cases m1
 cases x with
 | true=>exact ⟨H0,G1,ρ,I.ext e1,o1⟩
 | false=>exact ⟨H0,G1,ρ,I.ext e1,o1⟩
def frz (i:Nat) (ρ:Rho):Rho:=match ρ[i]? with
 | some (.own ws)=>ρ.set i (.val (.lst ws))
 | _=>ρ
theorem PIv.frz {i:Nat} (I:PIv K H0 G ρ σ H):∃ G',Same G G'/\PIv K H0 G' (frz i ρ) σ H:=by
 unfold TP.frz
 split
 ·rename_i ws e
  obtain ⟨a,vs,es,ha,hg,h0,r⟩:=I.own_at e
  have s1:Same G (upd G a (.lst vs)):=fun b o q=>by rw [d8 (f7 q hg)]; exact q
  refine ⟨upd G a (.lst vs),s1,?_⟩
  have I1:PIv K H0 G (ρ.set i .un) σ H:=by
   refine ⟨I.g0,I.gl,I.gh,I.hh,by rw [List.length_set]; exact I.len,fun j x o h1 h2=>?_,fun p q ws1 us c hab h1 h2 h3 h4=>?_⟩
   ·by_cases hj:i=j
    ·subst hj
     rw [List.getElem?_set] at h1
     simp only [if_true] at h1
     split at h1 <;> simp only [Option.some.injEq,reduceCtorEq] at h1
     subst h1; trivial
    ·rw [List.getElem?_set_ne hj] at h1; exact I.sl j x o h1 h2
   ·have na:i≠p:=by
     rintro rfl
     rw [List.getElem?_set] at h1
     simp only [if_true] at h1
     split at h1 <;> simp at h1
    have nb:i≠q:=by
     rintro rfl
     rw [List.getElem?_set] at h2
     simp only [if_true] at h2
     split at h2 <;> simp at h2
    rw [List.getElem?_set_ne na] at h1
    rw [List.getElem?_set_ne nb] at h2
    exact I.ne p q ws1 us c hab h1 h2 h3 h4
  have I2:PIv K H0 (upd G a (.lst vs)) (ρ.set i .un) σ H:=by
   refine ⟨fun b o q l=>s1 b o (I.g0 b o q l),fun b o q l=>by rw [d8 (f7 q h0)]; exact I.gl b o q l,fun b o q=>?_,I.hh,I1.len,fun j x o h1 h2=>?_,I1.ne⟩
   ·by_cases hb:b=a
    ·subst hb; rw [i7] at q; cases q; exact ha
    ·rw [d8 hb] at q; exact I.gh b o q
   ·have:=I1.sl j x o h1 h2
    cases x with
    | un=>trivial
    | val w=>obtain ⟨v,e1,r1⟩:=this; exact ⟨v,e1,r1.same s1⟩
    | par w=>obtain ⟨v,e1,r1⟩:=this; exact ⟨v,e1,r1.same (w9 s1)⟩
    | own us=>
     obtain ⟨b,us',eb,hb,hgb,h0b,rb⟩:=this
     subst eb
     have hij:i≠j:=by
      rintro rfl
      rw [List.getElem?_set] at h1
      simp only [if_true] at h1
      split at h1 <;> simp at h1
     rw [List.getElem?_set_ne hij] at h1
     have hne:b≠a:=by
      rintro rfl
      exact I.ne i j ws us b hij e h1 es h2
     exact ⟨b,us',rfl,hb,by rw [d8 hne]; exact hgb,h0b,rb.same s1⟩
    | dic ks=>
     obtain ⟨b,us',eb,hb,hgb,h0b,rb⟩:=this
     have hne:b≠a:=by
      rintro rfl
      rw [ha] at hb; cases hb
     exact ⟨b,us',eb,hb,by rw [d8 hne]; exact hgb,h0b,rb⟩
    | dik ks=>
     obtain ⟨b,us',eb,hb,hgb,h0b,rb⟩:=this
     have hne:b≠a:=by
      rintro rfl
      rw [ha] at hb; cases hb
     exact ⟨b,us',eb,hb,by rw [d8 hne]; exact hgb,h0b,rb⟩
    | iop p us=>obtain ⟨e1,vs1,h1',r1⟩:=this; exact ⟨e1,vs1,h1',r1.same s1⟩
    | hz w=>obtain ⟨v,e,r⟩:=this; exact ⟨v,e,r.same (w9 (aX s1))⟩
  have I3:=I2.setV (i:=i) (v:=.ref a) (w:=.lst ws) (.lst i7 (r.same s1))
  have e3:σ.set i (some (V.ref a))=σ:=by
   apply List.ext_getElem?
   intro j
   by_cases hj:i=j
   ·subst hj; rw [es,List.getElem?_set]; simp only [if_true]; rw [if_pos (List.getElem?_eq_some_iff.mp es).1]
   ·rw [List.getElem?_set_ne hj]
  rw [e3,List.set_set] at I3
  exact I3
 ·exact ⟨G,Same.refl G,I⟩
theorem Ck {i:Nat} {m:Rho->R Fl} (h:tSt K EX d (fun ρ=>m (frz i ρ)) D σ H):tSt K EX d m D σ H:=by
 obtain ⟨H0,G,ρ,I,o⟩:=h
 obtain ⟨G',s,I'⟩:=I.frz (i:=i)
 exact ⟨H0,G',_,I',OutS.move s o⟩
end
end TP
namespace TP
open PySem L2
section
variable {K:Frag} {EX:EXT} {H0 G H G1 H1 G2 H2:Hp} {ρ:Rho} {σ:St} {d:Mode} {D:Ends}
structure bH (K:Frag) (e:Mode) (H0 Z G:Hp) (J:It) (ws:List W):Prop where
 go:∀ i H,i<ws.length->Same Z H->J.go i H
 stop:∀ H,Same Z H->J.stop ws.length H
 yld:∀ i H x H' w,ws[i]?=some w->Same Z H->J.yld i H x H'->∀ G2 ρ σ,PIv K H0 G2 ρ σ H->Same G G2->∃ G3,Ext G2 H G3 H'/\Md K H0 H G3 H' x w e
def jd (K:Frag) (EX:EXT) (lp:Bool) (e:Mode) (H0 G H:Hp) (r:R (List W)) (Rr:It->Hp->Prop):Prop:=match r with
 | .ok ws=>∀ J G' H',Ext G H G' H'->bH K e H0 (if lp then join H0 G' else H') G' J ws->Rr J H'
 | .ex x=>∀ H',Same H H'->EX x H'
 | .stuck=>False
def tIt (K:Frag) (EX:EXT) (lp:Bool) (e:Mode) (m:Rho->R (List W)):TI:=fun σ H Rr=>∃ H0 G ρ,PIv K H0 G ρ σ H/\jd K EX lp e H0 G H (m ρ) Rr
def B7 (mg:W->Rho->Option Rho) (mb:Rho->R Fl):List W->Rho->R Fl
 | [],ρ=>.ok (.nx ρ)
 | w::ws,ρ=>toR (mg w ρ)>>=fun ρ1=>mb ρ1>>=fun f=>match f with
  | .nx ρ2=>B7 mg mb ws ρ2
  | .ct ρ2=>B7 mg mb ws ρ2
  | .bk ρ2=>.ok (.nx ρ2)
  | .rt w=>.ok (.rt w)
theorem Cl {e:Mode} {g:TG} {mg:W->Rho->Option Rho} {mi:Rho->R (List W)} {mb:Rho->R Fl} (hg:Gt K e g mg) (h:tSt K EX d (fun ρ=>mi ρ>>=fun ws=>B7 mg mb ws ρ) D σ H) :
  wG (tIt K EX true e mi) g (tSt K EX d mb) D σ H:=by
 obtain ⟨H0,G,ρ,I,o⟩:=h
 refine ⟨H0,G,ρ,I,?_⟩
 replace o:OutS K EX d H0 G (mi ρ>>=fun ws=>B7 mg mb ws ρ) D:=o
 revert o
 cases mi ρ with
 | stuck=>exact id
 | ex x=>exact fun o H' s=>o H' (I.hh.trans s)
 | ok ws=>
  intro o J G1 H1 e1 T
  have o1:OutS K EX d H0 G1 (B7 mg mb ws ρ) D:=OutS.move e1.gg o
  refine ⟨fun i m σ H=>m=ws.length-i/\i<=ws.length/\∃ G2 ρ2,Same G1 G2/\PIv K H0 G2 ρ2 σ H/\OutS K EX d H0 G2 (B7 mg mb (ws.drop i) ρ2) D,⟨_,rfl,Nat.zero_le _,G1,ρ,Same.refl _,I.ext e1,o1⟩,?_⟩
  rintro i m σ2 Hh ⟨rfl,hi,G2,ρ2,s2,I2,o2⟩
  have hz:Same (join H0 G1) Hh:=(w9 s2).trans I2.join_H
  by_cases hlt:i<ws.length
  ·refine .inr ⟨T.go i Hh hlt hz,fun σ' H'=>∃ G4 ρ4,Same G1 G4/\PIv K H0 G4 ρ4 σ' H'/\OutS K EX d H0 G4 (B7 mg mb (ws.drop (i+1)) ρ4) D,fun σ' H' zz81=>by obtain ⟨G4,ρ4,s4,I4,o4⟩:=zz81; exact ⟨ws.length-(i+1),by omega,rfl,hlt,G4,ρ4,s4,I4,o4⟩,fun x H' y=>?_⟩
   obtain ⟨G3,e3,m3⟩:=T.yld i Hh x H' ws[i] (by simp) hz y G2 ρ2 σ2 I2 s2
   rw [List.drop_eq_getElem_cons hlt] at o2
   unfold B7 at o2
   cases q:mg ws[i] ρ2 with
   | none=>rw [q] at o2; exact o2.elim
   | some ρ'=>
    rw [q] at o2
    refine hg H0 Hh G3 ρ2 σ2 H' x _ ρ' _ (I2.ext e3) m3 q fun σ' I'=>⟨H0,G3,ρ',I',?_⟩
    have o3:OutS K EX d H0 G3 (mb ρ'>>=fun f=>match f with
     | .nx ρ2=>B7 mg mb (ws.drop (i+1)) ρ2
     | .ct ρ2=>B7 mg mb (ws.drop (i+1)) ρ2
     | .bk ρ2=>.ok (.nx ρ2)
     | .rt w=>.ok (.rt w)) D:=OutS.move e3.gg o2
    revert o3
    have s3:Same G1 G3:=s2.trans e3.gg
    cases mb ρ' with
    | stuck=>exact id
    | ex x=>exact id
    | ok f=>
     cases f with
     | nx ρ4=>exact fun o4 G4 σ4 H4 s4 I4=>⟨G4,ρ4,s3.trans s4,I4,OutS.move s4 o4⟩
     | ct ρ4=>exact fun o4 G4 σ4 H4 s4 I4=>⟨G4,ρ4,s3.trans s4,I4,OutS.move s4 o4⟩
     | bk ρ4=>exact id
     | rt w=>exact id
  ·have e:i=ws.length:=by omega
   subst e
   refine .inl ⟨T.stop Hh hz,?_⟩
   rw [List.drop_length] at o2
   exact o2 G2 σ2 Hh (Same.refl _) I2
def E1 (c:Rho->R Bool) (b:Rho->R Fl):Nat->Rho->Option (R Fl)
 | 0,_=>none
 | n+1,ρ=>match c ρ with
  | .ok false=>some (.ok (.nx ρ))
  | .ok true=>(match b ρ with
   | .ok (.nx ρ')=>E1 c b n ρ'
   | .ok (.ct ρ')=>E1 c b n ρ'
   | .ok (.bk ρ')=>some (.ok (.nx ρ'))
   | .ok (.rt w)=>some (.ok (.rt w))
   | .ex e=>some (.ex e)
   | .stuck=>some .stuck)
  | .ex e=>some (.ex e)
  | .stuck=>some .stuck
theorem Z3 {c:Rho->R Bool} {b:Rho->R Fl}:∀ (n:Nat) (ρ:Rho) (r:R Fl),E1 c b n ρ=some r->∀ m,n<=m->E1 c b m ρ=some r:=by
 intro n
 induction n with
 | zero=>intro ρ r h; cases h
 | succ n ih=>
  intro ρ r h m hm
  obtain ⟨k,rfl⟩:∃ k,m=k+1:=⟨m-1,by omega⟩
  have hk:=Nat.le_of_succ_le_succ hm
  unfold E1 at h ⊢
  revert h
  cases c ρ with
  | ex e=>exact id
  | stuck=>exact id
  | ok t=>
   cases t with
   | false=>exact id
   | true=>
    cases b ρ with
    | ex e=>exact id
    | stuck=>exact id
    | ok f=>
     cases f with
     | nx ρ'=>exact fun h=>ih ρ' r h k hk
     | ct ρ'=>exact fun h=>ih ρ' r h k hk
     | bk ρ'=>exact id
     | rt w=>exact id
open Classical in
def G0 (c:Rho->R Bool) (b:Rho->R Fl):Rho->R Fl:=fun ρ=>if h:∃ r n,E1 c b n ρ=some r then h.choose else .stuck
theorem fG {c:Rho->R Bool} {b:Rho->R Fl} {n:Nat} {r:R Fl} (h:E1 c b n ρ=some r):G0 c b ρ=r:=by
 unfold G0
 have hx:∃ r n,E1 c b n ρ=some r:=⟨r,n,h⟩
 rw [dif_pos hx]
 obtain ⟨m,hm⟩:=hx.choose_spec
 have a:=Z3 n ρ r h (max n m) (Nat.le_max_left _ _)
 have b:=Z3 m ρ _ hm (max n m) (Nat.le_max_right _ _)
 rw [a] at b
 exact (Option.some.inj b).symm
theorem vQ {c:Rho->R Bool} {b:Rho->R Fl} (h:tSt K EX d (G0 c b) D σ H):lU (tT K EX c) (tSt K EX d b) D σ H:=by
 obtain ⟨H0,G,ρ,I,o⟩:=h
 by_cases hx:∃ r n,E1 c b n ρ=some r
 ·obtain ⟨r,n,hn⟩:=hx
  rw [fG hn] at o
  refine ⟨fun m σ2 Hh=>∃ G2 ρ2,Same G G2/\PIv K H0 G2 ρ2 σ2 Hh/\E1 c b m ρ2=some r,⟨n,G,ρ,Same.refl _,I,hn⟩,?_⟩
  rintro m σ2 Hh ⟨G2,ρ2,s2,I2,h2⟩
  have o2:OutS K EX d H0 G2 r D:=OutS.move s2 o
  refine ⟨H0,G2,ρ2,I2,?_⟩
  cases m with
  | zero=>cases h2
  | succ m=>
   unfold E1 at h2
   revert h2
   cases c ρ2 with
   | stuck=>intro h2; cases h2; exact o2
   | ex x=>intro h2; cases h2; exact fun H' s=>o2 H' (I2.hh.trans s)
   | ok t=>
    cases t with
    | false=>
     intro h2; cases h2
     intro v G3 H3 e3 q
     cases q
     rw [if_neg Bool.false_ne_true]
     exact o2 G3 σ2 H3 e3.gg (I2.ext e3)
    | true=>
     intro h2 v G3 H3 e3 q
     cases q
     rw [if_pos rfl]
     refine ⟨fun σ' H'=>∃ G4 ρ4,Same G G4/\PIv K H0 G4 ρ4 σ' H'/\E1 c b m ρ4=some r,fun σ' H' zz82=>by obtain ⟨G4,ρ4,s4,I4,h4⟩:=zz82; exact ⟨m,Nat.lt_succ_self m,G4,ρ4,s4,I4,h4⟩,H0,G3,ρ2,I2.ext e3,?_⟩
     have o3:OutS K EX d H0 G3 r D:=OutS.move e3.gg o2
     have s3:Same G G3:=s2.trans e3.gg
     revert h2
     cases b ρ2 with
     | stuck=>intro h2; cases h2; exact o3
     | ex x=>intro h2; cases h2; exact o3
     | ok f=>
      cases f with
      | nx ρ4=>exact fun h2 G4 σ4 H4 s4 I4=>⟨G4,ρ4,s3.trans s4,I4,h2⟩
      | ct ρ4=>exact fun h2 G4 σ4 H4 s4 I4=>⟨G4,ρ4,s3.trans s4,I4,h2⟩
      | bk ρ4=>intro h2; cases h2; exact o3
      | rt w=>intro h2; cases h2; exact o3
 ·unfold G0 at o
  rw [dif_neg hx] at o
  exact o.elim
theorem Md.whole {v:V} {w:W} {Hs:Hp} (I:PIv K H0 G ρ σ H) (h:Md K H0 Hs G H v w .B):Rep K H v w:=by
 rcases h with h | ⟨a,vs,ws,rfl,rfl,h1,r⟩
 ·exact h.same I.join_H
 ·exact .lst h1 (r.same I.gh)
theorem MdA.whole {Hs:Hp} (I:PIv K H0 G ρ σ H) {ws:List W} {vs:List V} (h:MdA K .B H0 Hs G H ws vs):Reps K H vs ws:=
 @MdA.rec K .B H0 Hs G H (fun ws vs _=>Reps K H vs ws) .nil (fun h _ b=>.cons (h.whole I) b) ws vs h
def XE (_:XK):EXT:=fun _ _=>False
def spM (K:Frag) (n:Nat) (d:Mode) (f:List W->R W):Sp:=fun vs H Q E=>vs.length=n/\∃ ws,Reps K H vs ws/\match f ws with
 | .ok w=>∀ v G' H',Same H H'->Same G' H'->(∀ a o,H a=some o->isL o=true->G' a=none)->Md K H H G' H' v w d->Q v H'
 | .ex e=>∀ H',Same H H'->XE E e H'
 | .stuck=>False
def i9 (n N:Nat) (m:Rho->R Fl) (ws:List W):R W:=if ws.length=n then (m (ws.map Sl.par++List.replicate (N-n) Sl.un)>>=fun f=>match f with
 | .rt w=>.ok w
 | .nx _=>.ok .non
 | _=>.stuck) else .stuck
theorem pB {n N:Nat} {m:Rho->R Fl} (ws:List W) (h:i9 n N m ws≠.stuck):ws.length=n:=by
 unfold i9 at h
 by_cases e:ws.length=n
 ·exact e
 ·rw [if_neg e] at h; exact absurd rfl h
def both (G G':Hp):Hp:=fun b=>match G b with
 | some o=>some o
 | none=>G' b
theorem AO {n:Nat} {f:List W->R W} {E:XK} {ma:Rho->R (List W)} {Q:VK} (hd:d=.F\/d=.V) (hf:∀ ws,f ws≠.stuck->ws.length=n) (hE:∀ e H,EX e H->XE E e H) (h:tM K EX d (fun ρ=>ma ρ>>=fun ws=>f ws) σ H Q) :
  rV (spM K n d f) [] E (tA K EX .B ma) σ H Q:=by
 obtain ⟨H0,G,ρ,I,o⟩:=h
 refine ⟨H0,G,ρ,I,Out.bind o fun xs G1 H1 ws e1 m1 o1=>?_⟩
 have I1:=I.ext e1
 have r:=MdA.whole I1 m1
 rw [List.append_nil]
 refine ⟨?_,ws,r,?_⟩
 ·rw [r.length]
  refine hf ws fun z=>?_
  rw [z] at o1; exact o1
 ·revert o1
  cases f ws with
  | stuck=>exact id
  | ex e=>exact fun o1 H' s=>hE e H' (o1 H' s)
  | ok w=>
   intro o1 v G' H' sH gH cl md
   have sB:Same G1 (both G1 G'):=fun b o q=>by unfold both; rw [q]
   have sB':Same G' (both G1 G'):=fun b o q=>by
    unfold both
    cases q1:G1 b with
    | none=>exact q
    | some u=>
     have a1:=sH b u (I1.gh b u q1)
     rw [gH b o q] at a1
     exact a1.symm
   have sHB:Same (both G1 G') H':=fun b o q=>by
    unfold both at q
    cases q1:G1 b with
    | none=>rw [q1] at q; exact gH b o q
    | some u=>rw [q1] at q; cases q; exact sH b _ (I1.gh b _ q1)
   have ex:Ext G1 H1 (both G1 G') H':=⟨sB,sH,sHB,fun b o q l g=>by unfold both; rw [g]; exact cl b o q l⟩
   refine o1 v (both G1 G') H' ex ?_
   rcases hd with rfl | rfl
   ·cases w with
    | lst us=>
     obtain ⟨a,vs,rfl,h1,h2,h3,r3⟩:=md
     exact ⟨a,vs,rfl,h1,by unfold both; rw [I1.gh.free h3]; exact h2,e1.hh.free h3,r3.same sB'⟩
    | non=>exact Rep.same sB' md
    | bl _=>exact Rep.same sB' md
    | int _=>exact Rep.same sB' md
    | str _=>exact Rep.same sB' md
    | ty _=>exact Rep.same sB' md
    | tup _=>exact Rep.same sB' md
    | scr _=>exact Rep.same sB' md
    | exc _ _=>exact Rep.same sB' md
    | cls _=>exact Rep.same sB' md
   ·exact Rep.same sB' md
def cP (H:Hp):Hp:=fun a=>match H a with
 | some o=>if isL o then none else some o
 | none=>none
theorem nJ:join H (cP H)=H:=by
 funext a
 unfold join cP
 cases q:H a with
 | none=>rfl
 | some o=>
  dsimp only
  cases isL o <;> rfl
theorem Reps.slots {vs:List V} {ws:List W} {i:Nat} {x:Sl} {o:Option V} {k k':Nat} (r:Reps K H vs ws):(ws.map Sl.par++List.replicate k Sl.un)[i]?=some x->(vs.map some++List.replicate k' none)[i]?=some o->x=.un\/∃ v w,x=.par w/\o=some v/\Rep K H v w:=
 Reps.ind (P:=fun vs ws=>∀ i,(ws.map Sl.par++List.replicate k Sl.un)[i]?=some x->(vs.map some++List.replicate k' none)[i]?=some o->x=.un\/∃ v w,x=.par w/\o=some v/\Rep K H v w) (fun i h1 h2=>by
  have h1:(List.replicate k Sl.un)[i]?=some x:=h1
  rw [List.getElem?_replicate] at h1
  by_cases hk:i<k
  ·rw [if_pos hk] at h1; exact .inl (Option.some.inj h1).symm
  ·rw [if_neg hk] at h1; cases h1) (fun r _ b i h1 h2=>by
  cases i with
  | zero=>exact .inr ⟨_,_,(Option.some.inj h1).symm,(Option.some.inj h2).symm,r⟩
  | succ i=>exact b i h1 h2) r i
theorem PIv.begin {vs:List V} {ws:List W} {k k':Nat} (r:Reps K H vs ws) (hk:k=k'):PIv K H (cP H) (ws.map Sl.par++List.replicate k Sl.un) (vs.map some++List.replicate k' none) H where
 g0 a o e l:=by unfold cP; rw [e]; dsimp only; rw [l]; rfl
 gl a o e l:=by unfold cP; rw [e]; dsimp only; rw [l]; rfl
 gh a o e:=by
  unfold cP at e
  cases q:H a with
  | none=>rw [q] at e; cases e
  | some u=>
   rw [q] at e
   dsimp only at e
   cases hl:isL u
   ·rw [hl] at e; exact e
   ·rw [hl] at e; cases e
 hh:=Same.refl H
 len:=by subst hk; simp [r.length]
 sl i x o h1 h2:=by
  rcases Reps.slots r h1 h2 with rfl | ⟨v,w,rfl,rfl,q⟩
  ·trivial
  ·exact ⟨v,rfl,by rw [nJ]; exact q⟩
 ne i j us xs a hij h1 _ _ _:=by
  have:∀ (i:Nat) (us:List W),(ws.map Sl.par++List.replicate k Sl.un)[i]?≠some (Sl.own us):=fun i us q=>by
   rw [List.getElem?_append] at q
   split at q
   ·rw [List.getElem?_map] at q
    cases hh:ws[i]? <;> rw [hh] at q <;> cases q
   ·rw [List.getElem?_replicate] at q
    split at q <;> cases q
  exact absurd h1 (this i us)
theorem oD {n:Nat} {Nl:List Str} {m:Rho->R Fl} {vs:List V} {Q:VK} {E:XK} (hd:d=.F\/d=.V) (h:spM K n d (i9 n Nl.length m) vs H Q E):tSt K (fun _ _=>False) d m { nx:=fun _ H'=>Q .non H',rt:=Q } (L2.start Nl vs) H:=by
 obtain ⟨hl,ws,r,o⟩:=h
 have hw:ws.length=n:=by rw [<- r.length]; exact hl
 unfold i9 at o
 rw [if_pos hw] at o
 refine ⟨H,cP H,_,PIv.begin (k:=Nl.length-n) r (by rw [hl]),?_⟩
 revert o
 cases m (ws.map Sl.par++List.replicate (Nl.length-n) Sl.un) with
 | stuck=>exact id
 | ex e=>exact fun o=>(o H (Same.refl H)).elim
 | ok f=>
  cases f with
  | nx ρ'=>exact fun o G' σ' H' s' I'=>o .non G' H' I'.hh I'.gh I'.gl (Md.sca rfl (fun _=>.non) d)
  | rt w=>exact fun o v G' H' _ s1 s2 c md=>o v G' H' s2 s1 c md
  | bk _=>exact fun o=>o.elim
  | ct _=>exact fun o=>o.elim
end
end TP
namespace TP
open PySem L2
section
variable {K:Frag} {EX:EXT} {H0 G H G1 H1 G2 H2:Hp} {ρ:Rho} {σ:St} {d:Mode} {D:Ends}
def elR (mg:W->Rho->Option Rho) (mc:Rho->R Bool) (me:Rho->R W) (ρ:Rho) (w:W):R (Option W):=match mg w ρ with
 | none=>.stuck
 | some ρ1=>(match mc ρ1 with
  | .ok true=>(match me ρ1 with
   | .ok y=>.ok (some y)
   | _=>.stuck)
  | .ok false=>.ok none
  | _=>.stuck)
def mapR (f:W->R (Option W)):List W->R (List W)
 | []=>.ok []
 | w::ws=>match f w,mapR f ws with
  | .ok (some y),.ok ys=>.ok (y::ys)
  | .ok none,.ok ys=>.ok ys
  | _,_=>.stuck
def j8 (N':Nat) (mg:W->Rho->Option Rho) (mc:Rho->R Bool) (me:Rho->R W) (ws:List W) (ρ:Rho):R W:=
 if ws.length<=1000 then (match mapR (elR mg mc me (ρ++List.replicate (N'-ρ.length) Sl.un)) ws with
  | .ok ys=>.ok (.lst ys)
  | _=>.stuck) else .stuck
theorem uU {f:W->R (Option W)}:∀ {ws ys:List W},mapR f ws=.ok ys->(∀ w∈ws,∃ o,f w=.ok o)/\ys=ws.filterMap fun w=>match f w with
  | .ok o=>o
  | _=>none:=by
 intro ws
 induction ws with
 | nil=>intro ys h; cases h; exact ⟨by simp,rfl⟩
 | cons w ws ih=>
  intro ys h
  unfold mapR at h
  cases hf:f w with
  | stuck=>rw [hf] at h; cases h
  | ex e=>rw [hf] at h; cases h
  | ok o=>
   rw [hf] at h
   cases hm:mapR f ws with
   | stuck=>rw [hm] at h; cases o <;> cases h
   | ex e=>rw [hm] at h; cases o <;> cases h
   | ok zs=>
    rw [hm] at h
    obtain ⟨h1,h2⟩:=ih hm
    refine ⟨fun u hu=>?_,?_⟩
    ·rcases List.mem_cons.mp hu with rfl | hu
     ·exact ⟨o,hf⟩
     ·exact h1 u hu
    ·cases o with
     | none=>cases h; rw [List.filterMap_cons,hf]; exact h2
     | some y=>cases h; rw [List.filterMap_cons,hf,h2]
theorem PIv.inner {N':List Str} (I:PIv K H0 G ρ σ H):PIv K H0 G (ρ++List.replicate (N'.length-ρ.length) Sl.un) (inner N' σ) H:=by
 have hl:=I.len
 unfold L2.inner
 rw [hl]
 refine ⟨I.g0,I.gl,I.gh,I.hh,by simp [hl],fun i x o h1 h2=>?_,fun p q ws us c hab h1 h2 h3 h4=>?_⟩
 ·by_cases hi:i<ρ.length
  ·rw [List.getElem?_append_left hi] at h1
   rw [List.getElem?_append_left (by omega)] at h2
   exact I.sl i x o h1 h2
  ·rw [List.getElem?_append_right (by omega),List.getElem?_replicate] at h1
   split at h1 <;> simp only [Option.some.injEq,reduceCtorEq] at h1
   subst h1; trivial
 ·have key:∀ {k:Nat} {us:List W},(ρ++List.replicate (N'.length-σ.length) Sl.un)[k]?=some (Sl.own us)->k<ρ.length/\ρ[k]?=some (Sl.own us):=fun {k us} hk=>by
   by_cases hi:k<ρ.length
   ·rw [List.getElem?_append_left hi] at hk; exact ⟨hi,hk⟩
   ·rw [List.getElem?_append_right (by omega),List.getElem?_replicate] at hk
    split at hk <;> simp at hk
  obtain ⟨l1,k1⟩:=key h1
  obtain ⟨l2,k2⟩:=key h2
  rw [List.getElem?_append_left (by omega)] at h3 h4
  exact I.ne p q ws us c hab k1 k2 h3 h4
open Classical in
def rest (G H:Hp) (Dd:Addr) (H':Hp):Hp:=fun b=>if b=Dd\/∃ o,H b=some o/\isL o=true/\G b=none then none else H' b
theorem A9 {Dd b:Addr} {H':Hp} (h:b=Dd\/∃ o,H b=some o/\isL o=true/\G b=none):rest G H Dd H' b=none:=by unfold rest; rw [if_pos h]
theorem T7 {Dd b:Addr} {H':Hp} (h:¬ (b=Dd\/∃ o,H b=some o/\isL o=true/\G b=none)):rest G H Dd H' b=H' b:=by unfold rest; rw [if_neg h]
theorem jE {Dd b:Addr} {H':Hp} {o:HO} (h:rest G H Dd H' b=some o):H' b=some o/\¬ (b=Dd\/∃ o,H b=some o/\isL o=true/\G b=none):=by
 by_cases c:b=Dd\/∃ o,H b=some o/\isL o=true/\G b=none
 ·rw [A9 c] at h; cases h
 ·rw [T7 c] at h; exact ⟨h,c⟩
theorem PIv.rest {Dd:Addr} {H':Hp} (I:PIv K H0 G ρ σ H) (hD:H Dd=none) (s:Same H H'):Same G (rest G H Dd H')/\PIv K H0 (rest G H Dd H') ρ σ H':=by
 have sG:Same G (TP.rest G H Dd H'):=fun b o q=>by
  rw [T7]
  ·exact s b o (I.gh b o q)
  ·rintro (rfl | ⟨u,h1,h2,h3⟩)
   ·rw [I.gh _ _ q] at hD; cases hD
   ·rw [q] at h3; cases h3
 refine ⟨sG,fun a o e l=>sG a o (I.g0 a o e l),fun a o e l=>A9 (.inr ⟨o,I.hh a o e,l,I.gl a o e l⟩),fun b o q=>(jE q).1,I.hh.trans s,I.len,fun i x o h1 h2=>?_,I.ne⟩
 have:=I.sl i x o h1 h2
 cases x with
 | un=>trivial
 | val w=>obtain ⟨v,e,r⟩:=this; exact ⟨v,e,r.same sG⟩
 | par w=>obtain ⟨v,e,r⟩:=this; exact ⟨v,e,r.same (w9 sG)⟩
 | own ws=>
  obtain ⟨a,vs,e,h,g,h0,r⟩:=this
  exact ⟨a,vs,e,s a _ h,A9 (.inr ⟨_,h,rfl,g⟩),h0,r.same sG⟩
 | dic ks=>
  obtain ⟨a,vs,e,h,g,h0,r⟩:=this
  exact ⟨a,vs,e,s a _ h,A9 (.inr ⟨_,h,rfl,g⟩),h0,r⟩
 | dik ks=>
  obtain ⟨a,vs,e,h,g,h0,r⟩:=this
  exact ⟨a,vs,e,s a _ h,A9 (.inr ⟨_,h,rfl,g⟩),h0,r⟩
 | iop p ws=>obtain ⟨e1,vs1,h1',r1⟩:=this; exact ⟨e1,vs1,h1',r1.same sG⟩
 | hz w=>obtain ⟨v,e,r⟩:=this; exact ⟨v,e,r.same (w9 (aX sG))⟩
theorem aP {Dd:Addr} {Ha Hb:Hp} (s:∀ b o,b≠Dd->Ha b=some o->Hb b=some o):Same (rest G H Dd Ha) (rest G H Dd Hb):=fun b o q=>by
 obtain ⟨h,c⟩:=jE q
 rw [T7 c]
 exact s b o (fun z=>c (.inl z)) h
theorem pI {Dd:Addr} {Ha Hb G':Hp} (hl:∃ ys,Ha Dd=some (.lst ys)) (s:Same H Ha) (e:Ext (rest G H Dd Ha) Ha G' Hb):Same G' (rest G H Dd Hb):=fun b o q=>by
 rw [T7]
 ·exact e.gh b o q
 ·rintro (rfl | ⟨u,h1,h2,h3⟩)
  ·obtain ⟨ys,hl⟩:=hl
   rw [e.keep _ _ hl rfl (A9 (.inl rfl))] at q; cases q
  ·rw [e.keep _ _ (s _ _ h1) h2 (A9 (.inr ⟨u,h1,h2,h3⟩))] at q; cases q
theorem iP {Q:VK} {e:Mode} {N':List Str} {g:TG} {mg:W->Rho->Option Rho} {mi:Rho->R (List W)} {mc:Rho->R Bool} {me:Rho->R W} (hg:Gt K e g mg) (h:tM K EX .F (fun ρ=>mi ρ>>=fun ws=>j8 N'.length mg mc me ws ρ) σ H Q) :
  fV N' (tIt K EX false e mi) g (tT K EX mc) (tM K EX .V me) σ H Q:=by
 obtain ⟨H0,G,ρ,I,o⟩:=h
 refine ⟨H0,G,ρ,I,?_⟩
 replace o:Out EX G H (mdW K .F H0 H) (mi ρ>>=fun ws=>j8 N'.length mg mc me ws ρ) Q:=o
 revert o
 cases mi ρ with
 | stuck=>exact id
 | ex x=>exact id
 | ok ws=>
  intro o J G1 H1 e1 T Dd hD
  have I1:=I.ext e1
  replace o:Out EX G H (mdW K .F H0 H) (j8 N'.length mg mc me ws ρ) Q:=o
  unfold j8 at o
  by_cases hlen:ws.length<=1000
  ·rw [if_pos hlen] at o
   cases hm:mapR (elR mg mc me (ρ++List.replicate (N'.length-ρ.length) Sl.un)) ws with
   | stuck=>rw [hm] at o; exact o.elim
   | ex x=>rw [hm] at o; exact o.elim
   | ok ys=>
    rw [hm] at o
    obtain ⟨hall,hys⟩:=uU hm
    have T':bH K e H0 H1 G1 J ws:=by
     have:=T
     rw [if_neg Bool.false_ne_true] at this
     exact this
    generalize hρ:ρ++List.replicate (N'.length-ρ.length) Sl.un=ρi at hm hall hys
    refine ⟨fun i m H2=>m=ws.length-i/\i<=ws.length/\Same H1 H2/\∃ vs,H2 Dd=some (.lst vs)/\vs.length<=i/\Reps K (rest G1 H1 Dd H2) vs ((ws.take i).filterMap fun w=>match elR mg mc me ρi w with
     | .ok o=>o
     | _=>none),⟨_,rfl,Nat.zero_le _,fun b u q=>by rw [d8 (f7 q hD)]; exact q,[],i7,Nat.le_refl _,.nil⟩,?_⟩
    rintro i m H2 ⟨rfl,hi,s2,vs,hDv,hvl,r2⟩
    by_cases hlt:i<ws.length
    ·refine .inr ⟨T'.go i H2 hlt s2,fun x H3 y=>?_⟩
     obtain ⟨sG,I2⟩:=I1.rest (Dd:=Dd) hD s2
     have I2i:=I2.inner (N':=N')
     obtain ⟨G3,e3,m3⟩:=T'.yld i H2 x H3 ws[i] (by simp) s2 y _ _ _ I2i sG
     obtain ⟨op,hop⟩:=hall ws[i] (List.getElem_mem hlt)
     have hop':=hop
     unfold elR at hop
     rw [<- hρ] at hop
     have htake:ws.take (i+1)=ws.take i ++ [ws[i]]:=by rw [List.take_succ_eq_append_getElem hlt]
     cases q:mg ws[i] (ρ++List.replicate (N'.length-ρ.length) Sl.un) with
     | none=>rw [q] at hop; cases hop
     | some ρ1=>
      rw [q] at hop
      dsimp only at hop
      refine hg H0 H2 G3 _ _ H3 x _ ρ1 _ (I2i.ext e3) m3 q fun σ4 I4=>⟨H0,G3,ρ1,I4,?_⟩
      cases hc:mc ρ1 with
      | stuck=>rw [hc] at hop; cases hop
      | ex x=>rw [hc] at hop; cases hop
      | ok b=>
       intro b' G5 H5 e5 eb
       cases eb
       rw [hc] at hop
       cases b with
       | false=>
        rw [if_neg Bool.false_ne_true]
        have hop2:op=none:=by cases hop; rfl
        have s5:Same H2 H5:=e3.hh.trans e5.hh
        refine ⟨ws.length-(i+1),by omega,rfl,hlt,s2.trans s5,vs,s5 _ _ hDv,by omega,?_⟩
        rw [htake,List.filterMap_append]
        have:([ws[i]].filterMap fun w=>match elR mg mc me ρi w with
         | .ok o=>o
         | _=>none) = []:=by
         rw [List.filterMap_cons,hop',hop2]; rfl
        rw [this,List.append_nil]
        exact r2.same (aP fun b o _ q=>s5 b o q)
       | true=>
        dsimp only at hop
        rw [if_pos rfl]
        refine ⟨H0,G5,ρ1,I4.ext e5,?_⟩
        cases hme:me ρ1 with
        | stuck=>rw [hme] at hop; cases hop
        | ex x=>rw [hme] at hop; cases hop
        | ok z=>
         rw [hme] at hop
         have hop2:op=some z:=by cases hop; rfl
         intro yv G6 H6 e6 m6
         have e36:Ext (TP.rest G1 H1 Dd H2) H2 G6 H6:=(e3.trans e5).trans e6
         have s6:Same H2 H6:=e36.hh
         refine ⟨vs,s6 _ _ hDv,Nat.lt_of_le_of_lt hvl (Nat.lt_of_lt_of_le (by omega:i<1000) (by decide)),ws.length-(i+1),by omega,rfl,hlt,fun b u q=>by rw [d8 (f7 q hD)]; exact s6 b u (s2 b u q),vs ++ [yv],i7,by rw [List.length_append]; simp; omega,?_⟩
         rw [htake,List.filterMap_append]
         have:([ws[i]].filterMap fun w=>match elR mg mc me ρi w with
          | .ok o=>o
          | _=>none) = [z]:=by
          rw [List.filterMap_cons,hop',hop2]; rfl
         rw [this]
         have k1:Same (TP.rest G1 H1 Dd H2) (TP.rest G1 H1 Dd (upd H6 Dd (.lst (vs ++ [yv])))):=aP fun b o hb q=>by rw [d8 hb]; exact s6 b o q
         have k2:Same G6 (TP.rest G1 H1 Dd (upd H6 Dd (.lst (vs ++ [yv])))):=(pI ⟨vs,hDv⟩ s2 e36).trans (aP fun b o hb q=>by rw [d8 hb]; exact q)
         exact (r2.same k1).snoc (Rep.same k2 m6)
    ·have ei:i=ws.length:=by omega
     subst ei
     refine .inl ⟨T'.stop H2 s2,?_⟩
     rw [List.take_length,<- hys] at r2
     obtain ⟨sG,I2⟩:=I1.rest (Dd:=Dd) hD s2
     refine o _ (TP.rest G1 H1 Dd H2) H2 ⟨e1.gg.trans sG,e1.hh.trans s2,I2.gh,fun b u q l g=>A9 (.inr ⟨u,e1.hh b u q,l,e1.keep b u q l g⟩)⟩ ⟨Dd,vs,rfl,hDv,A9 (.inl rfl),e1.hh.free hD,r2⟩
  ·rw [if_neg hlen] at o; exact o.elim
def B6:W->R (List W)
 | .lst ws=>.ok ws
 | .tup ws=>.ok ws
 | .scr ws=>.ok ws
 | _=>.stuck
theorem D5 {t:Bool} {a:Addr} {xs:List V} (e:Same H H1) (h:Sq K H t a xs):Sq K H1 t a xs:=by
 unfold Sq at h ⊢
 split at h
 ·rename_i ht; rw [if_pos ht]; exact pi e h
 ·rename_i ht; rw [if_neg ht]; exact Same.seq e h
theorem sqT {a:Addr} {xs:List V} (h:SqT K H a xs):Sq K H true a xs:=by unfold Sq; rw [if_pos rfl]; exact h
theorem sqL {a:Addr} {xs:List V} (h:SqL K H a xs):Sq K H false a xs:=by unfold Sq; rw [if_neg Bool.false_ne_true]; exact h
theorem Rep.sq {F:Hp} {x:V} {w:W} {ws:List W} (h:Rep K F x w) (hw:B6 w=.ok ws):∃ t a vs,x=.ref a/\Sq K F t a vs/\Reps K F vs ws:=by
 cases w <;> first | (cases hw; done) | skip
 ·obtain ⟨a,vs,e,s,r⟩:=h.inv; exact ⟨true,a,vs,e,sqT (SqT.of s),R.ok.inj hw ▸ r⟩
 ·obtain ⟨a,vs,e,s,r⟩:=h.inv; exact ⟨false,a,vs,e,sqL (SqL.of s),R.ok.inj hw ▸ r⟩
 ·obtain ⟨a,vs,e,s,r⟩:=h.inv; exact ⟨false,a,vs,e,sqL s,R.ok.inj hw ▸ r⟩
def dY:Bool->Mode->Mode
 | true,e=>e
 | false,.V=>.C
 | false,_=>.B
def fz (e:Mode) (H0 G:Hp):Hp:=if e=.V then G else join H0 G
theorem Md.src {lp:Bool} {e:Mode} {Hs:Hp} {x:V} {w:W} {ws:List W} (he:e=.V\/e=.U) (I:PIv K H0 G ρ σ H) (m:Md K H0 Hs G H x w (dY lp e)) (hw:B6 w=.ok ws) :
  ∃ t a vs,x=.ref a/\Sq K (if lp then join H0 G else H) t a vs/\Reps K (fz e H0 G) vs ws:=by
 unfold fz
 rcases he with rfl | rfl
 ·rw [if_pos rfl]
  cases lp with
  | true=>
   obtain ⟨t,a,vs,e1,e2,e3⟩:=Rep.sq m hw
   exact ⟨t,a,vs,e1,by rw [if_pos rfl]; exact D5 I.G_join e2,e3⟩
  | false=>
   rw [if_neg Bool.false_ne_true]
   rcases m with m | ⟨a,vs,us,rfl,rfl,h1,r⟩
   ·obtain ⟨t,a,vs,e1,e2,e3⟩:=Rep.sq m hw
    exact ⟨t,a,vs,e1,D5 I.gh e2,e3⟩
   ·cases hw; exact ⟨false,a,vs,rfl,sqL (SqL.of h1),r⟩
 ·rw [if_neg (show ¬ (Mode.U=Mode.V) by intro z; cases z)]
  cases lp with
  | true=>
   obtain ⟨t,a,vs,e1,e2,e3⟩:=Rep.sq m hw
   exact ⟨t,a,vs,e1,by rw [if_pos rfl]; exact e2,e3⟩
  | false=>
   rw [if_neg Bool.false_ne_true]
   rcases m with m | ⟨a,vs,us,rfl,rfl,h1,r⟩
   ·obtain ⟨t,a,vs,e1,e2,e3⟩:=Rep.sq m hw
    exact ⟨t,a,vs,e1,D5 I.join_H e2,e3⟩
   ·cases hw; exact ⟨false,a,vs,rfl,sqL (SqL.of h1),r.same I.G_join⟩
theorem Md.of_fz {e:Mode} {Hs:Hp} {v:V} {w:W} (he:e=.V\/e=.U) (h:Rep K (fz e H0 G) v w):Md K H0 Hs G H v w e:=by
 unfold fz at h
 rcases he with rfl | rfl
 ·rw [if_pos rfl] at h; exact h
 ·rw [if_neg (show ¬ (Mode.U=Mode.V) by intro z; cases z)] at h; exact h
theorem J7 {e:Mode} (s:Same G G1):Same (fz e H0 G) (fz e H0 G1):=by
 unfold fz
 split
 ·exact s
 ·exact w9 s
theorem vh {e:Mode} {Z:Hp} {t:Bool} {a:Addr} {vs:List V} {ws:List W} (he:e=.V\/e=.U) (s:Sq K Z t a vs) (r:Reps K (fz e H0 G) vs ws):bH K e H0 Z G (ItQ K t a) ws:=by
 have hl:=r.length
 cases t with
 | true=>
  have hq:∀ H,Same Z H->SqT K H a vs:=fun H z=>by have:=D5 z s; unfold Sq at this; rw [if_pos rfl] at this; exact this
  refine ⟨fun i H hi z=>⟨vs,vs[i]'(by omega),hq H z,by simp⟩,fun H z=>⟨vs,hq H z,by omega⟩,fun i H x H' w hw z zz83 G2 ρ σ I sg=>?_⟩
  obtain ⟨e1,y⟩:=zz83
  subst e1
  have hx:=y vs (hq _ z)
  obtain ⟨v,hv,rv⟩:=Reps.get r hw
  rw [hx] at hv; cases hv
  exact ⟨G2,Ext.refl I.gh,Md.of_fz he (rv.same (J7 sg))⟩
 | false=>
  have hq:∀ H,Same Z H->SqL K H a vs:=fun H z=>by have:=D5 z s; unfold Sq at this; rw [if_neg Bool.false_ne_true] at this; exact this
  refine ⟨fun i H hi z=>⟨vs,vs[i]'(by omega),hq H z,by simp⟩,fun H z=>⟨vs,hq H z,by omega⟩,fun i H x H' w hw z zz84 G2 ρ σ I sg=>?_⟩
  obtain ⟨e1,y⟩:=zz84
  subst e1
  have hx:=y vs (hq _ z)
  obtain ⟨v,hv,rv⟩:=Reps.get r hw
  rw [hx] at hv; cases hv
  exact ⟨G2,Ext.refl I.gh,Md.of_fz he (rv.same (J7 sg))⟩
theorem ip {lp:Bool} (I:PIv K H0 G ρ σ H):Same (if lp then join H0 G else H) H:=by
 cases lp
 ·exact Same.refl H
 ·exact I.join_H
theorem Cj {lp:Bool} {e:Mode} {ml:Rho->R W} {Rr:It->Hp->Prop} (he:e=.V\/e=.U) (h:tIt K EX lp e (fun ρ=>ml ρ>>=B6) σ H Rr):iSq K (tM K EX (dY lp e) ml) σ H Rr:=by
 obtain ⟨H0,G,ρ,I,o⟩:=h
 refine ⟨H0,G,ρ,I,?_⟩
 replace o:jd K EX lp e H0 G H (ml ρ>>=B6) Rr:=o
 revert o
 cases ml ρ with
 | stuck=>exact id
 | ex x=>exact id
 | ok w=>
  intro o x G1 H1 e1 m1
  have I1:=I.ext e1
  have o':jd K EX lp e H0 G H (B6 w) Rr:=o
  cases q:B6 w with
  | stuck=>rw [q] at o'; exact o'.elim
  | ex z=>cases w <;> cases q
  | ok ws=>
   rw [q] at o'
   obtain ⟨t,a,vs,ex,s,r⟩:=Md.src he I1 m1 q
   exact ⟨a,ex,t,vs,D5 (ip I1) s,o' _ G1 H1 e1 (vh he s r)⟩
def K3 (lo hi:Int):R (List W):=if -1000000<=lo/\lo<=1000000 /\ -1000000<=hi/\hi<=1000000 then .ok ((List.range (hi-lo).toNat).map fun k=>W.int (lo+(k:Nat))) else .stuck
def E4:List W->R (List W)
 | [.int j]=>K3 0 j
 | _=>.stuck
def rng2:List W->R (List W)
 | [.int i,.int j]=>K3 i j
 | _=>.stuck
theorem qD {e:Mode} {Z:Hp} {lo:Int} {n:Nat} (he:e=.V\/e=.U):bH K e H0 Z G (Itr lo n) ((List.range n).map fun k=>W.int (lo+(k:Nat))):=by
 refine ⟨fun i H hi _=>by show i<n; simpa using hi,fun H _=>by simp [Itr],fun i H x H' w hw _ zz85 G2 ρ σ I _=>?_⟩
 obtain ⟨e1,e2⟩:=zz85
 subst e1; subst e2
 rw [List.getElem?_map] at hw
 cases q:(List.range n)[i]? with
 | none=>rw [q] at hw; cases hw
 | some k=>
  rw [q] at hw
  have hk:k=i:=by
   have:=List.getElem?_eq_some_iff.mp q
   obtain ⟨h1,h2⟩:=this
   simpa using h2.symm
  subst hk
  cases hw
  refine ⟨G2,Ext.refl I.gh,Md.sca rfl (fun _=>.int) e⟩
theorem cI {lp:Bool} {e b:Mode} {ma:Rho->R (List W)} {k:List W->R (List W)} {Rr:It->Hp->Prop} {Q:List V->Hp->Prop} (h:tIt K EX lp e (fun ρ=>ma ρ>>=k) σ H Rr)
  (hq:∀ H0 G ρ G1 H1 xs ws us,PIv K H0 G ρ σ H->Ext G H G1 H1->MdA K b H0 H G1 H1 ws xs->k ws=.ok us->(∀ J G' H',Ext G H G' H'->bH K e H0 (if lp then join H0 G' else H') G' J us->Rr J H')->Q xs H1)
  (hx:∀ ws e,k ws≠.ex e):tA K EX b ma σ H Q:=by
 obtain ⟨H0,G,ρ,I,o⟩:=h
 refine ⟨H0,G,ρ,I,?_⟩
 replace o:jd K EX lp e H0 G H (ma ρ>>=k) Rr:=o
 revert o
 cases ma ρ with
 | stuck=>exact id
 | ex x=>exact id
 | ok ws=>
  intro o xs G1 H1 e1 m1
  have o':jd K EX lp e H0 G H (k ws) Rr:=o
  cases q:k ws with
  | stuck=>rw [q] at o'; exact o'.elim
  | ex z=>exact absurd q (hx ws z)
  | ok us=>rw [q] at o'; exact hq H0 G ρ G1 H1 xs ws us I e1 m1 q o'
theorem tO {lo hi:Int} {us:List W} (h:K3 lo hi=.ok us):(-1000000<=lo/\lo<=1000000 /\ -1000000<=hi/\hi<=1000000)/\us=(List.range (hi-lo).toNat).map fun k=>W.int (lo+(k:Nat)):=by
 unfold K3 at h
 split at h
 ·cases h; rename_i c; exact ⟨c,rfl⟩
 ·cases h
theorem pD {lo hi:Int} {e:XW} (h:K3 lo hi=.ex e):False:=by
 unfold K3 at h
 by_cases c:-1000000<=lo/\lo<=1000000 /\ -1000000<=hi/\hi<=1000000
 ·rw [if_pos c] at h; cases h
 ·rw [if_neg c] at h; cases h
theorem AD {lp:Bool} {e:Mode} {ma:Rho->R (List W)} {Rr:It->Hp->Prop} (he:e=.V\/e=.U) (h:tIt K EX lp e (fun ρ=>ma ρ>>=E4) σ H Rr):sw (tA K EX .B ma) σ H Rr:=by
 refine cI h (fun H0 G ρ G1 H1 xs ws us I e1 m1 q o=>?_) (fun ws e z=>?_)
 ·cases m1 with
  | nil=>cases q
  | @cons w _ _ _ a t=>
   cases t with
   | cons _ _=>first | (cases q; done) | (cases w <;> cases q)
   | nil=>
    cases w <;> first | (cases q; done) | skip
    rename_i j
    obtain ⟨c,rfl⟩:=tO (show K3 0 j=_ from q)
    refine ⟨j,by rw [Md.intB a],by omega,by omega,?_⟩
    have:=o (Itr 0 j.toNat) G1 H1 e1
    rw [Int.sub_zero] at this
    exact this (qD he)
 ·cases ws with
  | nil=>cases z
  | cons w t=>
   cases t with
   | cons _ _=>first | (cases z; done) | (cases w <;> cases z)
   | nil=>
    cases w <;> first | (cases z; done) | skip
    exact pD (lo:=0) z
def kx:List (List W)->List (List W)
 | [xs,ys]=>xs.zipWith (fun x y=>[x,y]) ys
 | [xs,ys,zs]=>(xs.zip ys).zipWith (fun p z=>[p.1,p.2,z]) zs
 | _=>[]
def T6:List W->R (List (List W))
 | []=>.ok []
 | w::ws=>match B6 w,T6 ws with
  | .ok x,.ok xs=>.ok (x::xs)
  | _,_=>.stuck
def L3 (ws:List W):R (List W):=if ws.length=2\/ws.length=3 then (match T6 ws with
 | .ok xs=>.ok ((kx xs).map W.tup)
 | _=>.stuck) else .stuck
theorem eh {e:Mode} {p:Addr} {vs:List V} {ws:List W} {Hs:Hp} (he:e=.V\/e=.U) (I:PIv K H0 G ρ σ H) (hp:H p=none) (r:Reps K (fz e H0 G) vs ws):Ext G H (upd G p (.tup vs)) (upd H p (.tup vs))/\Md K H0 Hs (upd G p (.tup vs)) (upd H p (.tup vs)) (.ref p) (.tup ws) e:=by
 refine ⟨cQ I.gh hp,?_⟩
 have gp:G p=none:=I.gh.free hp
 rcases he with rfl | rfl
 ·unfold fz at r
  rw [if_pos rfl] at r
  exact .tup i7 (r.same fun b u q=>by rw [d8 (f7 q gp)]; exact q)
 ·unfold fz at r
  rw [if_neg (show ¬ (Mode.U=Mode.V) by intro z; cases z)] at r
  show Rep K (join H0 (upd G p (.tup vs))) _ _
  rw [iu (I.hh.free hp)]
  exact .tup i7 (r.same fun b u q=>by rw [d8 (f7 (I.join_H b u q) hp)]; exact q)
theorem nM {e:Mode} {Z:Hp} {t u:Bool} {a b:Addr} {xs ys:List V} {us vs:List W} (he:e=.V\/e=.U) (s1:Sq K Z t a xs) (s2:Sq K Z u b ys) (r1:Reps K (fz e H0 G) xs us) (r2:Reps K (fz e H0 G) ys vs) :
  bH K e H0 Z G (ItZ K [(t,a),(u,b)]) ((us.zipWith (fun x y=>[x,y]) vs).map W.tup):=by
 have Rn:=mJ s1 s2
 have l1:=r1.length
 have l2:=r2.length
 have hl:((us.zipWith (fun x y=>[x,y]) vs).map W.tup).length=min xs.length ys.length:=by simp [l1,l2]
 refine ⟨fun i H hi z=>Rn.go i H (by omega) z,fun H z=>by rw [hl]; exact Rn.stop H z,fun i H x H' w hw z y G2 ρ σ I sg=>?_⟩
 have hi:i<min xs.length ys.length:=by
  rw [<- hl]; exact (List.getElem?_eq_some_iff.mp hw).1
 obtain ⟨p,y1,z1,rfl,hp,rfl,hy,hz⟩:=Rn.yld i H x H' hi z y
 obtain ⟨w1,e1,q1⟩:=Reps.get' r1 hy
 obtain ⟨w2,e2,q2⟩:=Reps.get' r2 hz
 have hw':w=.tup [w1,w2]:=by
  rw [List.getElem?_map,List.getElem?_zipWith,e1,e2] at hw
  cases hw; rfl
 subst hw'
 obtain ⟨x1,x2⟩:=eh (Hs:=H) he I hp (.cons (q1.same (J7 sg)) (.cons (q2.same (J7 sg)) .nil))
 exact ⟨_,x1,x2⟩
theorem nL {e:Mode} {Z:Hp} {t u v:Bool} {a b c:Addr} {xs ys zs:List V} {us vs ts:List W} (he:e=.V\/e=.U) (s1:Sq K Z t a xs) (s2:Sq K Z u b ys) (s3:Sq K Z v c zs) (r1:Reps K (fz e H0 G) xs us) (r2:Reps K (fz e H0 G) ys vs) (r3:Reps K (fz e H0 G) zs ts) :
  bH K e H0 Z G (ItZ K [(t,a),(u,b),(v,c)]) (((us.zip vs).zipWith (fun p z=>[p.1,p.2,z]) ts).map W.tup):=by
 have Rn:=mI s1 s2 s3
 have l1:=r1.length
 have l2:=r2.length
 have l3:=r3.length
 have hl:(((us.zip vs).zipWith (fun p z=>[p.1,p.2,z]) ts).map W.tup).length=min xs.length (min ys.length zs.length):=by simp [l1,l2,l3,Nat.min_assoc]
 refine ⟨fun i H hi z=>Rn.go i H (by omega) z,fun H z=>by rw [hl]; exact Rn.stop H z,fun i H x H' w hw z y G2 ρ σ I sg=>?_⟩
 have hi:i<min xs.length (min ys.length zs.length):=by
  rw [<- hl]; exact (List.getElem?_eq_some_iff.mp hw).1
 obtain ⟨p,y1,z1,t1,rfl,hp,rfl,hy,hz,ht⟩:=Rn.yld i H x H' hi z y
 obtain ⟨w1,e1,q1⟩:=Reps.get' r1 hy
 obtain ⟨w2,e2,q2⟩:=Reps.get' r2 hz
 obtain ⟨w3,e3,q3⟩:=Reps.get' r3 ht
 have hw':w=.tup [w1,w2,w3]:=by
  rw [List.getElem?_map,List.getElem?_zipWith,List.zip,List.getElem?_zipWith,e1,e2,e3] at hw
  cases hw; rfl
 subst hw'
 obtain ⟨x1,x2⟩:=eh (Hs:=H) he I hp (.cons (q1.same (J7 sg)) (.cons (q2.same (J7 sg)) (.cons (q3.same (J7 sg)) .nil)))
 exact ⟨_,x1,x2⟩
theorem Y3 {w:W} {ws:List W} {xs:List (List W)} (h:T6 (w::ws)=.ok xs):∃ y ys,B6 w=.ok y/\T6 ws=.ok ys/\xs=y::ys:=by
 unfold T6 at h
 cases h1:B6 w with
 | stuck=>rw [h1] at h; cases h
 | ex _=>rw [h1] at h; cases h
 | ok y=>
  rw [h1] at h
  cases h2:T6 ws with
  | stuck=>rw [h2] at h; cases h
  | ex _=>rw [h2] at h; cases h
  | ok ys=>rw [h2] at h; cases h; exact ⟨y,ys,rfl,rfl,rfl⟩
theorem Ca {lp:Bool} {e:Mode} {ma:Rho->R (List W)} {Rr:It->Hp->Prop} (he:e=.V\/e=.U) (h:tIt K EX lp e (fun ρ=>ma ρ>>=L3) σ H Rr):zx K (tA K EX (dY lp e) ma) σ H Rr:=by
 refine cI h (fun H0 G ρ G1 H1 xs ws us I e1 m1 q o=>?_) (fun ws e z=>?_)
 ·have I1:=I.ext e1
  unfold L3 at q
  split at q
  ·rename_i hn
   cases hs:T6 ws with
   | stuck=>rw [hs] at q; cases q
   | ex _=>rw [hs] at q; cases q
   | ok ls=>
    rw [hs] at q
    cases q
    cases m1 with
    | nil=>simp at hn
    | cons a1 m1=>
     cases m1 with
     | nil=>simp at hn
     | cons a2 m1=>
      obtain ⟨y1,ys,h1,hs1,rfl⟩:=Y3 hs
      obtain ⟨y2,ys,h2,hs2,rfl⟩:=Y3 hs1
      obtain ⟨t1,p1,v1,rfl,q1,r1⟩:=Md.src he I1 a1 h1
      obtain ⟨t2,p2,v2,rfl,q2,r2⟩:=Md.src he I1 a2 h2
      have k1:=D5 (ip I1) q1
      have k2:=D5 (ip I1) q2
      cases m1 with
      | nil=>
       cases hs2
       refine ⟨[(t1,p1),(t2,p2)],rfl,.inl rfl,fun u hu=>?_,o _ G1 H1 e1 (nM he q1 q2 r1 r2)⟩
       simp only [List.mem_cons,List.not_mem_nil,or_false] at hu
       rcases hu with rfl | rfl
       ·exact ⟨_,k1⟩
       ·exact ⟨_,k2⟩
      | cons a3 m1=>
       cases m1 with
       | cons _ _=>simp at hn
       | nil=>
        obtain ⟨y3,ys,h3,hs3,rfl⟩:=Y3 hs2
        cases hs3
        obtain ⟨t3,p3,v3,rfl,q3,r3⟩:=Md.src he I1 a3 h3
        refine ⟨[(t1,p1),(t2,p2),(t3,p3)],rfl,.inr rfl,fun u hu=>?_,o _ G1 H1 e1 (nL he q1 q2 q3 r1 r2 r3)⟩
        simp only [List.mem_cons,List.not_mem_nil,or_false] at hu
        rcases hu with rfl | rfl | rfl
        ·exact ⟨_,k1⟩
        ·exact ⟨_,k2⟩
        ·exact ⟨_,D5 (ip I1) q3⟩
  ·cases q
 ·unfold L3 at z
  split at z
  ·split at z <;> cases z
  ·cases z
end
end TP
namespace TP
open PySem L2
section
variable {K:Frag} {EX:EXT} {H0 G H G1 H1 G2 H2:Hp} {ρ:Rho} {σ:St} {d:Mode} {D:Ends} {Q:VK}
theorem Reps.atI {F:Hp} {vs:List V} {ws:List W} {i:Int} {w:W} (r:Reps K F vs ws) (h:L2.atI ws i=some w):∃ v,L2.atI vs i=some v/\Rep K F v w:=by
 unfold L2.atI at h ⊢
 rw [r.length]
 cases q:ixN ws.length i with
 | none=>rw [q] at h; cases h
 | some j=>rw [q] at h; exact Reps.get r h
def fIx:W->W->R W
 | .lst ws,.int i=>toR (L2.atI ws i)
 | .tup ws,.int i=>toR (L2.atI ws i)
 | .scr ws,.int i=>toR (L2.atI ws i)
 | _,_=>.stuck
theorem yy:Op2 K .B .U (rIx K) fIx:=by
 intro EX H0 Hs G H ρ σ Ha Hb x y u v Q I s mx my o
 cases u <;> first | exact o.elim | skip
 all_goals (cases v <;> first | exact o.elim | skip)
 ·rename_i ws i
  obtain ⟨a,vs,rfl,hs,r⟩:=mx.tupB I
  replace o:Out EX G H (mdW K .U H0 Hs) (toR (L2.atI ws i)) Q:=o
  cases q:L2.atI ws i with
  | none=>rw [q] at o; exact o.elim
  | some w=>
   rw [q] at o
   obtain ⟨v,hv,rv⟩:=r.atI q
   exact .inr (.inl ⟨a,vs,i,v,rfl,my.intB,SqT.of hs,hv,o v G H (Ext.refl I.gh) rv⟩)
 ·rename_i ws i
  obtain ⟨a,vs,rfl,hs,r⟩:=mx.lstB I
  replace o:Out EX G H (mdW K .U H0 Hs) (toR (L2.atI ws i)) Q:=o
  cases q:L2.atI ws i with
  | none=>rw [q] at o; exact o.elim
  | some w=>
   rw [q] at o
   obtain ⟨v,hv,rv⟩:=r.atI q
   exact .inl ⟨a,vs,i,v,rfl,my.intB,SqL.of hs,hv,o v G H (Ext.refl I.gh) rv⟩
 ·rename_i ws i
  obtain ⟨a,vs,rfl,hs,r⟩:=mx.scrB I
  replace o:Out EX G H (mdW K .U H0 Hs) (toR (L2.atI ws i)) Q:=o
  cases q:L2.atI ws i with
  | none=>rw [q] at o; exact o.elim
  | some w=>
   rw [q] at o
   obtain ⟨v,hv,rv⟩:=r.atI q
   exact .inl ⟨a,vs,i,v,rfl,my.intB,hs,hv,o v G H (Ext.refl I.gh) rv⟩
theorem yx:Op2 K .C .V (rIx K) fIx:=by
 intro EX H0 Hs G H ρ σ Ha Hb x y u v Q I s mx my o
 cases u <;> first | exact o.elim | skip
 all_goals (cases v <;> first | exact o.elim | skip)
 ·rename_i ws i
  obtain ⟨a,vs,rfl,hs,r⟩:=mx.tupC I
  replace o:Out EX G H (mdW K .V H0 Hs) (toR (L2.atI ws i)) Q:=o
  cases q:L2.atI ws i with
  | none=>rw [q] at o; exact o.elim
  | some w=>
   rw [q] at o
   obtain ⟨v,hv,rv⟩:=r.atI q
   exact .inr (.inl ⟨a,vs,i,v,rfl,Md.intB (Md.CB I my),SqT.of hs,hv,o v G H (Ext.refl I.gh) rv⟩)
 ·rename_i ws i
  obtain ⟨a,vs,rfl,hs,r⟩:=mx.lstC I
  replace o:Out EX G H (mdW K .V H0 Hs) (toR (L2.atI ws i)) Q:=o
  cases q:L2.atI ws i with
  | none=>rw [q] at o; exact o.elim
  | some w=>
   rw [q] at o
   obtain ⟨v,hv,rv⟩:=r.atI q
   exact .inl ⟨a,vs,i,v,rfl,Md.intB (Md.CB I my),SqL.of hs,hv,o v G H (Ext.refl I.gh) rv⟩
 ·rename_i ws i
  obtain ⟨a,vs,rfl,hs,r⟩:=(Md.repC mx fun _=>W.noConfusion).inv
  replace o:Out EX G H (mdW K .V H0 Hs) (toR (L2.atI ws i)) Q:=o
  cases q:L2.atI ws i with
  | none=>rw [q] at o; exact o.elim
  | some w=>
    rw [q] at o
    obtain ⟨v,hv,rv⟩:=r.atI q
    exact .inl ⟨_,_,i,v,rfl,Md.intB (Md.CB I my),Same.seq I.gh hs,hv,o v G H (Ext.refl I.gh) rv⟩
def O4 (K:Frag) (EX:EXT) (m:Rho->R (Option Int)):TO:=fun σ H Q=>∃ H0 G ρ,PIv K H0 G ρ σ H/\Out EX G H (fun (b c:Option Int) _ _=>c=b) (m ρ) Q
def fY:W->R (Option Int)
 | .int i=>.ok (some i)
 | _=>.stuck
theorem rE {Q:Option Int->Hp->Prop} (h:O4 K EX (fun _=>.ok none) σ H Q):tNoPart σ H Q:=by
 obtain ⟨H0,G,ρ,I,o⟩:=h
 exact o none G H (Ext.refl I.gh) rfl
theorem AE {m:Rho->R W} {Q:Option Int->Hp->Prop} (h:O4 K EX (fun ρ=>m ρ>>=fY) σ H Q):rP (tM K EX .B m) σ H Q:=by
 obtain ⟨H0,G,ρ,I,o⟩:=h
 refine ⟨H0,G,ρ,I,Out.bind o fun x G1 H1 u e1 m1 o1=>?_⟩
 cases u <;> first | exact o1.elim | skip
 rename_i i
 exact ⟨i,m1.intB,o1 _ G1 H1 (Ext.refl e1.gh) rfl⟩
def E9 (xs:List W) (lo hi:Option Int):List W:=(xs.drop (HT.sIx xs.length 0 lo)).take (HT.sIx xs.length xs.length hi-HT.sIx xs.length 0 lo)
theorem Reps.cut {F:Hp} {vs:List V} {ws:List W} (r:Reps K F vs ws) (lo hi:Option Int):Reps K F (ad vs lo hi) (E9 ws lo hi):=by
 unfold ad E9
 rw [r.length]
 exact (r.drop _).take _
def lstOf:W->Option (List W)
 | .lst ws=>some ws
 | .scr ws=>some ws
 | _=>none
def chks (c:Bool) (ws:List W):R W:=if c||m7 ws then .ok (.lst ws) else .stuck
def cb (c:Bool):Mode:=if c then .C else .B
theorem Md.lstOf {c:Bool} {Ha:Hp} {x:V} {w:W} {ws:List W} (I:PIv K H0 G ρ σ H) (m:Md K H0 Ha G H x w (cb c)) (h:lstOf w=some ws):∃ a vs,x=.ref a/\SqL K H a vs/\Reps K (if c then G else join H0 G) vs ws:=by
 cases c with
 | true=>
  rw [if_pos rfl]
  cases w <;> first | cases h | skip
  ·obtain ⟨a,vs,e,hs,r⟩:=Md.lstC (H:=Ha) I m
   exact ⟨a,vs,e,SqL.of hs,r⟩
  ·obtain ⟨a,vs,e,hs,r⟩:=(Md.repC m fun _=>W.noConfusion).inv
   exact ⟨a,vs,e,Same.seq I.gh hs,r⟩
 | false=>
  rw [if_neg Bool.false_ne_true]
  cases w <;> first | cases h | skip
  ·obtain ⟨a,vs,e,hs,r⟩:=Md.lstB (H:=Ha) I m
   exact ⟨a,vs,e,SqL.of hs,r⟩
  ·exact Md.scrB (H:=Ha) I m
theorem Out.chks {c:Bool} {Hs:Hp} {vs:List V} {ws:List W} (I:PIv K H0 G ρ σ H) (s:Same Hs H) (r:Reps K (if c then G else join H0 G) vs ws) (o:Out EX G H (mdW K .F H0 Hs) (chks c ws) Q):∀ p,H p=none->Q (.ref p) (upd H p (.lst vs)):=by
 unfold TP.chks at o
 by_cases n:(c||m7 ws)=true
 ·rw [if_pos n] at o
  have r':Reps K G vs ws:=by
   cases c with
   | true=>rw [if_pos rfl] at r; exact r
   | false=>rw [if_neg Bool.false_ne_true] at r; exact Reps.clean I r (by simpa using n)
  exact fun p hp=>Out.newL I s r' hp o
 ·rw [if_neg n] at o; exact o.elim
theorem c_sl {c:Bool} {m:Rho->R W} {ml mh:Rho->R (Option Int)} (h:tM K EX .F (fun ρ=>m ρ>>=fun x=>ml ρ>>=fun l=>mh ρ>>=fun u=>toR (lstOf x)>>=fun ws=>chks c (E9 ws l u)) σ H Q) :
  tSl (xH K) (tM K EX (cb c) m) (O4 K EX ml) (O4 K EX mh) σ H Q:=by
 obtain ⟨H0,G,ρ,I,o⟩:=h
 refine ⟨H0,G,ρ,I,Out.bind o fun x G1 H1 w e1 m1 o1=>⟨H0,G1,ρ,I.ext e1,Out.bind o1 fun l' G2 H2 l e2 m2 o2=>⟨H0,G2,ρ,(I.ext e1).ext e2,Out.bind o2 fun u' G3 H3 u e3 m3 o3=>?_⟩⟩⟩
 subst m2; subst m3
 have I3:=((I.ext e1).ext e2).ext e3
 cases q:lstOf w with
 | none=>rw [q] at o3; exact o3.elim
 | some ws=>
  rw [q] at o3
  obtain ⟨a,vs,ex,hs,r⟩:=Md.lstOf I3 ((m1.move e2).move e3) q
  refine ⟨a,vs,ex,hs,Out.chks I3 ((e1.hh.trans e2.hh).trans e3.hh) (c:=c) ?_ o3⟩
  cases c with
  | true=>rw [if_pos rfl] at r ⊢; exact r.cut _ _
  | false=>rw [if_neg Bool.false_ne_true] at r ⊢; exact r.cut _ _
def Cal (K:Frag) (b d:Mode) (r:List V->Hp->VK->Prop) (f:List W->R W):Prop:=∀ (EX:EXT) (H0 Hs G H:Hp) (ρ:Rho) (σ:St) (Ha:Hp) (vs:List V) (ws:List W) (Q:VK),PIv K H0 G ρ σ H->Same Hs H->MdA K b H0 Ha G H ws vs ->
 Out EX G H (mdW K d H0 Hs) (f ws) Q->r vs H Q
theorem AN {b:Mode} {r:List V->Hp->VK->Prop} {f:List W->R W} {ma:Rho->R (List W)} (hr:Cal K b d r f) (h:tM K EX d (fun ρ=>ma ρ>>=fun ws=>f ws) σ H Q):tCB r (tA K EX b ma) σ H Q:=by
 obtain ⟨H0,G,ρ,I,o⟩:=h
 exact ⟨H0,G,ρ,I,Out.bind o fun xs G1 H1 ws e1 m1 o1=>hr EX H0 H G1 H1 ρ σ H xs ws Q (I.ext e1) e1.hh m1 o1⟩
def fLen:List W->R W
 | [w]=>B6 w>>=fun ws=>.ok (.int ws.length)
 | _=>.stuck
theorem o0:Cal K .B d (fun xs H Q=>∃ p ys,xs = [.ref p]/\(SqL K H p ys\/SqT K H p ys)/\Q (.int ys.length) H) fLen:=by
 intro EX H0 Hs G H ρ σ Ha vs ws Q I s m o
 cases m with
 | nil=>exact o.elim
 | cons a t=>
  cases t with
  | cons _ _=>exact o.elim
  | nil=>
   rename_i w v
   cases w <;> first | exact o.elim | skip
   ·obtain ⟨p,ys,rfl,hs,r⟩:=a.tupB I
    exact ⟨p,ys,rfl,.inr (SqT.of hs),by rw [r.length]; exact o _ G H (Ext.refl I.gh) (Md.sca rfl (fun _=>.int) d)⟩
   ·obtain ⟨p,ys,rfl,hs,r⟩:=a.lstB I
    exact ⟨p,ys,rfl,.inl (SqL.of hs),by rw [r.length]; exact o _ G H (Ext.refl I.gh) (Md.sca rfl (fun _=>.int) d)⟩
   ·obtain ⟨p,ys,rfl,hs,r⟩:=a.scrB I
    exact ⟨p,ys,rfl,.inl hs,by rw [r.length]; exact o _ G H (Ext.refl I.gh) (Md.sca rfl (fun _=>.int) d)⟩
def sE (c:Bool):List W->R W
 | [w]=>B6 w>>=chks c
 | _=>.stuck
def S8 (c:Bool) (ws:List W):R W:=if c||m7 ws then .ok (.tup ws) else .stuck
def J2 (c:Bool):List W->R W
 | [w]=>B6 w>>=S8 c
 | _=>.stuck
theorem J0 {c:Bool}:Cal K (cb c) .F (fun xs H Q=>∃ p ys,xs = [.ref p]/\((SqL K H p ys/\∀ l,H l=none->Q (.ref l) (upd H l (.tup ys)))\/(SqT K H p ys/\Q (.ref p) H))) (J2 c):=by
 intro EX H0 Hs G H ρ σ Ha vs ws Q I s m o
 have key:∀ {vs:List V} {us:List W},Reps K (if c then G else join H0 G) vs us->Out EX G H (mdW K .F H0 Hs) (S8 c us) Q->Reps K G vs us/\Out EX G H (mdW K .F H0 Hs) (.ok (.tup us)) Q:=fun {vs us} r o=>by
  unfold S8 at o
  by_cases n:(c||m7 us)=true
  ·rw [if_pos n] at o
   refine ⟨?_,o⟩
   cases c with
   | true=>rw [if_pos rfl] at r; exact r
   | false=>rw [if_neg Bool.false_ne_true] at r; exact Reps.clean I r (by simpa using n)
  ·rw [if_neg n] at o; exact o.elim
 cases m with
 | nil=>exact o.elim
 | cons a t=>
  cases t with
  | cons _ _=>exact o.elim
  | nil=>
   rename_i w v
   cases w <;> first | exact o.elim | skip
   ·rename_i us
    have hx:∃ p ys,v=.ref p/\(if c then G else join H0 G) p=some (.tup ys)/\Reps K (if c then G else join H0 G) ys us:=by
     cases c with
     | true=>rw [if_pos rfl]; exact (Md.repC a fun _=>W.noConfusion).inv
     | false=>rw [if_neg Bool.false_ne_true]; exact (Md.repB a fun _=>W.noConfusion).inv
    obtain ⟨p,ys,rfl,hp,r⟩:=hx
    obtain ⟨r',o'⟩:=key r o
    have hH:H p=some (.tup ys):=by
     cases c with
     | true=>rw [if_pos rfl] at hp; exact I.gh _ _ hp
     | false=>rw [if_neg Bool.false_ne_true] at hp; exact I.join_H _ _ hp
    have hG:G p=some (.tup ys):=by
     cases c with
     | true=>rw [if_pos rfl] at hp; exact hp
     | false=>
      rw [if_neg Bool.false_ne_true] at hp
      unfold join at hp
      cases q:H0 p with
      | none=>rw [q] at hp; exact hp
      | some u=>
       rw [q] at hp
       dsimp only at hp
       by_cases hl:isL u=true
       ·rw [if_pos hl] at hp; cases hp; cases hl
       ·rw [if_neg hl] at hp; exact hp
    exact ⟨p,ys,rfl,.inr ⟨SqT.of hH,o' _ G H (Ext.refl I.gh) (.tup hG r')⟩⟩
   ·obtain ⟨p,ys,rfl,hs,r⟩:=Md.lstOf I a rfl
    obtain ⟨r',o'⟩:=key r o
    exact ⟨p,ys,rfl,.inl ⟨hs,fun l hl=>Out.newTF I r' hl o'⟩⟩
   ·obtain ⟨p,ys,rfl,hs,r⟩:=Md.lstOf I a rfl
    obtain ⟨r',o'⟩:=key r o
    exact ⟨p,ys,rfl,.inl ⟨hs,fun l hl=>Out.newTF I r' hl o'⟩⟩
def f2 (g:Int->Int->Int):List W->R W
 | [.int i,.int j]=>.ok (.int (g i j))
 | _=>.stuck
theorem b_2 {g:Int->Int->Int}:Cal K .B d (fun xs H Q=>∃ i j,xs = [.int i,.int j]/\Q (.int (g i j)) H) (f2 g):=by
 intro EX H0 Hs G H ρ σ Ha vs ws Q I s m o
 unfold f2 at o
 split at o
 ·cases m with
  | cons a t=>
   cases t with
   | cons b t=>
    cases t
    exact ⟨_,_,by rw [a.intB,b.intB],o _ G H (Ext.refl I.gh) (Md.sca rfl (fun _=>.int) d)⟩
 ·exact o.elim
def tyW:W->Option String
 | .non=>some "NoneType"
 | .bl _=>some "bool"
 | .int _=>some "int"
 | .str _=>some "str"
 | .tup _=>some "tuple"
 | .lst _=>some "list"
 | _=>none
def fIsi:List W->R W
 | [x,.ty T]=>toR ((tyW x).bind fun A=>x3 A T)>>=fun b=>.ok (.bl b)
 | _=>.stuck
theorem ww {Ha:Hp} {v:V} {w:W} {A:String} (I:PIv K H0 G ρ σ H) (m:Md K H0 Ha G H v w .B) (h:tyW w=some A):L2.tyB H v=some A:=by
 cases w <;> first | cases h | skip
 ·rw [m.nonB]; rfl
 ·rw [m.blB]; rfl
 ·rw [m.intB]; rfl
 ·rw [m.strB]; rfl
 ·obtain ⟨a,vs,rfl,hs,r⟩:=m.tupB I
  show L2.tyO (H a)=_
  rw [hs]; rfl
 ·obtain ⟨a,vs,rfl,hs,r⟩:=m.lstB I
  show L2.tyO (H a)=_
  rw [hs]; rfl
theorem ag:Cal K .B d rIsi fIsi:=by
 intro EX H0 Hs G H ρ σ Ha vs ws Q I s m o
 cases m with
 | nil=>exact o.elim
 | @cons x _ _ _ a t=>
  cases t with
  | nil=>exact o.elim
  | @cons y _ _ _ b t=>
   cases t with
   | cons _ _=>first | exact o.elim | (cases y <;> exact o.elim)
   | nil=>
    cases y <;> first | exact o.elim | skip
    rename_i T
    replace o:Out EX G H (mdW K d H0 Hs) (toR ((tyW x).bind fun A=>x3 A T)>>=fun b=>.ok (.bl b)) Q:=o
    cases q:tyW x with
    | none=>rw [q] at o; exact o.elim
    | some A=>
     rw [q] at o
     replace o:Out EX G H (mdW K d H0 Hs) (toR (x3 A T)>>=fun b=>.ok (.bl b)) Q:=o
     cases q2:x3 A T with
     | none=>rw [q2] at o; exact o.elim
     | some c=>
      rw [q2] at o
      exact ⟨_,T,by rw [b.tyB],A,ww I a q,c,q2,o _ G H (Ext.refl I.gh) (Md.sca rfl (fun _=>.bl) d)⟩
def fCat (c:Bool):W->W->R W
 | .lst us,.lst vs=>if us.length+vs.length<=1000 then chks c (us++vs) else .stuck
 | _,_=>.stuck
theorem Reps.rep {F:Hp} {vs:List V} {ws:List W} (r:Reps K F vs ws):∀ k:Nat,Reps K F (List.replicate k vs).flatten (List.replicate k ws).flatten
 | 0=>.nil
 | k+1=>by rw [List.replicate_succ,List.replicate_succ,List.flatten_cons,List.flatten_cons]; exact r.append (Reps.rep r k)
def lg (c:Bool):W->W->R W
 | .lst us,.int k=>if us.length*k.toNat<=1000 /\ -1000<=k/\k<=1000 then chks c (List.replicate k.toNat us).flatten else .stuck
 | _,_=>.stuck
theorem yw {c:Bool}:Op2 K (cb c) .F rRep (lg c):=by
 intro EX H0 Hs G H ρ σ Ha Hb x y u v Q I s mx my o
 cases u <;> first | exact o.elim | skip
 all_goals (cases v <;> first | exact o.elim | skip)
 rename_i us k
 replace o:Out EX G H (mdW K .F H0 Hs) (if us.length*k.toNat<=1000 /\ -1000<=k/\k<=1000 then chks c (List.replicate k.toNat us).flatten else .stuck) Q:=o
 by_cases hn:us.length*k.toNat<=1000 /\ -1000<=k/\k<=1000
 ·rw [if_pos hn] at o
  have h1:∃ a ws,x=.ref a/\H a=some (.lst ws)/\Reps K (if c then G else join H0 G) ws us:=by
   cases c with
   | true=>exact Md.lstC (H:=Ha) I mx
   | false=>exact Md.lstB (H:=Ha) I mx
  have h2:y=.int k:=by
   cases c with
   | true=>exact Md.intB (Md.CB (H:=Hb) I my)
   | false=>exact Md.intB (H:=Hb) my
  obtain ⟨a,xs,rfl,ha,ra⟩:=h1
  subst h2
  exact ⟨a,k,xs,rfl,rfl,ha,by omega,by omega,by rw [ra.length]; exact P9 hn.1,Out.chks I s (ra.rep _) o⟩
 ·rw [if_neg hn] at o; exact o.elim
end
end TP
namespace TP
open PySem L2
def mC (w:W):Rho->R W:=fun _=>.ok w
def b1 (f:W->R W) (ma:Rho->R W):Rho->R W:=fun ρ=>ma ρ>>=fun x=>f x
def b2 (f:W->W->R W) (ma mb:Rho->R W):Rho->R W:=fun ρ=>ma ρ>>=fun x=>mb ρ>>=fun y=>f x y
def bA (f:List W->R W) (ma:Rho->R (List W)):Rho->R W:=fun ρ=>ma ρ>>=fun ws=>f ws
def bI (f:List W->R (List W)) (ma:Rho->R (List W)):Rho->R (List W):=fun ρ=>ma ρ>>=f
def bS (ma:Rho->R W):Rho->R (List W):=fun ρ=>ma ρ>>=B6
def aN:Rho->R (List W):=fun _=>.ok []
def aC (ma:Rho->R W) (mr:Rho->R (List W)):Rho->R (List W):=fun ρ=>ma ρ>>=fun x=>mr ρ>>=fun xs=>.ok (x::xs)
def bF (ma:Rho->R W):Rho->R W:=fun ρ=>ma ρ>>=chk
def g8 (ma:Rho->R W):Rho->R Bool:=fun ρ=>ma ρ>>=toB
def fW (a b:Rho->R Bool):Rho->R Bool:=fun ρ=>eu (a ρ) (b ρ)
def Q3 (a b:Rho->R Bool):Rho->R Bool:=fun ρ=>rOr (a ρ) (b ρ)
def M7 (a:Rho->R Bool):Rho->R Bool:=fun ρ=>kH (a ρ)
def cH (a b:Rho->R W):Rho->R W:=fun ρ=>bM (a ρ) (b ρ)
def vOr (a b:Rho->R W):Rho->R W:=fun ρ=>gA (a ρ) (b ρ)
def oX (a:Rho->R W):Rho->R W:=fun ρ=>fX (a ρ)
def vIf (c:Rho->R Bool) (a b:Rho->R W):Rho->R W:=fun ρ=>c ρ>>=fun t=>if t then a ρ else b ρ
def gj (f f':W->W->R W) (ma mb mc:Rho->R W):Rho->R W:=fun ρ=>ma ρ>>=fun x=>mb ρ>>=fun y=>f x y>>=fun z=>toB z>>=fun c=>if c then mc ρ>>=fun u=>f' y u else .ok (.bl false)
def A4 (ma:Rho->R (List W)):Rho->R W:=fun ρ=>ma ρ>>=fun ws=>lim ws.length (.tup ws)
def D7 (ma:Rho->R (List W)):Rho->R W:=fun ρ=>ma ρ>>=fun ws=>lim ws.length (.lst ws)
def pN:Rho->R (Option Int):=fun _=>.ok none
def pS (m:Rho->R W):Rho->R (Option Int):=fun ρ=>m ρ>>=fY
def vSl (c:Bool) (m:Rho->R W) (ml mh:Rho->R (Option Int)):Rho->R W:=fun ρ=>m ρ>>=fun x=>ml ρ>>=fun l=>mh ρ>>=fun u=>toR (lstOf x)>>=fun ws=>chks c (E9 ws l u)
def k7 (n:Nat) (mi:Rho->R (List W)) (mg:W->Rho->Option Rho) (mc:Rho->R Bool) (me:Rho->R W):Rho->R W:=fun ρ=>mi ρ>>=fun ws=>j8 n mg mc me ws ρ
def yes:Rho->R Bool:=fun _=>.ok true
def sNx:Rho->R Fl:=fun ρ=>.ok (.nx ρ)
def Bo (m:Rho->R W):Rho->R Fl:=fun ρ=>m ρ>>=fun _=>.ok (.nx ρ)
def h7 (m:Rho->R W):Rho->R Fl:=fun ρ=>m ρ>>=fun w=>.ok (.rt w)
def Bk:Rho->R Fl:=fun _=>.ok (.rt .non)
def sV (i:Nat) (m:Rho->R W):Rho->R Fl:=fun ρ=>m ρ>>=fun w=>.ok (.nx (ρ.set i (.val w)))
def sU (i:Nat) (m:Rho->R W):Rho->R Fl:=fun ρ=>m ρ>>=fun w=>.ok (.nx (ρ.set i (.par w)))
def sF (i:Nat) (m:Rho->R W):Rho->R Fl:=fun ρ=>m ρ>>=fun w=>.ok (.nx (ρ.set i (K0 w)))
def sG (mg:W->Rho->Option Rho) (m:Rho->R W):Rho->R Fl:=fun ρ=>m ρ>>=fun w=>toR (mg w ρ)>>=fun ρ'=>.ok (.nx ρ')
def B9 (mi:Rho->R (List W)) (mg:W->Rho->Option Rho) (mb:Rho->R Fl):Rho->R Fl:=fun ρ=>mi ρ>>=fun ws=>B7 mg mb ws ρ
def aM (i:Nat) (m:Rho->R Fl):Rho->R Fl:=fun ρ=>m (frz i ρ)
def mF:Rho->R Fl:=fun _=>.stuck
def sBk:Rho->R Fl:=fun ρ=>.ok (.bk ρ)
def sCt:Rho->R Fl:=fun ρ=>.ok (.ct ρ)
section
variable {X:Cx} {e:Expr} {es:List Expr} {st:Stmt} {sts:List Stmt}
theorem _root_.L2.PE.mono {t t':TE} (h:PE X e t) (hm:∀ σ H Q,t' σ H Q->t σ H Q):PE X e t':=fun pins s σ H Q I q=>h pins s σ H Q I (hm σ H Q q)
theorem _root_.L2.PT.mono {t t':TT} (h:PT X e t) (hm:∀ σ H Q,t' σ H Q->t σ H Q):PT X e t':=fun pins s σ H Q I q=>h pins s σ H Q I (hm σ H Q q)
theorem _root_.L2.PW.mono {t t':TT} (h:PW X e t) (hm:∀ σ H Q,t' σ H Q->t σ H Q):PW X e t':=fun wh pins s σ H Q I q=>h wh pins s σ H Q I (hm σ H Q q)
theorem _root_.L2.PA.mono {t t':TA} (h:PA X es t) (hm:∀ σ H Q,t' σ H Q->t σ H Q):PA X es t':=fun pos pins s σ H Q I q=>h pos pins s σ H Q I (hm σ H Q q)
theorem _root_.L2.PS.mono {t t':TS} (h:PS X st t) (hm:∀ D σ H,t' D σ H->t D σ H):PS X st t':=fun pins s σ H D I q=>h pins s σ H D I (hm D σ H q)
theorem _root_.L2.PSs.mono {t t':TS} (h:PSs X sts t) (hm:∀ D σ H,t' D σ H->t D σ H):PSs X sts t':=fun pins s σ H D I q=>h pins s σ H D I (hm D σ H q)
theorem _root_.L2.PI.mono {tg:Expr} {t t':TI} (h:PI X tg e t) (hm:∀ σ H Q,t' σ H Q->t σ H Q):PI X tg e t':=fun pins s σ H Q I q=>h pins s σ H Q I (hm σ H Q q)
theorem _root_.L2.PO.mono {oe:Option Expr} {t t':TO} (h:PO X oe t) (hm:∀ σ H Q,t' σ H Q->t σ H Q):PO X oe t':=by
 intro pins s σ H Q I q
 exact h pins s σ H Q I (hm σ H Q q)
end
section
variable {X:Cx} {K:Frag} {EX:EXT} {d b:Mode} {a c e:Expr} {es rest:List Expr} {pos:Pos} {ma mb mc:Rho->R W} {ta tb:Rho->R Bool} {mr:Rho->R (List W)}
theorem x6 (h:PE X e (tM K EX .F ma)):PE X e (tM K EX .V ma):=h.mono fun _ _ _ q=>uO q
theorem pU (h:PE X e (tM K EX .V ma)):PE X e (tM K EX .U ma):=h.mono fun _ _ _ q=>uL q
theorem xZ (h:PE X e (tM K EX .V ma)):PE X e (tM K EX .C ma):=h.mono fun _ _ _ q=>uM q
theorem i6 (h:PE X e (tM K EX .F ma)):PE X e (tM K EX .C ma):=h.mono fun _ _ _ q=>uP q
theorem g6 (h:PE X e (tM K EX .U ma)):PE X e (tM K EX .B ma):=h.mono fun _ _ _ q=>uN q
theorem l9 (h:PE X e (tM K EX .C ma)):PE X e (tM K EX .B ma):=h.mono fun _ _ _ q=>uQ q
theorem dn (h:PE X e (tM K EX .U ma)):PE X e (tM K EX .V (bF ma)):=h.mono fun _ _ _ q=>ia (.inr rfl) q
theorem xY (h:PE X e (tM K EX .U ma)):PE X e (tM K EX .F (bF ma)):=h.mono fun _ _ _ q=>ia (.inl rfl) q
theorem qv (d:Mode) (i:Nat) {x:Str} (hN:X.N[i]?=some x:=by rfl) (hv:Vis X.env.scope x:=by first | exact Or.inl rfl | exact Or.inr (Or.inl rfl) | exact Or.inr (Or.inr rfl)) (hd:(x == ("__debug__" : Str))=false:=by decide)
  (hcd:(x == ("__classdict__" : Str))=false:=by decide):PE X (.Name x pos) (tM K EX d (b8 d i)):=(W7 hN hv hd hcd).mono fun _ _ _ q=>ge q
theorem c9 {i j}:PE X (.Constant (.int i) j pos) (tM K EX d (mC (.int i))):=pe_int.mono fun _ _ _ q=>Y0 rfl (fun _=>.int) q
theorem E5 {t j}:PE X (.Constant (.bool t) j pos) (tM K EX d (mC (.bl t))):=pe_bl.mono fun _ _ _ q=>Y0 rfl (fun _=>.bl) q
theorem D9 {j}:PE X (.Constant .none j pos) (tM K EX d (mC .non)):=pe_non.mono fun _ _ _ q=>Y0 rfl (fun _=>.non) q
theorem F1 {x j}:PE X (.Constant (.str x) j pos) (tM K EX d (mC (.str x))):=pe_str.mono fun _ _ _ q=>Y0 rfl (fun _=>.str) q
theorem cM {x:Str} {n:String} (hg:Gl X x) (hm:X.mg x=none) (hv:bootBuiltins x=some (.type n)) (hn:x ≠ "__name__" := by decide) (hd:(x == ("__debug__" : Str))=false:=by decide):PE X (.Name x pos) (tM K EX d (mC (.ty n))):=
 (uB (v:=.ty n) hg hm hv rfl hn hd).mono fun _ _ _ q=>Y0 rfl (fun _=>.ty) q
theorem g7 {op:Operator} {r:R2} {f:W->W->R W} (ho:OpR X (binaryOp op) r) (hr:Op2 K b d r f) (ha:PE X a (tM K EX b ma)) (hb:PE X c (tM K EX b mb)):PE X (.BinOp a op c pos) (tM K EX d (b2 f ma mb)):=
 (BB ho ha hb).mono fun _ _ _ q=>iO hr q
theorem dm {op:CmpOp} {r:R2} {f:W->W->R W} (ho:OpR X (compareOp op) r) (hr:Op2 K b d r f) (ha:PE X a (tM K EX b ma)) (hb:PE X c (tM K EX b mb)) (hm:behindInMarks op c=false:=by first | exact hV _ | rfl):PE X (.Compare a [op] [c] pos) (tM K EX d (b2 f ma mb)):=
 (ux ho ha hb hm).mono fun _ _ _ q=>iO hr q
theorem h9 {op:CmpOp} {r:R2} {f:W->W->R W} (ho:OpR X (compareOp op) r) (hr:Op2 K b .B r f) (ha:PE X a (tM K EX b ma)) (hb:PE X c (tM K EX b mb)) (hm:behindInMarks op c=false:=by first | exact hV _ | rfl):PT X (.Compare a [op] [c] pos) (tT K EX (g8 (b2 f ma mb))):=
 (ui ho ha hb hm).mono fun σ H Q q=>by
  obtain ⟨H0,G,ρ,I,o⟩:=q
  have:=oB (ma:=b2 f ma mb) ⟨H0,G,ρ,I,o⟩
  exact iO hr this
theorem eA {op:UnaryOp} {r:V->Hp->VK->Prop} {f:W->R W} (ho:UnR X (unaryOp op) r) (hr:Op1 K b d r f) (ha:PE X a (tM K EX b ma)):PE X (.UnaryOp op a pos) (tM K EX d (b1 f ma)):=
 (BA ho ha).mono fun _ _ _ q=>c_un hr q
theorem K4 (ha:PE X a (tM K EX .B ma)) (he:∀ whole,isTrue a X.env whole=(do let v <- whole; standAt a.pos; holding [v] (truthy v)):=by intro _; rfl):PT X a (tT K EX (g8 ma)):=
 (yd ha he).mono fun _ _ _ q=>c_tB q
theorem jF (ha:PT X a (tT K EX ta)):PW X (.BoolOp .And [a] pos) (tT K EX ta):=uh ha
theorem W5 (ha:PT X a (tT K EX ta)):PW X (.BoolOp .Or [a] pos) (tT K EX ta):=ya ha
theorem mN {b:Expr} (ha:PT X a (tT K EX ta)) (hb:PW X (.BoolOp .And (b::rest) pos) (tT K EX tb)):PW X (.BoolOp .And (a::b::rest) pos) (tT K EX (fW ta tb)):=(yb ha hb).mono fun _ _ _ q=>Cq q
theorem P1 {b:Expr} (ha:PT X a (tT K EX ta)) (hb:PW X (.BoolOp .Or (b::rest) pos) (tT K EX tb)):PW X (.BoolOp .Or (a::b::rest) pos) (tT K EX (Q3 ta tb)):=(Bv ha hb).mono fun _ _ _ q=>c_or q
theorem N6 (ha:PT X a (tT K EX ta)):PT X (.UnaryOp .Not a pos) (tT K EX (M7 ta)):=(ye ha).mono fun _ _ _ q=>Cf q
theorem dl {op} (h:PE X a (tM K EX d ma)):PE X (.BoolOp op [a] pos) (tM K EX d ma):=ym h
theorem dq {b:Expr} (ha:PE X a (tM K EX .B ma)) (hb:PE X (.BoolOp .And (b::rest) pos) (tM K EX d mb)):PE X (.BoolOp .And (a::b::rest) pos) (tM K EX d (cH ma mb)):=(yq ha hb).mono fun _ _ _ q=>AQ q
theorem Br (ha:PE X a (tM K EX .B ma)):PE X (.UnaryOp .Not a pos) (tM K EX d (oX ma)):=(yn ha).mono fun _ _ _ q=>AF q
theorem pT {t:Expr} (ht:PT X t (tT K EX ta)) (ha:PE X a (tM K EX d ma)) (hb:PE X c (tM K EX d mb)):PE X (.IfExp t a c pos) (tM K EX d (vIf ta ma mb)):=(qc ht ha hb).mono fun _ _ _ q=>c_if q
theorem ug {op op':CmpOp} {r r':R2} {f f':W->W->R W} {x y z:Expr} (ho:OpR X (compareOp op) r) (hr:Op2 K b .B r f) (ho':OpR X (compareOp op') r') (hr':Op2 K b d r' f') (ha:PE X x (tM K EX b ma)) (hb:PE X y (tM K EX b mb)) (hc:PE X z (tM K EX b mc))
  (hm:lastMarks [op,op'] [y,z]=false:=by with_unfolding_all rfl):PE X (.Compare x [op,op'] [y,z] pos) (tM K EX d (gj f f' ma mb mc)):=
 (qd ho ho' ha hb hc hm).mono fun _ _ _ q=>vT hr hr' q
theorem b9:PA X [] (tA K EX d aN):=pa_nil.mono fun _ _ _ q=>Cg q
theorem b7 (ha:PE X e (tM K EX d ma)) (hr:PA X es (tA K EX d mr)) (hs:starEach (e::es) X.env=(false,eval e X.env)::starEach es X.env:=by rfl):PA X (e::es) (tA K EX d (aC ma mr)):=(jI ha hr hs).mono fun _ _ _ q=>AM q
theorem B2 {x1} (h:PA X es (tA K EX .V mr)):PE X (.Tuple es x1 pos) (tM K EX .F (A4 mr)):=(mV h).mono fun _ _ _ q=>Cb q
theorem mL {x1} (h:PA X es (tA K EX .U mr)):PE X (.Tuple es x1 pos) (tM K EX .U (A4 mr)):=(mV h).mono fun _ _ _ q=>AA q
theorem K5 (h:PA X es (tA K EX .V mr)):PE X (.List es pos) (tM K EX .F (D7 mr)):=(yo h).mono fun _ _ _ q=>Ch q
theorem e9 (ha:PE X a (tM K EX .B ma)) (hb:PE X c (tM K EX .B mb)) (hs:ft c:=by exact fun _ _=>rfl) (hK:X.K=K:=by rfl):PE X (.Subscript a c pos) (tM K EX .U (b2 fIx ma mb)):=by
 subst hK; exact (sj nK ha hb hs).mono fun _ _ _ q=>iO yy q
theorem P2 (ha:PE X a (tM K EX .C ma)) (hb:PE X c (tM K EX .C mb)) (hs:ft c:=by exact fun _ _=>rfl) (hK:X.K=K:=by rfl):PE X (.Subscript a c pos) (tM K EX .V (b2 fIx ma mb)):=by
 subst hK; exact (sj nK ha hb hs).mono fun _ _ _ q=>iO yx q
theorem aS:PO X none (O4 K EX pN):=po_none.mono fun _ _ _ q=>rE q
theorem aR (h:PE X e (tM K EX .B ma)):PO X (some e) (O4 K EX (pS ma)):=(uo h).mono fun _ _ _ q=>AE q
theorem gC (k:Bool) {lo hi:Option Expr} {p2:Pos} {ml mh:Rho->R (Option Int)} (he:PE X e (tM K EX (cb k) ma)) (hl:PO X lo (O4 K EX ml)) (hu:PO X hi (O4 K EX mh)) (hK:X.K=K:=by rfl):PE X (.Subscript e (.Slice lo hi none p2) pos) (tM K EX .F (vSl k ma ml mh)):=by
 subst hK; exact (gJ tF he hl hu).mono fun _ _ _ q=>c_sl q
theorem k6 {x:Str} {id:String} {r:List V->Hp->VK->Prop} {f:List W->R W} {p:Pos} (hc:E2 X (.builtin id) r) (hr:Cal K b d r f) (hg:Gl X x) (hm:X.mg x=none) (hv:bootBuiltins x=some (.builtin id)) (ha:PA X (e::es) (tA K EX b mr))
  (hn:x ≠ "__name__" := by decide) (hdb:(x == ("__debug__" : Str))=false:=by decide) (he:starEach (e::es) X.env=(false,eval e X.env)::starEach es X.env:=by rfl) (hpl:(backTo pos (starEach es X.env)).any (·.1)=false:=by rfl) :
  PE X (.Call (.Name x p) (e::es) [] pos) (tM K EX d (bA f mr)):=(qe hc hg hm hv ha hn hdb he hpl).mono fun _ _ _ q=>AN hr q
theorem O7 {x:Str} {T:String} {r:List V->Hp->VK->Prop} {f:List W->R W} {p:Pos} (hc:E2 X (.type T) r) (hr:Cal K b d r f) (hg:Gl X x) (hm:X.mg x=none) (hv:bootBuiltins x=some (.type T)) (ha:PA X (e::es) (tA K EX b mr))
  (hn:x ≠ "__name__" := by decide) (hdb:(x == ("__debug__" : Str))=false:=by decide) (he:starEach (e::es) X.env=(false,eval e X.env)::starEach es X.env:=by rfl) (hpl:(backTo pos (starEach es X.env)).any (·.1)=false:=by rfl) :
  PE X (.Call (.Name x p) (e::es) [] pos) (tM K EX d (bA f mr)):=(mY hc hg hm hv ha hn hdb he hpl).mono fun _ _ _ q=>AN hr q
theorem o5 (hK:X.K=K:=by rfl):E2 X (.builtin "len") (fun xs H Q=>∃ p ys,xs = [.ref p]/\(SqL K H p ys\/SqT K H p ys)/\Q (.int ys.length) H):=by subst hK; exact iM
theorem J1 (hK:X.K=K:=by rfl):E2 X (.type "tuple") (fun xs H Q=>∃ p ys,xs = [.ref p]/\((SqL K H p ys/\∀ l,H l=none->Q (.ref l) (upd H l (.tup ys)))\/(SqT K H p ys/\Q (.ref p) H))):=by subst hK; exact fR
theorem F8 {k:Nat} {f:Addr} {fd:FuncData} {ps:List Str} {x:Str} {p:Pos} {n N:Nat} {m:Rho->R Fl} (F:FnOk X.prog X.w X.K X.mg X.base CX0 k f fd ps (spM K n d (i9 n N m))) (hd:d=.F\/d=.V) (hr:Room k X.A) (hg:Gl X x) (hm:X.mg x=some (.ref f)) (hk:PySem.W.keepIn X.K (.ref f)=true) (hb:Binds X.K fd ps [])
  (ha:PA X (e::es) (tA K (fun _ _=>False) .B mr)) (hdb:(x == ("__debug__" : Str))=false:=by decide) (he:starEach (e::es) X.env=(false,eval e X.env)::starEach es X.env:=by rfl) (hpl:(backTo pos (starEach es X.env)).any (·.1)=false:=by rfl) :
  PE X (.Call (.Name x p) (e::es) [] pos) (tM K (fun _ _=>False) d (bA (i9 n N m) mr)):=
 (uA F hr hg hm hk hb .nil BD ha hdb he hpl).mono fun _ _ _ q=>AO hd (fun ws h=>pB ws h) (fun _ _ z=>z) q
variable {tg:Expr} {lp:Bool}
theorem sh (h:PE X e (tM K EX (dY lp .U) ma)) (hK:X.K=K:=by rfl):PI X tg e (tIt K EX lp .U (bS ma)):=by subst hK; exact (Bz h).mono fun _ _ _ q=>Cj (.inr rfl) q
theorem B3 {p:Pos} (hg:Gl X "range") (hm:X.mg "range" = none) (ha:PA X [a] (tA K EX .B mr)) (hs:starEach [a] X.env = [(false,eval a X.env)]:=by rfl):PI X tg (.Call (.Name "range" p) [a] [] pos) (tIt K EX lp .U (bI E4 mr)):=
 (mU hg hm ha hs).mono fun _ _ _ q=>AD (.inr rfl) q
theorem sf {elts:List Expr} {p tp:Pos} {k:Nat} (hg:Gl X "zip") (hm:X.mg "zip" = none) (ha:PA X (a::es) (tA K EX (dY lp .U) mr)) (hK:X.K=K:=by rfl) (hs:starEach (a::es) X.env=(false,eval a X.env)::starEach es X.env:=by rfl) (hpl:(backTo pos (starEach es X.env)).any (·.1)=false:=by rfl) :
  PI X (.Tuple elts k tp) (.Call (.Name "zip" p) (a::es) [] pos) (tIt K EX lp .U (bI L3 mr)):=by subst hK; exact (yk hg hm ha hs hpl).mono fun _ _ _ q=>Ca (.inr rfl) q
end
section
variable {X:Cx} {K:Frag} {EX:EXT} {d b:Mode} {e:Expr} {st:Stmt} {sts:List Stmt} {pos:Pos} {ma mb:Rho->R W} {ta:Rho->R Bool} {m n:Rho->R Fl}
theorem xX {cs:Scope} {N':List Str} {tg iter elt:Expr} {ifs:List Expr} {dd:Mode} {g:TG} {mg:W->Rho->Option Rho} {mi:Rho->R (List W)} (S:f8 X.env.scope cs X.N N') (hc:X.calm=true) (hi:PI X tg iter (tIt K EX false dd mi))
  (hg:∀ cl ex s H,PG (j5 X cs cl N' ex s H) tg g) (hgt:Gt K dd g mg) (hk:C9 X.N.length g) (ht:∀ cl ex s H,PIf (j5 X cs cl N' ex s H) ifs (tT K EX ta)) (he:∀ cl ex s H,PE (j5 X cs cl N' ex s H) elt (tM K EX .V ma))
  (hs:∀ x,foldedSetIterable iter X.env x=pure x:=by intro _; rfl):PE X (.ListComp elt [⟨tg,iter,ifs,0⟩] cs pos) (tM K EX .F (k7 N'.length mi mg ta ma)):=
 (uw S hc hi hg hk ht he hs).mono fun _ _ _ q=>iP hgt q
theorem xQ {i:Nat} {y:Str} {py:Pos} {cs:Scope} {N':List Str} {tg iter elt:Expr} {ifs:List Expr} {dd:Mode} {g:TG} {mg:W->Rho->Option Rho} {mi:Rho->R (List W)} {cpos:Pos} (S:f8 X.env.scope cs X.N N') (hc:X.calm=true) (hi:PI X tg iter (tIt K EX false dd mi))
  (hg:∀ cl ex s H,PG (j5 X cs cl N' ex s H) tg g) (hgt:Gt K dd g mg) (hk:C9 X.N.length g) (ht:∀ cl ex s H,PIf (j5 X cs cl N' ex s H) ifs (tT K EX ta)) (he:∀ cl ex s H,PE (j5 X cs cl N' ex s H) elt (tM K EX .V ma))
  (hN:X.N.Nodup) (hy:X.N[i]?=some y) (hl:Loc X.env.scope y)
  (hsw:swapsWith (.ListComp elt [⟨tg,iter,ifs,0⟩] cs cpos) (some (.Name y py)) pos.line X.env=pure true:=by rfl) (hf:X.fn y=true\/X.env.scope.names.lookup y=some .local:=by first | exact .inl rfl | exact .inr rfl | assumption)
  (hs:∀ x,foldedSetIterable iter X.env x=pure x:=by intro _; rfl):PS X (.Assign [.Name y py] (.ListComp elt [⟨tg,iter,ifs,0⟩] cs cpos) pos) (tSt K EX d (sF i (k7 N'.length mi mg ta ma))):=
 (uk S hc hi hg hk ht he hN hy hl hsw hf hs).mono fun D σ H q=>by
  have:=iN (m:=k7 N'.length mi mg ta ma) q
  exact iP hgt this
theorem n5:PIf X [] (tT K EX yes):=fun pins s σ H Q I q=>ur pins s σ H Q I (by obtain ⟨H0,G,ρ,I0,o⟩:=q; exact o true G H (Ext.refl I0.gh) rfl)
theorem gE {c:Expr} (h:PT X c (tT K EX ta)):PIf X [c] (tT K EX ta):=uq h
theorem n8:PSs X [] (tSt K EX d sNx):=pss_nil.mono fun _ _ _ q=>AG q
theorem c7 (h1:PS X st (tSt K EX d m)) (h2:PSs X sts (tSt K EX d n)):PSs X (st::sts) (tSt K EX d (d9 m n)):=(pV h1 h2).mono fun _ _ _ q=>Ce q
theorem c8 (h1:PS X st (tSt K EX d m)):PSs X [st] (tSt K EX d m):=uj h1
theorem bO {i:Nat} (h:PS X st (tSt K EX d m)):PS X st (tSt K EX d (aM i m)):=h.mono fun _ _ _ q=>Ck q
theorem xW:PS X (.Continue pos) (tSt K EX d sCt):=ps_continue.mono fun _ _ _ q=>AL q
theorem ud:PS X st (tSt K EX d mF):=ps_never.mono fun _ _ _ q=>vR q
theorem g5 (he:PE X e (tM K EX d ma)):PS X (.Return (some e) pos) (tSt K EX d (h7 ma)):=(mP he).mono fun _ _ _ q=>sN q
theorem aQ (i:Nat) {x:Str} {p:Pos} (hd:d=.F\/d=.V) (hN:X.N[i]?=some x:=by rfl) (hv:Vis X.env.scope x:=by first | exact Or.inl rfl | exact Or.inr (Or.inl rfl) | exact Or.inr (Or.inr rfl)) (hdd:(x == ("__debug__" : Str))=false:=by decide)
  (hcd:(x == ("__classdict__" : Str))=false:=by decide):PS X (.Return (some (.Name x p)) pos) (tSt K EX d (D6 d i)):=(mP (W7 hN hv hdd hcd)).mono fun _ _ _ q=>rD hd q
theorem v4 {i:Nat} {x:Str} {pos':Pos} (hN:X.N.Nodup) (hi:X.N[i]?=some x) (hx:Loc X.env.scope x) (he:PE X e (tM K EX .V ma)) (hs:swapsWith e (some (.Name x pos')) pos.line X.env=pure false:=by rfl) (hf:X.fn x=true\/X.env.scope.names.lookup x=some .local:=by first | exact .inl rfl | exact .inr rfl | assumption) :
  PS X (.Assign [.Name x pos'] e pos) (tSt K EX d (sV i ma)):=(dr hN hi hx he hs hf).mono fun _ _ _ q=>AB q
theorem gD {i:Nat} {x:Str} {pos':Pos} (hN:X.N.Nodup) (hi:X.N[i]?=some x) (hx:Loc X.env.scope x) (he:PE X e (tM K EX .U ma)) (hs:swapsWith e (some (.Name x pos')) pos.line X.env=pure false:=by rfl) (hf:X.fn x=true\/X.env.scope.names.lookup x=some .local:=by first | exact .inl rfl | exact .inr rfl | assumption) :
  PS X (.Assign [.Name x pos'] e pos) (tSt K EX d (sU i ma)):=(dr hN hi hx he hs hf).mono fun _ _ _ q=>AC q
theorem j9 {i:Nat} {x:Str} {pos':Pos} (hN:X.N.Nodup) (hi:X.N[i]?=some x) (hx:Loc X.env.scope x) (he:PE X e (tM K EX .F ma)) (hs:swapsWith e (some (.Name x pos')) pos.line X.env=pure false:=by rfl) (hf:X.fn x=true\/X.env.scope.names.lookup x=some .local:=by first | exact .inl rfl | exact .inr rfl | assumption) :
  PS X (.Assign [.Name x pos'] e pos) (tSt K EX d (sF i ma)):=(dr hN hi hx he hs hf).mono fun _ _ _ q=>iN q
theorem si {tg:Expr} {g:TG} {mg:W->Rho->Option Rho} (he:PE X e (tM K EX b ma)) (hg:PG X tg g) (hgt:Gt K b g mg) (hs:swapsWithSole [tg] e pos.line X.env=pure false:=by rfl) (hw:swappedStores [tg] e X.env=pure none:=by rfl) (h1:(assignEach [tg] X.env).map (·.2) = [assign tg X.env]:=by rfl):PS X (.Assign [tg] e pos) (tSt K EX d (sG mg ma)):=
 (mQ he hg hs hw h1).mono fun _ _ _ q=>Co hgt q
theorem Y5 {i:Nat} {x:Str} {p apos cpos:Pos} (hN:X.N[i]?=some x) (hv:Vis X.env.scope x) (ha:PE X e (tM K EX .V ma)) (hd:(x == ("__debug__" : Str))=false:=by decide) (hcd:(x == ("__classdict__" : Str))=false:=by decide)
  (hbase:attributeBase (.Name x p) "append" X.env (eval (.Name x p) X.env)=eval (.Name x p) X.env:=by rfl)
  (hfew:((backTo cpos (starEach [e] X.env)).all (fun x=>!x.1)&&(backToKw cpos (keywordEach [] X.env)).all (fun x=>x.1.isSome)
   && decide (([e]:List Expr).length+([]:List Keyword).length+(if ([]:List Keyword).isEmpty then 0 else 1)<30))=true:=by rfl)
  (hline:(apos.endLine == cpos.line)=true:=by rfl) (hs:starEach [e] X.env=(false,eval e X.env)::starEach [] X.env:=by rfl) (hsw:swapsWith (.Call (.Attribute (.Name x p) "append" apos) [e] [] cpos) none pos.line X.env=pure false:=by rfl) :
  PS X (.Expr (.Call (.Attribute (.Name x p) "append" apos) [e] [] cpos) pos) (tSt K EX d (R0 i ma)):=(ul (mZ (W7 hN hv hd hcd) ha hbase hfew hline hs) hsw).mono fun _ _ _ q=>Cp q
theorem m9 {c:Expr} {x y:List Stmt} (hc:PT X c (tT K EX ta)) (ha:PSs X x (tSt K EX d m)) (hb:PSs X y (tSt K EX d n)):PS X (.If c x y pos) (tSt K EX d (mIf ta m n)):=(Bw hc ha hb).mono fun _ _ _ q=>Ci q
theorem bN {c:Expr} {body:List Stmt} (hp:PassesOwn (model X.prog X.w) X.A X.env X.xe) (hc:PT X c (tT K EX ta)) (hb:PSs X body (tSt K EX d m)):PS X (.While c body [] pos) (tSt K EX d (G0 ta m)):=(pW hp hc hb).mono fun _ _ _ q=>vQ q
theorem A3 {tg iter:Expr} {body:List Stmt} {dd:Mode} {g:TG} {mg:W->Rho->Option Rho} {mi:Rho->R (List W)} (hp:PassesOwn (model X.prog X.w) X.A X.env X.xe) (hc:X.calm=true) (hi:PI X tg iter (tIt K EX true dd mi)) (hg:PG X tg g) (hgt:Gt K dd g mg) (hb:PSs X body (tSt K EX d m))
  (hs:∀ x,foldedSetIterable iter X.env x=pure x:=by intro _; rfl):PS X (.For tg iter body [] pos) (tSt K EX d (B9 mi mg m)):=(yg hp hc hi hg hb hs).mono fun _ _ _ q=>Cl hgt q
theorem Bu {i:Nat} {x:Str} {op:Operator} {f:Int->Int->Int} {pos':Pos} (hN:X.N.Nodup) (hi:X.N[i]?=some x) (hx:Loc X.env.scope x) (he:PE X e (tM K EX .B ma)) (ho:PIp X op (ipI f)) (hf:X.fn x=true\/X.env.scope.names.lookup x=some .local:=by first | exact .inl rfl | exact .inr rfl | assumption) :
  PS X (.AugAssign (.Name x pos') op e pos) (tSt K EX d (io i f ma)):=(yh hN hi hx he ho hf).mono fun _ _ _ q=>Cn q
theorem dj {i:Nat} {x:Str} {k:Expr} {p p2:Pos} (hN:X.N[i]?=some x) (hv:Vis X.env.scope x) (hk:PE X k (tM K EX .B mb)) (he:PE X e (tM K EX .V ma)) (hd:(x == ("__debug__" : Str))=false:=by decide) (hcd:(x == ("__classdict__" : Str))=false:=by decide)
  (hg:PG X (.Subscript (.Name x p) k p2) (gSub (U3 i) (tM K EX .B mb) rSetL))
  (hs:swapsWithSole [.Subscript (.Name x p) k p2] e pos.line X.env=pure false:=by rfl) (hw:swappedStores [.Subscript (.Name x p) k p2] e X.env=pure none:=by rfl):PS X (.Assign [.Subscript (.Name x p) k p2] e pos) (tSt K EX d (Z0 i mb ma)):=
 (mQ he hg hs hw).mono fun _ _ _ q=>Cd q
end
end TP
namespace TP
open PySem L2
abbrev gLt (i j:Int):W:=.bl (decide (i<j))
abbrev gLe (i j:Int):W:=.bl (decide (i<=j))
abbrev gGt (i j:Int):W:=.bl (decide (j<i))
abbrev gGe (i j:Int):W:=.bl (decide (j<=i))
abbrev x8 (i j:Int):W:=.int (i+j)
abbrev gSub (i j:Int):W:=.int (i-j)
abbrev k9 (i j:Int):W:=.int (i*j)
abbrev C7 (i j:Int):W:=.int (i%j)
abbrev V0 (i j:Int):W:=.int (i/j)
abbrev Z7 (i j:Int):W:=.int (i^j.toNat)
abbrev M0 (i:Int):W:=.int (-i)
abbrev eU (i j:Int):Int:=if j>i then j else i
abbrev zz (i j:Int):Int:=if j<i then j else i
abbrev sy (i j:Int):Int:=i+j
abbrev BS (i j:Int):Int:=i-j
abbrev C2 (_ j:Int):Prop:=0<j
instance (i j:Int):Decidable (CMul i j):=by unfold CMul; infer_instance
instance (i j:Int):Decidable (V5 i j):=by unfold V5; infer_instance
instance (i j:Int):Decidable (M6 i j):=by unfold M6; infer_instance
instance (i j:Int):Decidable (sW i j):=by unfold sW; infer_instance
def vOf:W->Option V
 | .non=>some .non
 | .bl b=>some (.bl b)
 | .int i=>some (.int i)
 | .str x=>some (.str x)
 | _=>none
def rf (u v:W):Option Bool:=match vOf u,vOf v with
 | some x,some y=>if gw x y then some (decide (x=y)) else none
 | _,_=>none
def n9 (neg:Bool) (u v:W):R W:=match rf u v with
 | some b=>.ok (.bl (if neg then !b else b))
 | none=>.stuck
section
variable {K:Frag} {H0 G H:Hp} {ρ:Rho} {σ:St} {d:Mode}
theorem fS {Ha:Hp} {v:V} {w:W} {x:V} (h:Md K H0 Ha G H v w .B) (e:vOf w=some x):v=x:=by
 cases w <;> first | cases e | skip
 ·exact h.nonB
 ·exact h.blB
 ·exact h.intB
 ·exact h.strB
theorem F9:Op2 K .B d rEq (n9 false):=by
 intro EX H0 Hs G H ρ σ Ha Hb x y u v Q I s mx my o
 unfold n9 rf at o
 cases hu:vOf u with
 | none=>rw [hu] at o; exact o.elim
 | some p=>
  cases hv:vOf v with
  | none=>rw [hu,hv] at o; exact o.elim
  | some q=>
   rw [hu,hv] at o
   cases fS mx hu
   cases fS my hv
   dsimp only at o
   by_cases c:gw x y=true
   ·rw [if_pos c] at o
    exact ⟨c,o _ G H (Ext.refl I.gh) (Md.sca rfl (fun _=>.bl) d)⟩
   ·rw [if_neg c] at o; exact o.elim
theorem X0:Op2 K .B d rNe (n9 true):=by
 intro EX H0 Hs G H ρ σ Ha Hb x y u v Q I s mx my o
 unfold n9 rf at o
 cases hu:vOf u with
 | none=>rw [hu] at o; exact o.elim
 | some p=>
  cases hv:vOf v with
  | none=>rw [hu,hv] at o; exact o.elim
  | some q=>
   rw [hu,hv] at o
   cases fS mx hu
   cases fS my hv
   dsimp only at o
   by_cases c:gw x y=true
   ·rw [if_pos c] at o
    exact ⟨c,o _ G H (Ext.refl I.gh) (Md.sca rfl (fun _=>.bl) d)⟩
   ·rw [if_neg c] at o; exact o.elim
end
end TP
namespace TP
open PySem L2
mutual
def pd:W->PyData
 | .non=>.none
 | .bl b=>.bool b
 | .int i=>.int i
 | .str x=>.str x
 | .ty _=>.none
 | .exc _ _=>.none
 | .cls _=>.none
 | .tup ws=>.tuple (pds ws)
 | .lst ws=>.list (pds ws)
 | .scr ws=>.list (pds ws)
def pds:List W->List PyData
 | []=>[]
 | w::ws=>pd w::pds ws
end
mutual
def shp:Nat->W->Bool
 | _,.non=>true
 | _,.bl _=>true
 | _,.int _=>true
 | _,.str x=>PyData.strOk x
 | n+1,.tup ws=>L6 n ws
 | n+1,.lst ws=>L6 n ws
 | n+1,.scr ws=>L6 n ws
 | _,_=>false
def L6:Nat->List W->Bool
 | _,[]=>true
 | n,w::ws=>shp n w&&L6 n ws
end
theorem aJ:∀ (w:W) (n:Nat),shp n w=true->(pd w).canLay0=true/\(pd w).depth<=n:=by
 intro w
 have tl:∀ (ws:List W) (c:List PyData->PyData),(∀ l,(c l).canLay0=PyData.canLayAll0 l)->(∀ l,(c l).depth=PyData.depthAll l+1)->(∀ n:Nat,L6 n ws=true->PyData.canLayAll0 (pds ws)=true/\PyData.depthAll (pds ws)<=n)->∀ n:Nat,(match n with | 0=>false | n+1=>L6 n ws)=true->(c (pds ws)).canLay0=true/\(c (pds ws)).depth<=n:=fun ws c h1 h2 ih n h=>by
  cases n with
  | zero=>cases h
  | succ n=>have:=ih n h; exact ⟨by rw [h1]; exact this.1,by rw [h2]; exact Nat.succ_le_succ this.2⟩
 have fl:∀ {n:Nat} {w:W} {P:Prop},shp n w=false->shp n w=true->P:=fun h1 h2=>by rw [h1] at h2; cases h2
 induction w using W.rec (motive_2:=fun ws=>∀ n:Nat,L6 n ws=true->PyData.canLayAll0 (pds ws)=true/\PyData.depthAll (pds ws)<=n) with
 | non=>exact fun n _=>⟨rfl,Nat.zero_le _⟩
 | bl b=>exact fun n _=>⟨rfl,Nat.zero_le _⟩
 | int i=>exact fun n _=>⟨rfl,Nat.zero_le _⟩
 | str x=>exact fun n h=>⟨by cases n <;> exact h,Nat.zero_le _⟩
 | ty a=>exact fun n h=>fl (by cases n <;> rfl) h
 | exc a b=>exact fun n h=>fl (by cases n <;> rfl) h
 | cls a=>exact fun n h=>fl (by cases n <;> rfl) h
 | tup ws ih=>exact fun n h=>tl ws .tuple (fun _=>rfl) (fun _=>rfl) ih n (by cases n <;> exact h)
 | lst ws ih=>exact fun n h=>tl ws .list (fun _=>rfl) (fun _=>rfl) ih n (by cases n <;> exact h)
 | scr ws ih=>exact fun n h=>tl ws .list (fun _=>rfl) (fun _=>rfl) ih n (by cases n <;> exact h)
 | nil=>exact ⟨rfl,Nat.zero_le _⟩
 | cons w ws h1 h2=>
  rename_i n h
  have h':shp n w=true/\L6 n ws=true:=(Bool.and_eq_true _ _).mp h
  have a:=h1 n h'.1
  have b:=h2 n h'.2
  exact ⟨by show (PyData.canLay0 _&&PyData.canLayAll0 _)=true; rw [a.1,b.1]; rfl,Nat.max_le.mpr ⟨a.2,b.2⟩⟩
theorem dZ (ws:List W) (n:Nat) (h:L6 n ws=true):PyData.canLayAll0 (pds ws)=true/\PyData.depthAll (pds ws)<=n:=by
 have:=aJ (.tup ws) (n+1) h
 exact ⟨this.1,Nat.le_of_succ_le_succ this.2⟩
section
variable {X:Cx} {pins:List (Addr×Obj)} {σ:St} {H:Hp} {s:Shared}
theorem Rep.reads (I:Inv X pins σ H s) {x:V} {w:W} {u:Value} (n:Nat) (r:Rep X.K H x w):shp n w=true->RelV x u->∃ as,Reads s.heap u (pd w) as:=by
 have fl:∀ {n:Nat} {w:W} {P:Prop},shp n w=false->shp n w=true->P:=fun h1 h2=>by rw [h1] at h2; cases h2
 induction r using Rep.rec (motive_2:=fun xs ws _=>∀ (us:List Value) (n:Nat),L6 n ws=true->Vals xs us->∃ as,ReadsAll s.heap us (pds ws) as) generalizing u n with
 | non=>intro _ r; cases r; exact ⟨_,.none⟩
 | bl=>intro _ r; cases r; exact ⟨_,.bool _⟩
 | int=>intro _ r; obtain ⟨t,rfl⟩:=r; exact ⟨_,.int _ _⟩
 | str=>intro _ r; obtain ⟨t,rfl⟩:=r; exact ⟨_,.str _ _⟩
 | ty=>exact fun h _=>fl (by cases n <;> rfl) h
 | exc=>exact fun h _=>fl (by cases n <;> rfl) h
 | cls=>exact fun h _=>fl (by cases n <;> rfl) h
 | tup ha _ ih=>
  intro h r
  cases r
  cases n with
  | zero=>cases h
  | succ n=>
   obtain ⟨its,rv,⟨o,e,c,k,dd⟩,_⟩:=I.tuple (SqT.of ha)
   obtain ⟨as,q⟩:=ih _ n h rv
   exact ⟨_,.tuple e c dd (by simpa using q)⟩
 | lst ha _ ih=>
  intro h r
  cases r
  cases n with
  | zero=>cases h
  | succ n=>
   obtain ⟨its,rv,pl,_⟩:=I.list (SqL.of ha)
   obtain ⟨o,e,c,k,dd⟩:=pl.isList
   obtain ⟨as,q⟩:=ih _ n h rv
   exact ⟨_,.list e c dd (by simpa using q)⟩
 | scr ha _ ih=>
  intro h r
  cases r
  cases n with
  | zero=>cases h
  | succ n=>
   obtain ⟨its,rv,pl,_⟩:=I.list ha
   obtain ⟨o,e,c,k,dd⟩:=pl.isList
   obtain ⟨as,q⟩:=ih _ n h rv
   exact ⟨_,.list e c dd (by simpa using q)⟩
 | nil=>rename_i us n _ r; cases r; exact ⟨_,.nil⟩
 | cons _ _ h1 h2=>
  rename_i us n h r
  cases r with
  | cons r1 r2=>
   have h':=(Bool.and_eq_true _ _).mp h
   obtain ⟨as,q1⟩:=h1 n h'.1 r1
   obtain ⟨bs,q2⟩:=h2 _ n h'.2 r2
   exact ⟨_,.cons q1 q2⟩
def eqW (u v:W):Bool:=PyData.eqv (pd u) (pd v)
def xO (K:Frag) (neg:Bool):R2:=fun x y H Q=>∃ u v,Rep K H x u/\Rep K H y v/\shp 8 u=true/\shp 8 v=true/\Q (.bl (if neg then !eqW u v else eqW u v)) H
theorem fv {w:W} (h:shp 8 w=true):SeqAt.shaped (pd w)=true:=by
 obtain ⟨a,b⟩:=aJ w 8 h
 unfold SeqAt.shaped
 rw [a,Bool.true_and]
 exact decide_eq_true (Nat.le_trans b (by decide))
theorem gM (hu:X.A.units+64<cLine):OpR X (compareOp .Eq) (xO X.K false):=by
 intro pins s σ H x y v u Q I rx ry h
 obtain ⟨a,b,ra,rb,sa,sb,q⟩:=h
 obtain ⟨as,qa⟩:=Rep.reads I 8 ra sa rx
 obtain ⟨bs,qb⟩:=Rep.reads I 8 rb sb ry
 exact PyProof.Rows.eq_dataH qa qb (fv sa) (fv sb) hu ⟨.bl (eqW a b),H,I,rfl,q⟩
def fEq (neg:Bool) (u v:W):R W:=if shp 8 u&&shp 8 v then .ok (.bl (if neg then !eqW u v else eqW u v)) else .stuck
theorem hU {K:Frag} {d:Mode} {neg:Bool}:Op2 K .B d (xO K neg) (fEq neg):=by
 intro EX H0 Hs G H ρ σ Ha Hb x y u v Q I s mx my o
 unfold fEq at o
 by_cases c:(shp 8 u&&shp 8 v)=true
 ·rw [if_pos c] at o
  have c':shp 8 u=true/\shp 8 v=true:=by simpa using c
  exact ⟨u,v,mx.whole I,my.whole I,c'.1,c'.2,o _ G H (Ext.refl I.gh) (Md.sca rfl (fun _=>.bl) d)⟩
 ·rw [if_neg c] at o; exact o.elim
def U8:W->Bool->Bool
 | .bl a,b=>a == b
 | _,_=>false
def fIsB (neg:Bool):W->W->R W
 | u,.bl b=>.ok (.bl (if neg then !U8 u b else U8 u b))
 | _,_=>.stuck
end
theorem U9 {A:Around} {k:Nat} (hr:Room k A):A.units+64<cLine:=hr.units
end TP
namespace TP
open PySem L2
section
variable {X:Cx} {pins:List (Addr×Obj)} {σ:St} {H:Hp} {s:Shared}
theorem L4 {x:V} {us:List Value} (r:Vals [x] us):∃ u,us = [u]/\RelV x u:=by
 cases r with
 | cons a t=>cases t; exact ⟨_,rfl,a⟩
theorem J5 {h':Heap} {o:Obj} (hk:∀ b u,b ∉ [s.heap.objs.size]->(s.heap.push o).get? b=some u->h'.get? b=some u):∀ b u,s.heap.get? b=some u->h'.get? b=some u:=fun b u e=>
 hk b u (by simp; exact Nat.ne_of_lt (Heap.lt_size e)) (Heap.get?_push_of_some _ e)
theorem gi {α:Type} {f:α->V} {g:α->Value->Prop} (hg:∀ a u,RelV (f a) u->g a u) {as:List α} {its:List Value} (r:Vals (as.map f) its) {i:Nat} {v:Value} (h:its.toArray[i]?=some v):∃ a,as[i]?=some a/\g a v:=by
 have h':its[i]?=some v:=by simpa using h
 induction as generalizing its i with
 | nil=>cases r; simp at h'
 | cons a as ih=>
  cases r with
  | cons q t=>
   cases i with
   | zero=>simp at h'; subst h'; exact ⟨a,rfl,hg _ _ q⟩
   | succ i=>simpa using ih t (i:=i) (by simpa using h') (by simpa using h')
theorem T0 {p:Addr} {xs:List V} (I:Inv X pins σ H s) (hc:X.calm=true) (hp:H p=some (.lst xs)):∃ its:List Value,Vals xs its/\s.heap.IsList p its.toArray/\xs.length=its.toArray.size/\p≠s.heap.objs.size /\
  Walks X.prog X.w X.A.in1 s.heap.objs.size [s.heap.objs.size,p] [s.heap.objs.size] its.toArray.size (fun i v=>its.toArray[i]?=some v) (fun i h=>h.IsListIter s.heap.objs.size p i/\h.IsList p its.toArray):=by
 obtain ⟨its,rv,pl,hz⟩:=I.list (SqL.of hp)
 obtain ⟨o,e,_⟩:=pl.isList
 have hne:p≠s.heap.objs.size:=Nat.ne_of_lt (Heap.lt_size e)
 exact ⟨its,rv,pl.isList,by rw [List.size_toArray]; exact rv.length,hne,Walks.list (show X.A.in1.handled=none from I.ok.hd hc) _ p hne _⟩
theorem all_range {bs:List Bool}:(List.range bs.length).all (fun i=>bs.getD i false)=bs.all id:=by
 rw [Bool.eq_iff_iff,List.all_eq_true,List.all_eq_true]
 constructor
 ·intro h x hx
  obtain ⟨i,hi,e⟩:=List.mem_iff_getElem.mp hx
  have:=h i (by simpa using hi)
  rw [List.getD_eq_getElem?_getD] at this
  simpa [hi,e] using this
 ·intro h i hi
  have hi:i<bs.length:=by simpa using hi
  rw [List.getD_eq_getElem?_getD]
  simpa [hi] using h bs[i] (List.getElem_mem hi)
theorem pc {A:Around} {bs:List Bool} {its:List Value} (rv:Vals (bs.map V.bl) its):TruthOf X.prog X.w A (fun i v=>its.toArray[i]?=some v) (fun i=>bs.getD i false):=fun i v s' Q' E hv hq=>by
 obtain ⟨b,hb,e⟩:=gi (f:=V.bl) (g:=fun b u=>u=.bool b) (fun b u r=>r) rv hv
 subst e
 have:bs.getD i false=b:=by rw [List.getD_eq_getElem?_getD,hb]; rfl
 have hq':Q' (bs.getD i false) s':=hq
 rw [this] at hq'
 exact wpAny_truthy_bool hq'
theorem bD (hc:X.calm=true):E2 X (.builtin "all") (fun xs H Q=>∃ (p:Addr) (bs:List Bool),xs = [.ref p]/\H p=some (.lst (bs.map V.bl))/\Q (.bl (bs.all id)) H):=by
 intro pins s σ H xs us Q I r h
 obtain ⟨p,bs,rfl,hp,q⟩:=h
 obtain ⟨u,rfl,rx⟩:=L4 r
 cases rx
 obtain ⟨its,rv,hl,hlen,hne,Wk⟩:=T0 I hc hp
 rw [List.length_map] at hlen
 refine call_all_walk (wpAny_pyIter_list hl ⟨_,_,_,_,_,_,_,rfl,Wk,⟨⟨_,Heap.get?_push_size _ rfl,rfl,rfl⟩,hl.push _⟩,pc rv,fun h' tk hk=>?_⟩)
 rw [<- hlen,all_range]
 exact ⟨.bl (bs.all id),H,I.kept (t':=tk) (J5 hk),rfl,q⟩
def S9:List W->Option (List Bool)
 | []=>some []
 | .bl b::ws=>(S9 ws).map (b::·)
 | _=>none
theorem vV (bs:List Bool):S9 (bs.map W.bl)=some bs:=by
 induction bs with
 | nil=>rfl
 | cons b bs ih=>rw [List.map_cons,S9,ih]; rfl
theorem Reps.bls {K:Frag} {F:Hp} {vs:List V} {ws:List W} {bs:List Bool} (r:Reps K F vs ws):S9 ws=some bs->vs=bs.map V.bl:=
 Reps.ind (P:=fun vs ws=>∀ bs,S9 ws=some bs->vs=bs.map V.bl) (fun bs h=>by cases h; rfl) (fun {v w vs ws} r _ ih bs h=>by
  cases w <;> first | cases h | skip
  rename_i b
  have e:v=.bl b:=r.inv
  subst e
  have h':(S9 ws).map (b::·)=some bs:=h
  cases q:S9 ws with
  | none=>rw [q] at h'; cases h'
  | some cs=>rw [q] at h'; cases h'; rw [ih cs q]; rfl) r bs
def bw (g:List Bool->Bool):List W->R W
 | [.lst ws]=>toR (S9 ws)>>=fun bs=>.ok (.bl (g bs))
 | _=>.stuck
theorem fm {K:Frag} {d:Mode} {g:List Bool->Bool}:Cal K .B d (fun xs H Q=>∃ (p:Addr) (bs:List Bool),xs = [.ref p]/\H p=some (.lst (bs.map V.bl))/\Q (.bl (g bs)) H) (bw g):=by
 intro EX H0 Hs G H ρ σ Ha vs ws Q I s m o
 cases m with
 | nil=>exact o.elim
 | @cons w v ws2 vs2 a t=>
  cases t with
  | cons _ _=>first | exact o.elim | (cases w <;> exact o.elim)
  | nil=>
   cases w <;> first | exact o.elim | skip
   rename_i ws
   obtain ⟨p,ys,rfl,hs,r⟩:=a.lstB I
   replace o:Out EX G H (mdW K d H0 Hs) (toR (S9 ws)>>=fun bs=>.ok (.bl (g bs))) Q:=o
   cases q:S9 ws with
   | none=>rw [q] at o; exact o.elim
   | some bs=>
    rw [q] at o
    rw [Reps.bls r q] at hs
    exact ⟨p,bs,rfl,hs,o _ G H (Ext.refl I.gh) (Md.sca rfl (fun _=>.bl) d)⟩
def bp (bs:List Bool):Bool:=bs.all id
end
theorem iT:bootBuiltins "all" = some (.builtin "all"):=by decide +kernel
theorem iQ:bootBuiltins "sum" = some (.builtin "sum"):=by decide +kernel
section
variable {X:Cx} {K:Frag} {d:Mode}
theorem bC (hc:X.calm=true):E2 X (.builtin "sum") (fun xs H Q=>∃ (p:Addr) (ns:List Int),xs = [.ref p]/\H p=some (.lst (ns.map V.int))/\Q (.int ns.sum) H):=by
 intro pins s σ H xs us Q I r h
 obtain ⟨p,ns,rfl,hp,q⟩:=h
 obtain ⟨u,rfl,rx⟩:=L4 r
 cases rx
 obtain ⟨its,rv,hl,hlen,hne,Wk⟩:=T0 I hc hp
 rw [List.length_map] at hlen
 have pre:∀ (ms:List Int) (k:Nat),k<=ms.length->preSum (fun i=>ms.getD i 0) k=(ms.take k).sum:=by
  intro ms k
  induction k with
  | zero=>intro _; simp [preSum]
  | succ k ih=>
   intro hk
   rw [preSum,ih (by omega),List.take_succ_eq_append_getElem (by omega:k<ms.length),List.sum_append]
   have hk':k<ms.length:=by omega
   simp [List.getD_eq_getElem?_getD,hk']
 refine call_sum_walkAnyS (wpAny_pyIter_list hl ⟨_,_,_,_,_,_,_,(fun i=>ns.getD i 0),rfl,Wk.toS,⟨⟨_,Heap.get?_push_size _ rfl,rfl,rfl⟩,hl.push _⟩,fun b hb=>?_,fun i v hv=>?_,fun s' t' mv=>?_⟩)
 ·obtain ⟨o,e,_⟩:=id hl
  have hlt:=Heap.lt_size e
  simp at hb
  rcases hb with rfl | rfl
  ·simp [Heap.push]
  ·exact Nat.lt_of_lt_of_le hlt (by simp [Heap.push])
 ·obtain ⟨n,hn,t,e⟩:=gi (f:=V.int) (g:=fun n u=>∃ t,u=.int n t) (fun b u r=>r) rv hv
  refine ⟨t,?_⟩
  show v=Value.int (ns.getD i 0) t
  rw [e,List.getD_eq_getElem?_getD,hn]; rfl
 ·rw [<- hlen,pre ns ns.length (Nat.le_refl _),List.take_length]
  obtain ⟨hh,g,dd,tk,os⟩:=s'
  obtain rfl:g=s.gens:=mv.gens
  obtain rfl:dd=s.drawn:=mv.drawn
  obtain rfl:os=s.os:=mv.os
  exact ⟨.int ns.sum,H,I.kept (t':=tk) (J5 mv.heap),⟨t',rfl⟩,q⟩
def v5:List W->Option (List Int)
 | []=>some []
 | .int b::ws=>(v5 ws).map (b::·)
 | _=>none
theorem ints_map (bs:List Int):v5 (bs.map W.int)=some bs:=by
 induction bs with
 | nil=>rfl
 | cons b bs ih=>rw [List.map_cons,v5,ih]; rfl
theorem Reps.ints {F:Hp} {vs:List V} {ws:List W} {bs:List Int} (r:Reps K F vs ws):v5 ws=some bs->vs=bs.map V.int:=
 Reps.ind (P:=fun vs ws=>∀ bs,v5 ws=some bs->vs=bs.map V.int) (fun bs h=>by cases h; rfl) (fun {v w vs ws} r _ ih bs h=>by
  cases w <;> first | cases h | skip
  rename_i b
  have e:v=.int b:=r.inv
  subst e
  have h':(v5 ws).map (b::·)=some bs:=h
  cases q:v5 ws with
  | none=>rw [q] at h'; cases h'
  | some cs=>rw [q] at h'; cases h'; rw [ih cs q]; rfl) r bs
def dM (g:List Int->Int):List W->R W
 | [.lst ws]=>toR (v5 ws)>>=fun bs=>.ok (.int (g bs))
 | _=>.stuck
theorem iV {g:List Int->Int}:Cal K .B d (fun xs H Q=>∃ (p:Addr) (ns:List Int),xs = [.ref p]/\H p=some (.lst (ns.map V.int))/\Q (.int (g ns)) H) (dM g):=by
 intro EX H0 Hs G H ρ σ Ha vs ws Q I s m o
 cases m with
 | nil=>exact o.elim
 | @cons w v ws2 vs2 a t=>
  cases t with
  | cons _ _=>first | exact o.elim | (cases w <;> exact o.elim)
  | nil=>
   cases w <;> first | exact o.elim | skip
   rename_i ws
   obtain ⟨p,ys,rfl,hs,r⟩:=a.lstB I
   replace o:Out EX G H (mdW K d H0 Hs) (toR (v5 ws)>>=fun bs=>.ok (.int (g bs))) Q:=o
   cases q:v5 ws with
   | none=>rw [q] at o; exact o.elim
   | some bs=>
    rw [q] at o
    rw [Reps.ints r q] at hs
    exact ⟨p,bs,rfl,hs,o _ G H (Ext.refl I.gh) (Md.sca rfl (fun _=>.int) d)⟩
def bj (ns:List Int):Int:=ns.sum
def fAbs:List W->R W
 | [.int i]=>.ok (.int (if i<0 then -i else i))
 | _=>.stuck
def zS:List W->R W
 | [.int i]=>.ok (.int i)
 | [.bl k]=>.ok (.int (if k then 1 else 0))
 | _=>.stuck
def fStr:List W->R W
 | [.int i]=>if i.natAbs.log2<1920 then .ok (.str (toString i)) else .stuck
 | _=>.stuck
end
end TP
namespace TP
open PySem L2
def mExt (i:Nat) (c:Bool) (m:Rho->R W):Rho->R Fl:=fun ρ=>match ρ[i]? with
 | some (.own ws)=>m ρ>>=fun w=>(match w with
  | .lst us=>if ws.length+us.length<=1000 then (if c||m7 us then .ok (.nx (ρ.set i (.own (ws++us)))) else .stuck) else .stuck
  | _=>.stuck)
 | _=>.stuck
def mRev (i:Nat):Rho->R Fl:=fun ρ=>match ρ[i]? with
 | some (.own ws)=>.ok (.nx (ρ.set i (.own ws.reverse)))
 | _=>.stuck
section
variable {K:Frag} {EX:EXT} {H0 G H:Hp} {ρ:Rho} {σ:St} {d:Mode} {D:Ends}
end
section
variable {X:Cx} {K:Frag} {EX:EXT} {d:Mode} {e:Expr} {pos:Pos} {ma:Rho->R W}
end
section
variable {X:Cx} {K:Frag} {EX:EXT} {a e tg:Expr} {es:List Expr} {pos:Pos} {ma:Rho->R W} {mr:Rho->R (List W)}
theorem A2 (h:PE X e (tM K EX .B ma)) (hK:X.K=K:=by rfl):PI X tg e (tIt K EX false .U (bS ma)):=sh (lp:=false) h hK
theorem N7 (h:PE X e (tM K EX .U ma)) (hK:X.K=K:=by rfl):PI X tg e (tIt K EX true .U (bS ma)):=sh (lp:=true) h hK
theorem di {elts:List Expr} {p tp:Pos} {k:Nat} (hg:Gl X "zip") (hm:X.mg "zip" = none) (ha:PA X (a::es) (tA K EX .B mr)) (hK:X.K=K:=by rfl) (hs:starEach (a::es) X.env=(false,eval a X.env)::starEach es X.env:=by rfl) (hpl:(backTo pos (starEach es X.env)).any (·.1)=false:=by rfl) :
  PI X (.Tuple elts k tp) (.Call (.Name "zip" p) (a::es) [] pos) (tIt K EX false .U (bI L3 mr)):=sf (lp:=false) hg hm ha hK hs hpl
theorem xP {elts:List Expr} {p tp:Pos} {k:Nat} (hg:Gl X "zip") (hm:X.mg "zip" = none) (ha:PA X (a::es) (tA K EX .U mr)) (hK:X.K=K:=by rfl) (hs:starEach (a::es) X.env=(false,eval a X.env)::starEach es X.env:=by rfl) (hpl:(backTo pos (starEach es X.env)).any (·.1)=false:=by rfl) :
  PI X (.Tuple elts k tp) (.Call (.Name "zip" p) (a::es) [] pos) (tIt K EX true .U (bI L3 mr)):=sf (lp:=true) hg hm ha hK hs hpl
end
end TP
namespace TP
open PySem L2
section
variable {K:Frag} {EX:EXT} {H0 G H G1 H1:Hp} {ρ:Rho} {σ:St} {d:Mode} {D:Ends}
def BQ:Sl->Bool
 | .own _=>true
 | .dic _=>true
 | .dik _=>true
 | _=>false
def noOwn (ρ:Rho):Bool:=ρ.all fun s=>!BQ s
def sCU (i:Nat) (f:List W->R W) (ma:Rho->R (List W)):Rho->R Fl:=fun ρ=>if noOwn ρ then (ma ρ>>=fun ws=>f ws>>=fun w=>.ok (.nx (ρ.set i (.par w)))) else .stuck
end
section
variable {X:Cx} {K:Frag} {d:Mode} {e:Expr} {es:List Expr} {pos:Pos} {mr:Rho->R (List W)}
end
end TP
namespace TP
open PySem L2
theorem jp:bootBuiltins "reversed" = some (.type "reversed"):=by decide +kernel
section
variable {X:Cx} {tg:Expr}
end
def revW:List W->R (List W)
 | [.lst ws]=>.ok ws.reverse
 | _=>.stuck
section
variable {K:Frag} {EX:EXT} {H0 G H:Hp} {ρ:Rho} {σ:St}
end
section
variable {X:Cx} {K:Frag} {EX:EXT} {a tg:Expr} {pos:Pos} {mr:Rho->R (List W)}
end
end TP
namespace TP
open PySem L2
def U6 (ns:List Int):Int:=ns.getD (argBest (fun i j=>decide (ns.getD i 0<ns.getD j 0)) (ns.length-1)) 0
def Q8 (ns:List Int):Int:=ns.getD (argBest (fun i j=>decide (ns.getD j 0<ns.getD i 0)) (ns.length-1)) 0
theorem ah (bt:Nat->Nat->Bool):∀ k,argBest bt k<=k
 | 0=>Nat.le_refl _
 | k+1=>by
  unfold argBest
  split
  ·exact Nat.le_refl _
  ·exact Nat.le_succ_of_le (ah bt k)
theorem qt {ns:List Int} (h:0<ns.length):U6 ns∈ns:=by
 unfold U6
 have:=ah (fun i j=>decide (ns.getD i 0<ns.getD j 0)) (ns.length-1)
 have hi:argBest (fun i j=>decide (ns.getD i 0<ns.getD j 0)) (ns.length-1)<ns.length:=by omega
 generalize argBest (fun i j=>decide (ns.getD i 0<ns.getD j 0)) (ns.length-1)=k at hi
 rw [List.getD_eq_getElem?_getD]
 simp [hi]
theorem qu {ns:List Int} (h:0<ns.length):Q8 ns∈ns:=by
 unfold Q8
 have:=ah (fun i j=>decide (ns.getD j 0<ns.getD i 0)) (ns.length-1)
 have hi:argBest (fun i j=>decide (ns.getD j 0<ns.getD i 0)) (ns.length-1)<ns.length:=by omega
 generalize argBest (fun i j=>decide (ns.getD j 0<ns.getD i 0)) (ns.length-1)=k at hi
 rw [List.getD_eq_getElem?_getD]
 simp [hi]
section
variable {X:Cx} {pins:List (Addr×Obj)} {σ:St} {H:Hp} {s:Shared}
theorem int_at {ns:List Int} {its:List Value} (rv:Vals (ns.map V.int) its) {i:Nat} {v:Value} (h:its.toArray[i]?=some v):∃ t,v=.int (ns.getD i 0) t:=by
 obtain ⟨n,hn,t,e⟩:=gi (f:=V.int) (g:=fun n u=>∃ t,u=.int n t) (fun b u r=>r) rv h
 exact ⟨t,by rw [e,List.getD_eq_getElem?_getD,hn]; rfl⟩
theorem ow {A:Around} {ns:List Int} {its:List Value} (rv:Vals (ns.map V.int) its):CmpOf X.prog X.w A .Lt (fun i v=>its.toArray[i]?=some v) (fun i j=>decide (ns.getD i 0<ns.getD j 0)):=fun i j vi vj s' Q' E hi hj hq=>by
 obtain ⟨t,rfl⟩:=int_at rv hi
 obtain ⟨u,rfl⟩:=int_at rv hj
 exact PyProof.Rows.lt_int hq
theorem cmp_gt {A:Around} {ns:List Int} {its:List Value} (rv:Vals (ns.map V.int) its):CmpOf X.prog X.w A .Gt (fun i v=>its.toArray[i]?=some v) (fun i j=>decide (ns.getD j 0<ns.getD i 0)):=fun i j vi vj s' Q' E hi hj hq=>by
 obtain ⟨t,rfl⟩:=int_at rv hi
 obtain ⟨u,rfl⟩:=int_at rv hj
 exact PyProof.Rows.gt_int hq
theorem lt2 {p:Addr} {o:Obj} {u:Obj} (e:s.heap.get? p=some u):∀ b ∈ [s.heap.objs.size,p],b<(s.heap.push o).objs.size:=fun b hb=>by
 have hlt:=Heap.lt_size e
 simp at hb
 rcases hb with rfl | rfl
 ·simp [Heap.push]
 ·exact Nat.lt_of_lt_of_le hlt (by simp [Heap.push])
theorem oy (hc:X.calm=true):E2 X (.builtin "min") (fun xs H Q=>∃ (p:Addr) (ns:List Int),xs = [.ref p]/\(H p=some (.lst (ns.map V.int))\/H p=some (.tup (ns.map V.int)))/\0<ns.length/\Q (.int (U6 ns)) H):=by
 intro pins s σ H xs us Q I r h
 obtain ⟨p,ns,rfl,hp,hn,q⟩:=h
 obtain ⟨u,rfl,rx⟩:=L4 r
 cases rx
 have hd:X.A.in1.handled=none:=I.ok.hd hc
 rcases hp with hp | hp
 ·obtain ⟨its,rv,hl,hlen,hne,Wk⟩:=T0 I hc hp
  rw [List.length_map] at hlen
  obtain ⟨o,e,_⟩:=id hl
  refine call_min_walk (wpAny_pyIter_list hl ⟨_,_,_,_,_,_,_,rfl,Wk,⟨⟨_,Heap.get?_push_size _ rfl,rfl,rfl⟩,hl.push _⟩,lt2 e,by omega,ow rv,fun v h' tk hv hk=>?_⟩)
  obtain ⟨t,rfl⟩:=int_at rv hv
  rw [<- hlen]
  exact ⟨.int (U6 ns),H,I.kept (t':=tk) (J5 hk),⟨t,rfl⟩,q⟩
 ·obtain ⟨its,rv,pl,hz⟩:=I.tuple (SqT.of hp)
  have hlen:ns.length=its.toArray.size:=by rw [List.size_toArray,<- rv.length,List.length_map]
  have ht:s.heap.IsTuple p its.toArray:=pl
  obtain ⟨o,e,_⟩:=id ht
  have hne:p≠s.heap.objs.size:=Nat.ne_of_lt (Heap.lt_size e)
  refine call_min_walk (wpAny_pyIter_tuple ht ⟨_,_,_,_,_,_,_,rfl,Walks.tuple hd _ p hne its.toArray,⟨⟨_,Heap.get?_push_size _ rfl,rfl,rfl⟩,ht.push _⟩,lt2 e,by omega,ow rv,fun v h' tk hv hk=>?_⟩)
  obtain ⟨t,rfl⟩:=int_at rv hv
  rw [<- hlen]
  exact ⟨.int (U6 ns),H,I.kept (t':=tk) (J5 hk),⟨t,rfl⟩,q⟩
theorem oz (hc:X.calm=true):E2 X (.builtin "max") (fun xs H Q=>∃ (p:Addr) (ns:List Int),xs = [.ref p]/\(H p=some (.lst (ns.map V.int))\/H p=some (.tup (ns.map V.int)))/\0<ns.length/\Q (.int (Q8 ns)) H):=by
 intro pins s σ H xs us Q I r h
 obtain ⟨p,ns,rfl,hp,hn,q⟩:=h
 obtain ⟨u,rfl,rx⟩:=L4 r
 cases rx
 have hd:X.A.in1.handled=none:=I.ok.hd hc
 rcases hp with hp | hp
 ·obtain ⟨its,rv,hl,hlen,hne,Wk⟩:=T0 I hc hp
  rw [List.length_map] at hlen
  obtain ⟨o,e,_⟩:=id hl
  refine call_max_walk (wpAny_pyIter_list hl ⟨_,_,_,_,_,_,_,rfl,Wk,⟨⟨_,Heap.get?_push_size _ rfl,rfl,rfl⟩,hl.push _⟩,lt2 e,by omega,cmp_gt rv,fun v h' tk hv hk=>?_⟩)
  obtain ⟨t,rfl⟩:=int_at rv hv
  rw [<- hlen]
  exact ⟨.int (Q8 ns),H,I.kept (t':=tk) (J5 hk),⟨t,rfl⟩,q⟩
 ·obtain ⟨its,rv,pl,hz⟩:=I.tuple (SqT.of hp)
  have hlen:ns.length=its.toArray.size:=by rw [List.size_toArray,<- rv.length,List.length_map]
  have ht:s.heap.IsTuple p its.toArray:=pl
  obtain ⟨o,e,_⟩:=id ht
  have hne:p≠s.heap.objs.size:=Nat.ne_of_lt (Heap.lt_size e)
  refine call_max_walk (wpAny_pyIter_tuple ht ⟨_,_,_,_,_,_,_,rfl,Walks.tuple hd _ p hne its.toArray,⟨⟨_,Heap.get?_push_size _ rfl,rfl,rfl⟩,ht.push _⟩,lt2 e,by omega,cmp_gt rv,fun v h' tk hv hk=>?_⟩)
  obtain ⟨t,rfl⟩:=int_at rv hv
  rw [<- hlen]
  exact ⟨.int (Q8 ns),H,I.kept (t':=tk) (J5 hk),⟨t,rfl⟩,q⟩
end
def wW:W->Option (List Int)
 | .lst ws=>v5 ws
 | .tup ws=>v5 ws
 | _=>none
def U2 (g:List Int->Int):List W->R W
 | [w]=>toR (wW w)>>=fun ns=>if 0<ns.length then .ok (.int (g ns)) else .stuck
 | _=>.stuck
theorem oJ {K:Frag} {d:Mode} {g:List Int->Int}:Cal K .B d (fun xs H Q=>∃ (p:Addr) (ns:List Int),xs = [.ref p]/\(H p=some (.lst (ns.map V.int))\/H p=some (.tup (ns.map V.int)))/\0<ns.length/\Q (.int (g ns)) H) (U2 g):=by
 intro EX H0 Hs G H ρ σ Ha vs ws Q I s m o
 unfold U2 at o
 split at o
 ·rename_i w
  cases m with
  | cons a t=>
   cases t
   cases q:wW w with
   | none=>rw [q] at o; exact o.elim
   | some ns=>
    rw [q] at o
    replace o:Out EX G H (mdW K d H0 Hs) (if 0<ns.length then R.ok (W.int (g ns)) else .stuck) Q:=o
    by_cases hn:0<ns.length
    ·rw [if_pos hn] at o
     cases w <;> first | cases q | skip
     ·obtain ⟨p,ys,rfl,hs,r⟩:=a.tupB I
      rw [Reps.ints r q] at hs
      exact ⟨p,ns,rfl,.inr hs,hn,o _ G H (Ext.refl I.gh) (Md.sca rfl (fun _=>.int) d)⟩
     ·obtain ⟨p,ys,rfl,hs,r⟩:=a.lstB I
      rw [Reps.ints r q] at hs
      exact ⟨p,ns,rfl,.inl hs,hn,o _ G H (Ext.refl I.gh) (Md.sca rfl (fun _=>.int) d)⟩
    ·rw [if_neg hn] at o; exact o.elim
 ·exact o.elim
end TP
namespace HT
open PySem PySem.Spec PyProof.Rows
theorem T9:typeLookup (.type "tuple") (dunderR "mul")=pure (some (.builtin "tuple.__rmul__")):=by rw [typeLookup_type,builtinLookup_eq_fast]; kernel_rfl
theorem noFill_tuple_mul:fillsNumberSlot (.type "tuple") "mul" = pure false:=
 PySem.fillsNumberSlot_seq (id := "tuple.__mul__") (r:=some (.builtin "tuple.__rmul__")) F.slot_tuple_mul.lookup (by decide +kernel) T9 (by decide +kernel)
theorem repeat_tuple:seqRepeat? (.type "tuple")=pure (some (.builtin "tuple.__mul__")):=by
 unfold seqRepeat?
 rw [PySem.seqSlot_of (T := "tuple") (name := "__mul__") (id := "tuple.__mul__") F.slot_tuple_mul.lookup (by decide +kernel),PySem.seqSlot_of (T := "tuple") (name := "__rmul__") (id := "tuple.__rmul__") T9 (by decide +kernel)]
 rfl
theorem rmul_declines (a:Int) (t:Tok) (l:Addr) (items:Array Value) (n:Nat) (dd:Option Addr) (sl:Array (Option Value)) :
  Meets (Builtin.«int.__rmul__» ⟨[.int a t,.ref l],[]⟩) (fun _ R s=>s.heap.get? l=some { cls:=.type "tuple",dict:=dd,data:=.seq items n,slots:=sl }/\R (.ok (.ret Value.notImplemented)) s):=
 .of_wp fun prog w A R s h=>by obtain ⟨hp,g,d,tk,os⟩:=s; obtain ⟨hl,h⟩:=h; wp_walk; exact ⟨_,rfl,h⟩
theorem tuple_mul1 (l:Addr) (items:Array Value) (n:Nat) (dd:Option Addr) (sl:Array (Option Value)) (u:Tok) :
  Meets (Builtin.«tuple.__mul__» ⟨[.ref l,.int 1 u],[]⟩) (fun _ R s=>s.heap.get? l=some { cls:=.type "tuple",dict:=dd,data:=.seq items n,slots:=sl }/\R (.ok (.ret (.ref l))) s):=
 .of_wp fun prog w A R s h=>by
  obtain ⟨hp,g,d,tk,os⟩:=s; obtain ⟨hl,h⟩:=h
  have f1:=AutoSeq1.idx_int
  wp_walk using wpAny_loadPart' hl; exact ⟨_,rfl,h⟩
theorem tuple_mul2 (l:Addr) (items:Array Value) (n:Nat) (dd:Option Addr) (sl:Array (Option Value)) (k:Int) (u:Tok) (hc:¬ (decide (k < -(2^63))||decide (k≥2^63))=true)
  (hi:¬ (items.isEmpty||k == 1)=true) (h0:¬ (decide (k<=0)||items.isEmpty)=true) (hm:¬ (items.size*k>(2^63-1)/8)) (hz:¬ Builtin.Tuple.tupleTooMany (items.size*k)=true) (hs0:((List.replicate k.toNat items).foldl (·++·) #[]).size<=sizeLine) :
  Meets (Builtin.«tuple.__mul__» ⟨[.ref l,.int k u],[]⟩) (fun _ R s=>s.heap.get? l=some { cls:=.type "tuple",dict:=dd,data:=.seq items n,slots:=sl }/\R (.ok (.ret (.ref s.heap.objs.size))) { s with heap:=s.heap.push { cls:=.type "tuple",data:=.seq ((List.replicate k.toNat items).foldl (·++·) #[]) } }):=
 .of_wp fun prog w A R s h=>by
  obtain ⟨hp,g,d,tk,os⟩:=s; obtain ⟨hl,h⟩:=h
  have f1:=AutoSeq1.idx_int
  wp_walk using wpAny_loadPart' hl
  rw [if_neg hc]
  wp_walk using wpAny_loadPart' hl
  rw [if_neg hm]
  wp_walk using wpAny_loadPart' hl
  exact ⟨_,rfl,h⟩
end HT
namespace TP
open PySem L2 PySem.Spec PyProof.Rows
theorem len_reps {α:Type} (xs:List α):∀ k:Nat,(List.replicate k xs).flatten.length=k*xs.length
 | 0=>by simp
 | k+1=>by rw [List.replicate_succ,List.flatten_cons,List.length_append,len_reps xs k,Nat.succ_mul,Nat.add_comm]
theorem dH (its:List Value):∀ (m:Nat) (acc:List Value),List.foldl (fun x1 x2=>x1++x2) acc.toArray (List.replicate m its.toArray)=(acc++(List.replicate m its).flatten).toArray
 | 0,acc=>by simp
 | m+1,acc=>by rw [List.replicate_succ,List.foldl_cons,List.append_toArray,dH its m (acc++its),List.replicate_succ,List.flatten_cons,List.append_assoc]
def rZ (K:Frag):R2:=fun x y H Q=>∃ a k xs,x=.ref a/\y=.int k/\SqT K H a xs/\xs ≠ []/\1<=k/\k<2^63/\xs.length*k.toNat<=sizeLine /\
 (k=1->Q (.ref a) H)/\(k≠1->∀ l,H l=none->Q (.ref l) (upd H l (.tup (List.replicate k.toNat xs).flatten)))
variable {X:Cx} {K:Frag}
theorem jJ (hK:X.K=K:=by rfl):OpR X (binaryOp .Mult) (rZ K):=by
 subst hK
 intro pins s σ H x y v u Q I rx ry h
 obtain ⟨l,k,xs,rfl,rfl,hH,hne,h1,h2,hz,q1,q2⟩:=h
 cases rx
 obtain ⟨t,rfl⟩:=ry
 obtain ⟨its,r,p,_⟩:=I.tuple hH
 obtain ⟨⟨cls,dd,data,sl⟩,ho,hc,n,hd⟩:=id p
 simp only at hc hd
 subst hc hd
 have hin:its ≠ []:=fun z=>hne (r.nil_iff.mp z)
 refine wpAny_binaryOp_repeat_ref (T := "tuple") (U := "int") (by decide) ⟨_,ho,rfl⟩ (fun s'=>typeIs_int s' k t) HT.noFill_tuple_mul F.fills_int_mul F.slot_int_rmul HT.repeat_tuple F.slot_int_index.lookup
  (call_meets F.slot_int_rmul (typeIs_int s k t) F.entry_int_rmul (F.args_int_rmul_2 _ _) (HT.rmul_declines k t l its.toArray n dd sl)
   ⟨ho,rfl,⟨_,ho,rfl⟩,?_⟩)
 by_cases e:k=1
 ·subst e
  exact call_meets F.slot_tuple_mul ⟨_,ho,rfl⟩ F.entry_tuple_mul (F.args_tuple_mul_2 _ _) (HT.tuple_mul1 l its.toArray n dd sl t) ⟨ho,.ref l,H,I,rfl,q1 rfl⟩
 ·have hnew:List.foldl (fun x1 x2=>x1++x2) #[] (List.replicate k.toNat its.toArray)=(List.replicate k.toNat its).flatten.toArray:=by
   have:=dH its k.toNat []
   rw [List.nil_append] at this
   exact this
  have hlen:its.length*k.toNat<=sizeLine:=by rw [<- r.length]; exact hz
  have hsz:(its.toArray.size:Int)*k<=(sizeLine:Nat):=by
   have e2:((its.length*k.toNat:Nat):Int)=(its.toArray.size:Int)*k:=by
    rw [Int.natCast_mul,Int.toNat_of_nonneg (by omega),List.size_toArray]
   rw [<- e2]; exact_mod_cast hlen
  have hcap:((sizeLine:Nat):Int)<=(2^63-1)/8:=by decide
  refine call_meets F.slot_tuple_mul ⟨_,ho,rfl⟩ F.entry_tuple_mul (F.args_tuple_mul_2 _ _) (HT.tuple_mul2 l its.toArray n dd sl k t ?_ ?_ ?_ ?_ ?_ ?_) ⟨ho,?_⟩
  ·simp only [Bool.or_eq_true,decide_eq_true_eq]; omega
  ·simp [hin,e]
  ·simp only [Bool.or_eq_true,decide_eq_true_eq]
   rintro (z | z)
   ·omega
   ·simp [hin] at z
  ·omega
  ·simp only [Builtin.Tuple.tupleTooMany,decide_eq_true_eq]; omega
  ·rw [hnew,List.size_toArray,len_reps,Nat.mul_comm]; exact hlen
  ·rw [hnew]
   refine ⟨.ref s.heap.objs.size,_,I.laid (t':=s.toks) (o:=.tup (List.replicate k.toNat xs).flatten) (fun b ob q=>Heap.get?_push_of_some _ q) (Nat.le_refl _) ?_,rfl,q2 e _ (I.hok.fresh (Nat.le_refl _))⟩
   exact ⟨by rw [len_reps,Nat.mul_comm]; exact hz,_,r.rep k.toNat,IsTup.new _ _⟩
def fRepT:W->W->R W
 | .tup us,.int k=>if us ≠ []/\us.length*k.toNat<=1000/\1<=k/\k<=1000 then .ok (.tup (List.replicate k.toNat us).flatten) else .stuck
 | _,_=>.stuck
theorem jL:Op2 K .C .F (rZ K) fRepT:=by
 intro EX H0 Hs G H ρ σ Ha Hb x y u v Q I s mx my o
 cases u <;> first | exact o.elim | skip
 all_goals (cases v <;> first | exact o.elim | skip)
 rename_i us k
 replace o:Out EX G H (mdW K .F H0 Hs) (if us ≠ []/\us.length*k.toNat<=1000/\1<=k/\k<=1000 then .ok (.tup (List.replicate k.toNat us).flatten) else .stuck) Q:=o
 by_cases hn:us ≠ []/\us.length*k.toNat<=1000/\1<=k/\k<=1000
 ·rw [if_pos hn] at o
  obtain ⟨hne,hz,h1,h2⟩:=hn
  have hy:y=.int k:=Md.intB (Md.CB (H:=Hb) I my)
  subst hy
  obtain ⟨a,vs,rfl,h,r⟩:=(Md.repC mx fun _=>W.noConfusion).inv
  refine ⟨_,k,_,rfl,rfl,SqT.of (I.gh _ _ h),?_,h1,by omega,by rw [r.length]; exact P9 hz,?_,?_⟩
  ·intro z
   have:=r.length
   rw [z] at this
   exact hne (List.eq_nil_of_length_eq_zero this.symm)
  ·intro e
   subst e
   refine o _ G H (Ext.refl I.gh) (.tup h ?_)
   simpa using r
  ·intro _ l hl
   exact Out.newTF I (r.rep _) hl o
 ·rw [if_neg hn] at o; exact o.elim
end TP
namespace TP
open PySem PySem.W PyProof.Rows
section
variable (r:Nat->Int)
def ky (p:Array Nat) (k:Nat):Int:=r (p.getD k 0)
def up (p:Array Nat) (n:Nat):Prop:=∀ k,k+1<n->ky r p k<=ky r p (k+1)
end
end TP
namespace TP
open PySem L2
section
variable {prog:Program} {w:World} {A:Around} {E:Value->Shared->Prop} {s:Shared}
theorem fu (hh:A.handled=none) (u:Sub) (hne:u.l≠u.i) (its:Array Value) :
  Draws prog w A u.i [u.i,u.l] its.size (fun i v=>its[i]?=some v) (fun i h=>u.At h i/\u.Src h its) where
 live:=fun _ _ st=>by obtain ⟨o,e,_⟩:=st.1.obj; exact ⟨o,e⟩
 frame:=fun _ _ _ st hk=>⟨st.1.keep fun o e=>hk u.i (by simp) o e,st.2.keep fun o e=>hk u.l (by simp) o e⟩
 item:=fun i s Q E hi st hQ=>Sub.item st.1 st.2 (x:=its[i]) (by simp [hi]) fun h' a sb=>hQ _ h' s.toks (by simp [hi]) ⟨a,st.2.keep fun o e=>sb.extBut _ _ hne e⟩ sb
 done:=fun s Q E st hE=>Sub.ends hh st.1 st.2 (by simp) hE
theorem jl (l:Addr) (its:Array Value) (m:Nat) (dct:Option Addr) (sl:Array (Option Value)) :
  Meets (Builtin.«enumerate.__new__» ⟨[.type "enumerate",.ref l],[]⟩) (fun _ R s=>s.heap.get? l=some { cls:=.type "tuple",dict:=dct,data:=.seq its m,slots:=sl } /\
   R (.ok (.ret (.ref (s.heap.push { cls:=.type "tuple_iterator",data:=.fields #[.ref l,.int 0 0] }).objs.size)))
    { s with heap:=(s.heap.push { cls:=.type "tuple_iterator",data:=.fields #[.ref l,.int 0 0] }).push { cls:=.type "enumerate",data:=.fields #[.none,.bool false,.ref s.heap.objs.size,rawInt 0,.none,.none] } }):=
 .of_wp fun prog w A R s hyp=>by
  obtain ⟨hp,g,d,tk,os⟩:=s; obtain ⟨hl,hyp⟩:=hyp
  have hsb:=sub_enumerate
  have hT:Heap.IsTuple (Shared.heap ⟨hp,g,d,tk,os⟩) l its:=⟨_,hl,rfl,m,rfl⟩
  wp_walk using AutoSeq1.wpAny_loadPart' hl
  refine wpAny_stack_any fun stk=>wpAny_pure ?_
  split
  ·rename_i cc _ _ _ _ _
   cases (cc == Value.type "enumerate") <;>
   ·wp_walk using AutoSeq1.wpAny_loadPart' hl,wpAny_pyIter_tuple hT
    exact ⟨_,rfl,hyp⟩
  ·wp_walk using AutoSeq1.wpAny_loadPart' hl,wpAny_pyIter_tuple hT
   exact ⟨_,rfl,hyp⟩
theorem lw {l:Addr} {its:Array Value} {Q:Value->Shared->Prop} (hL:s.heap.IsTuple l its)
  (hyp:∀ h',IsEnum h' (s.heap.objs.size+1) s.heap.objs.size 0 .none->h'.IsTupleIter s.heap.objs.size l 0->(∀ b o,s.heap.get? b=some o->h'.get? b=some o)->Q (.ref (s.heap.objs.size+1)) { s with heap:=h' }) :
  wpAny (model prog w) A (call (.type "enumerate") [.ref l]) Q E s:=by
 obtain ⟨⟨c,dct,dt,sl⟩,hl,hc,m,hd⟩:=hL
 have hc':c=.type "tuple" := hc; have hd':dt=.seq its m:=hd; subst hc' hd'
 refine callType_new F.called_enumerate (by decide) (F.typeCall_enumerate_1 _) (F.newCall_enumerate_1 _) (fun obj=>F.args_object_init_2 obj _) F.entry_enumerate_new (jl l its m dct sl) ⟨hl,?_⟩
 generalize hP:s.heap.push { cls:=.type "tuple_iterator",data:=.fields #[.ref l,.int 0 0] }=P
 have hz:P.objs.size=s.heap.objs.size+1:=by rw [<- hP]; exact Heap.size_push ..
 have hi:P.get? s.heap.objs.size=some { cls:=.type "tuple_iterator",data:=.fields #[.ref l,.int 0 0] }:=by rw [<- hP]; exact Heap.get?_push_size _ rfl
 have hk:∀ b o,s.heap.get? b=some o->P.get? b=some o:=fun b o e=>by rw [<- hP]; exact Heap.get?_push_of_some _ e
 show _/\_
 have en:IsEnum (P.push { cls:=.type "enumerate",data:=.fields #[.none,.bool false,.ref s.heap.objs.size,rawInt 0,.none,.none] }) (s.heap.objs.size+1) s.heap.objs.size 0 .none:=by rw [<- hz]; exact Heap.get?_push_size _ rfl
 rw [hz]
 exact ⟨⟨_,en,rfl⟩,hyp _ en ⟨_,Heap.get?_push_of_some _ hi,rfl,rfl⟩ fun b o e=>Heap.get?_push_of_some _ (hk b o e)⟩
theorem oA {t:Bool} {l:Addr} {its:Array Value} {Q:Value->Shared->Prop} (hL:SrcAt s.heap (t,l,its))
  (hyp:∀ h',IsEnum h' (s.heap.objs.size+1) s.heap.objs.size 0 .none->(L2.Sub.mk t s.heap.objs.size l).At h' 0->(∀ b o,s.heap.get? b=some o->h'.get? b=some o)->Q (.ref (s.heap.objs.size+1)) { s with heap:=h' }) :
  wpAny (model prog w) A (call (.type "enumerate") [.ref l]) Q E s:=by
 unfold SrcAt at hL
 cases t with
 | true=>exact lw hL fun h' a b c=>hyp h' a (by unfold Sub.At; exact b) c
 | false=>exact call_enumerate_list hL fun h' a b _ c=>hyp h' a (by unfold Sub.At; exact b) c
end
def ItE (K:Frag) (t:Bool) (a:Addr):It:=
  ⟨fun i H=>∃ xs x,Sq K H t a xs/\xs[i]?=some x,
   fun i H x H'=>∃ p y,x=.ref p/\H p=none/\H'=upd H p (.tup [.int (i:Int),y])/\∀ xs,Sq K H t a xs->xs[i]?=some y,
   fun i H=>∃ xs,Sq K H t a xs/\xs.length=i⟩
abbrev eTn (e:Addr) (u:Sub) (i:Nat) (h:Heap):Prop:=(∃ old,IsEnum h e u.i (i:Int) old)/\u.At h i
theorem lR {P:Program} {w:World} {K:Frag} {elts:List Expr} {k:Nat} {tp:Pos} {e:Addr} {u:Sub} (hne:e≠u.i) :
  Turn P w K (.Tuple elts k tp) (ItE K u.t u.l) [e,u.i] e (eTn e u) where
 mem:=by simp
 obj:=fun i h st b hb=>by
  obtain ⟨⟨old,he⟩,ha⟩:=st
  simp only [List.mem_cons,List.not_mem_nil,or_false] at hb
  rcases hb with rfl | rfl
  ·exact ⟨_,he,fun v q=>by cases q⟩
  ·obtain ⟨o,q,d⟩:=ha.obj
   exact ⟨o,q,fun v z=>by rw [d] at z; cases z⟩
 keep:=fun i h h' st kp=>⟨st.1.imp fun old he=>kp e (by simp) _ he,st.2.keep fun o q=>kp u.i (by simp) o q⟩
 item:=by
  intro X hP hw hK hc i pins s σ H E I hf st hg
  subst hP hw hK
  obtain ⟨⟨old,he⟩,ha⟩:=st
  obtain ⟨xs,x,hq,hx⟩:=hg
  obtain ⟨its,rv,hsrc⟩:=Sq.src I hq
  obtain ⟨v,hv,rx⟩:=rv.get hx
  have fe:=hf e (by simp)
  have fi:=hf u.i (by simp)
  have hli:u.l≠u.i:=Sq.ne I hq fi
  have hle:u.l≠e:=Sq.ne I hq fe
  have hi:i<its.toArray.size:=by have:=(List.getElem?_eq_some_iff.mp hv).1; simpa using this
  refine wpAny_pyNext_enum_itemD (fu (prog:=X.prog) (w:=X.w) (show X.A.in1.handled=none from I.ok.hd hc) u hli its.toArray) he ⟨ha,hsrc⟩ hi hne (by simp only [List.mem_cons,List.not_mem_nil,or_false,not_or]; exact ⟨hne,Ne.symm hle⟩) fun y h1 tk hy z1 s1 p1 z2 k1=>?_
  have ey:y=v:=by
   have e1:its[i]?=some y:=by simpa using hy
   rw [hv] at e1; cases e1; rfl
  subst ey
  refine ⟨_,rfl,wpAny_letOwnedTupleGo_enum z1 fun h2 e2 sb2=>?_⟩
  have hzl:e<s.heap.objs.size:=Heap.lt_size he
  have hil:u.i<s.heap.objs.size:=by obtain ⟨o,q,_⟩:=ha.obj; exact Heap.lt_size q
  have kp:∀ b o,b≠e->b≠u.i->s.heap.get? b=some o->h2.get? b=some o:=fun b o b1 b2 q=>sb2.extBut _ _ b1 (k1 b o b1 b2 q)
  have hfr:H s.heap.objs.size=none:=I.hok.fresh (Nat.le_refl _)
  have trk:∀ b c,H b=some c->b≠e/\b≠u.i:=fun b c q=>⟨fun z=>(by subst z; rw [fe.1] at q; cases q),fun z=>(by subst z; rw [fi.1] at q; cases q)⟩
  have hP2:h2.get? s.heap.objs.size=some { cls:=.type "tuple",data:=.seq #[.int i tk,y] }:=sb2.extBut _ _ (Nat.ne_of_gt hzl) p1
  have rel:Vals [.int (i:Int),x] [.int i tk,y]:=.cons ⟨tk,rfl⟩ (.cons rx .nil)
  refine ⟨.ref s.heap.objs.size,upd H s.heap.objs.size (.tup [.int (i:Int),x]),?_,rfl,⟨_,_,rfl,hfr,rfl,?_⟩,⟨⟨y,?_⟩,?_⟩,fun b hb=>?_⟩
  ·show Inv X pins σ _ { s with heap:=h2,toks:=tk+1 }
   refine I.step (g':=s.gens) (t':=tk+1) (d':=s.drawn) (ch:=[e,u.i]) (fun b hb=>?_) (fun b o _ _ hc q _=>kp b o ?_ ?_ q) (fun b o _ _ hc q _=>⟨o.slots,kp b o ?_ ?_ q⟩) (fun b o hc q n=>?_) (fun b o hc q=>⟨o,kp b o ?_ ?_ q⟩) (fun b ys q=>?_) (fun b o c q=>?_) (fun b ps q=>?_) (fun m hm=>?_) ?_ I.bare
   ·simp only [List.mem_cons,List.not_mem_nil,or_false] at hb
    rcases hb with rfl | rfl
    ·exact ⟨fe.2.2.2.1,fe.2.1,fe.2.2.2.2.1,fe.2.2.2.2.2⟩
    ·exact ⟨fi.2.2.2.1,fi.2.1,fi.2.2.2.2.1,fi.2.2.2.2.2⟩
   all_goals first
    | (intro z; exact hc (by simp [z]; done))
    | skip
   ·rw [d8 (Nat.ne_of_lt (Heap.lt_size q))]; exact n
   ·rw [d8 (f7 q hfr)]; exact q
   ·rw [d8 (f7 q hfr)]; exact q
   ·rw [d8 (f7 q hfr)]; exact q
   ·obtain ⟨o,es,ep,ho,r⟩:=hm
    exact ⟨o,es,ep,kp _ o (Ne.symm fe.2.1) (Ne.symm fi.2.1) ho,r⟩
   ·intro b c q
    by_cases hb:b=s.heap.objs.size
    ·subst hb
     rw [i7] at q; cases q
     exact ⟨(show 2<=sizeLine by decide),_,rel,⟨_,hP2,rfl,_,rfl⟩⟩
    ·rw [d8 hb] at q
     refine (I.hok b c q).stay (fun d v hcc z=>?_) (fun d z=>by rw [d8 (f7 z hfr)]; exact z) fun d ys z=>by rw [d8 (f7 z hfr)]; exact z
     rcases hcc with rfl | hcc
     ·exact kp _ v (trk _ _ q).1 (trk _ _ q).2 z
     ·exact kp _ v (trk _ _ hcc).1 (trk _ _ hcc).2 z
  ·intro ys hy2
   rw [Sq.inj I hy2 hq]; exact hx
  ·have:((i+1:Nat):Int)=(i:Int)+1:=by omega
   rw [this]; exact e2
  ·exact s1.1.keep fun o q=>sb2.extBut _ _ (Ne.symm hne) q
  ·have:b≠s.heap.objs.size:=by
    simp only [List.mem_cons,List.not_mem_nil,or_false] at hb
    rcases hb with rfl | rfl
    ·exact Nat.ne_of_lt hzl
    ·exact Nat.ne_of_lt hil
   rw [d8 this]
   exact (hf b hb).1
 done:=by
  intro X hP hw hK hc i pins s σ H E I hf st hg
  subst hP hw hK
  obtain ⟨⟨old,he⟩,ha⟩:=st
  obtain ⟨xs,hq,hn⟩:=hg
  obtain ⟨its,rv,hsrc⟩:=Sq.src I hq
  have fe:=hf e (by simp)
  have fi:=hf u.i (by simp)
  have hli:u.l≠u.i:=Sq.ne I hq fi
  have hsz:its.toArray.size=i:=by have:=rv.length; simp; omega
  subst hsz
  refine wpAny_pyNext_enum_endD (fu (prog:=X.prog) (w:=X.w) (show X.A.in1.handled=none from I.ok.hd hc) u hli its.toArray) he ⟨ha,hsrc⟩ fun h' eb=>⟨rfl,?_⟩
  obtain ⟨f0,f1,f2,f3,f4,f5⟩:=fi
  exact I.turned (t':=s.toks) (fun b o hb q=>eb b o hb q) f0 f1 f3 f4 f5
 self:=fun A i s Q E st h=>by
  obtain ⟨⟨old,he⟩,_⟩:=st
  exact wpAny_pyIter_enum he h
def sx (K:Frag) (ta:TA):TI:=fun σ H R=>ta σ H fun vs H1=>∃ t a xs,vs = [.ref a]/\Sq K H1 t a xs/\R (ItE K t a) H1
theorem iS:bootBuiltins "enumerate" = some (.type "enumerate"):=by decide +kernel
section
variable {X:Cx}
theorem jH {a:Expr} {elts:List Expr} {ta:TA} {p pos tp:Pos} {k:Nat} (hg:Gl X "enumerate") (hm:X.mg "enumerate" = none) (ha:PA X [a] ta) (hs:starEach [a] X.env = [(false,eval a X.env)]:=by rfl):PI X (.Tuple elts k tp) (.Call (.Name "enumerate" p) [a] [] pos) (sx X.K ta):=by
 intro pins s σ H R I h
 refine wpAny_Call_Name_kw (K7 I hg hm iS ?_ (by decide) (by decide))
 refine PyProof.Rows.callWith_type1 (thn (ha pos pins s σ H _ I h) fun us s1 zz86=>?_) hs (by rfl)
 obtain ⟨vs,H1,I1,r1,t,b,xs,e1,hq,q⟩:=zz86
 subst e1
 obtain ⟨u,rfl,ru⟩:=L4 r1
 cases ru
 obtain ⟨its,rv,hsrc⟩:=Sq.src I1 hq
 refine oA (t:=t) (its:=its.toArray) (by unfold SrcAt; unfold Sub.Src at hsrc; exact hsrc) fun h' he hA hk=>wpAny_pyIter_enum he ?_
 have I2:Inv X pins σ H1 { s1 with heap:=h' }:=I1.kept (t':=s1.toks) hk
 have TE:=lR (P:=X.prog) (w:=X.w) (K:=X.K) (elts:=elts) (k:=k) (tp:=tp) (e:=s1.heap.objs.size+1) (u:=⟨t,s1.heap.objs.size,b⟩) (neN (by show s1.heap.objs.size+1≠s1.heap.objs.size; omega))
 refine ⟨_,_,_,_,H1,rfl,I2,TE,⟨⟨_,he⟩,hA⟩,fun c hc=>?_,q⟩
 have hb':s1.heap.objs.size<=c:=by
  simp only [List.mem_cons,List.not_mem_nil,or_false] at hc
  rcases hc with rfl | rfl
  ·omega
  ·exact Nat.le_refl _
 exact I1.fpOk (H':=H1) hb' (I1.hok.fresh hb')
end
def L1:List W->R (List W)
 | [w]=>match B6 w with
  | .ok xs=>.ok (xs.mapIdx fun i x=>W.tup [.int (i:Int),x])
  | _=>.stuck
 | _=>.stuck
section
variable {K:Frag} {EX:EXT} {H0 G H:Hp} {ρ:Rho} {σ:St}
theorem nN {e:Mode} {Z:Hp} {t:Bool} {a:Addr} {xs:List V} {us:List W} (he:e=.V\/e=.U) (s1:Sq K Z t a xs) (r1:Reps K (fz e H0 G) xs us):bH K e H0 Z G (ItE K t a) (us.mapIdx fun i x=>W.tup [.int (i:Int),x]):=by
 have l1:=r1.length
 have hq:∀ H,Same Z H->Sq K H t a xs:=fun H z=>Sq.same z s1
 refine ⟨fun i H hi z=>?_,fun H z=>⟨xs,hq H z,by rw [List.length_mapIdx,l1]⟩,fun i H x H' w hw z y G2 ρ σ I sg=>?_⟩
 ·rw [List.length_mapIdx] at hi
  exact ⟨xs,xs[i]'(by omega),hq H z,by simp⟩
 ·obtain ⟨p,y1,rfl,hp,rfl,hy⟩:=y
  obtain ⟨w1,e1,q1⟩:=Reps.get' r1 (hy xs (hq H z))
  have hw':w=.tup [.int (i:Int),w1]:=by
   rw [List.getElem?_mapIdx,e1] at hw
   cases hw; rfl
  subst hw'
  obtain ⟨x1,x2⟩:=eh (Hs:=H) he I hp (.cons .int (.cons (q1.same (J7 sg)) .nil))
  exact ⟨_,x1,x2⟩
theorem oC {lp:Bool} {e:Mode} {ma:Rho->R (List W)} {Rr:It->Hp->Prop} (he:e=.V\/e=.U) (h:tIt K EX lp e (fun ρ=>ma ρ>>=L1) σ H Rr):sx K (tA K EX (dY lp e) ma) σ H Rr:=by
 refine cI h (fun H0 G ρ G1 H1 xs ws us I e1 m1 q o=>?_) (fun ws e z=>?_)
 ·have I1:=I.ext e1
  unfold L1 at q
  split at q
  ·rename_i w
   cases hw:B6 w with
   | stuck=>rw [hw] at q; cases q
   | ex _=>rw [hw] at q; cases q
   | ok ls=>
    rw [hw] at q
    cases q
    cases m1 with
    | cons a1 m1=>
     cases m1
     obtain ⟨t1,p1,v1,rfl,q1,r1⟩:=Md.src he I1 a1 hw
     exact ⟨t1,p1,v1,rfl,D5 (ip I1) q1,o _ G1 H1 e1 (nN he q1 r1)⟩
  ·cases q
 ·unfold L1 at z
  split at z
  ·split at z <;> cases z
  ·cases z
end
section
variable {X:Cx} {K:Frag} {EX:EXT} {a:Expr} {pos:Pos} {mr:Rho->R (List W)}
theorem mO {elts:List Expr} {p tp:Pos} {k:Nat} (hg:Gl X "enumerate") (hm:X.mg "enumerate" = none) (ha:PA X [a] (tA K EX .B mr)) (hK:X.K=K:=by rfl) (hs:starEach [a] X.env = [(false,eval a X.env)]:=by rfl):PI X (.Tuple elts k tp) (.Call (.Name "enumerate" p) [a] [] pos) (tIt K EX false .U (bI L1 mr)):=by
 subst hK; exact (jH hg hm ha hs).mono fun _ _ _ q=>oC (lp:=false) (.inr rfl) q
theorem gG {elts:List Expr} {p tp:Pos} {k:Nat} (hg:Gl X "enumerate") (hm:X.mg "enumerate" = none) (ha:PA X [a] (tA K EX .U mr)) (hK:X.K=K:=by rfl) (hs:starEach [a] X.env = [(false,eval a X.env)]:=by rfl):PI X (.Tuple elts k tp) (.Call (.Name "enumerate" p) [a] [] pos) (tIt K EX true .U (bI L1 mr)):=by
 subst hK; exact (jH hg hm ha hs).mono fun _ _ _ q=>oC (lp:=true) (.inr rfl) q
end
def inW (u:W):W->Option Bool
 | .tup ws=>some ((pds ws).any fun y=>PyData.eqv y (pd u))
 | .lst ws=>some ((pds ws).any fun y=>PyData.eqv y (pd u))
 | .scr ws=>some ((pds ws).any fun y=>PyData.eqv y (pd u))
 | _=>none
def rIn (K:Frag) (neg:Bool):R2:=fun x y H Q=>∃ u v b,Rep K H x u/\Rep K H y v/\shp 8 u=true/\shp 8 v=true/\inW u v=some b/\Q (.bl (if neg then !b else b)) H
section
variable {X:Cx}
theorem BH (hu:X.A.units+64<cLine):OpR X (compareOp .In) (rIn X.K false):=by
 intro pins s σ H x y v u Q I rx ry h
 obtain ⟨a,c,b,ra,rc,sa,sc,e,q⟩:=h
 obtain ⟨as,qa⟩:=Rep.reads I 8 ra sa rx
 obtain ⟨bs,qb⟩:=Rep.reads I 8 rc sc ry
 have la:=aJ a 8 sa
 cases c <;> first | (cases e; done) | skip
 all_goals
  rename_i ws
  have lc:=dZ ws 7 sc
  have hm:X.A.units+1+min (PyData.depthAll (pds ws)) (pd a).depth<cLine:=by have:=Nat.min_le_left (PyData.depthAll (pds ws)) (pd a).depth; omega
  cases e
 ·exact SeqAt.in_tuple_reads qb qa lc.1 la.1 hm ⟨.bl _,H,I,rfl,q⟩
 ·exact SeqAt.in_list_reads qb qa lc.1 la.1 hm ⟨.bl _,H,I,rfl,q⟩
 ·exact SeqAt.in_list_reads qb qa lc.1 la.1 hm ⟨.bl _,H,I,rfl,q⟩
theorem ng (hu:X.A.units+64<cLine):OpR X (compareOp .NotIn) (rIn X.K true):=by
 intro pins s σ H x y v u Q I rx ry h
 obtain ⟨a,c,b,ra,rc,sa,sc,e,q⟩:=h
 obtain ⟨as,qa⟩:=Rep.reads I 8 ra sa rx
 obtain ⟨bs,qb⟩:=Rep.reads I 8 rc sc ry
 have la:=aJ a 8 sa
 cases c <;> first | (cases e; done) | skip
 all_goals
  rename_i ws
  have lc:=dZ ws 7 sc
  have hm:X.A.units+1+min (PyData.depthAll (pds ws)) (pd a).depth<cLine:=by have:=Nat.min_le_left (PyData.depthAll (pds ws)) (pd a).depth; omega
  cases e
 ·exact SeqAt.notIn_tuple_reads qb qa lc.1 la.1 hm ⟨.bl _,H,I,rfl,q⟩
 ·exact SeqAt.notIn_list_reads qb qa lc.1 la.1 hm ⟨.bl _,H,I,rfl,q⟩
 ·exact SeqAt.notIn_list_reads qb qa lc.1 la.1 hm ⟨.bl _,H,I,rfl,q⟩
end
def fIn (neg:Bool) (u v:W):R W:=if shp 8 u&&shp 8 v then (match inW u v with
 | some b=>.ok (.bl (if neg then !b else b))
 | none=>.stuck) else .stuck
theorem kN {K:Frag} {d:Mode} {neg:Bool}:Op2 K .B d (rIn K neg) (fIn neg):=by
 intro EX H0 Hs G H ρ σ Ha Hb x y u v Q I s mx my o
 unfold fIn at o
 by_cases c:(shp 8 u&&shp 8 v)=true
 ·rw [if_pos c] at o
  have c':shp 8 u=true/\shp 8 v=true:=by simpa using c
  cases hb:inW u v with
  | none=>rw [hb] at o; exact o.elim
  | some b=>
   rw [hb] at o
   exact ⟨u,v,b,mx.whole I,my.whole I,c'.1,c'.2,hb,o _ G H (Ext.refl I.gh) (Md.sca rfl (fun _=>.bl) d)⟩
 ·rw [if_neg c] at o; exact o.elim
end TP
namespace TP
open PySem L2
def lexLt:List Int->List Int->Bool
 | [],[]=>false
 | [],_::_=>true
 | _::_,[]=>false
 | a::as,b::bs=>if a=b then lexLt as bs else decide (a<b)
def Bq (ss:List (List Int)) (i:Nat):Int:=((ss.countP fun x=>lexLt x (ss.getD i [])):Nat)
def allLt (n:Nat) (p:Array Nat):Prop:=∀ x∈p,x<n
section
open PySem.W PyProof.Rows
variable {n:Nat} (h0:0<n)
include h0
end
section
open PySem.W PyProof.Rows
variable {prog:Program} {w:World} {A:Around} {E:Value->Shared->Prop} {s:Shared}
end
section
open PySem.W PyProof.Rows
variable {prog:Program} {w:World} {A:Around} {E:Value->Shared->Prop} {s:Shared}
end
section
variable {X:Cx} {K:Frag}
end
section
variable {K:Frag}
end
end TP
namespace TP
open PySem L2
set_option maxHeartbeats 2000000
theorem pb (l b:Addr) (its2:Array Value) (m m2:Nat) (dd dd2:Option Addr) (sl sl2:Array (Option Value)) :
  Meets (Builtin.«tuple.__add__» ⟨[.ref l,.ref b],[]⟩) (fun _ R s=>s.heap.get? l=some { cls:=.type "tuple",dict:=dd,data:=.seq #[] m,slots:=sl }/\s.heap.get? b=some { cls:=.type "tuple",dict:=dd2,data:=.seq its2 m2,slots:=sl2 }/\R (.ok (.ret (.ref b))) s):=
 .of_wp fun prog w A R s hyp=>by
  obtain ⟨hp,g,d,tk,os⟩:=s; obtain ⟨hl,hb,hyp⟩:=hyp; have g1:=AutoSeq1.sub_tuple_tuple
  wp_walk using AutoSeq1.wpAny_loadPart' hl,AutoSeq1.wpAny_loadPart' hb
  exact ⟨_,rfl,hyp⟩
section
variable {X:Cx} {K:Frag}
def se (K:Frag):R2:=fun x y H Q=>sd K x y H Q\/∃ a b ys,x=.ref a/\y=.ref b/\SqT K H a []/\SqT K H b ys/\Q (.ref b) H
theorem eC (hK:X.K=K:=by rfl):OpR X (binaryOp .Add) (se K):=by
 subst hK
 intro pins s σ H x y v u Q I rx ry h
 rcases h with h | ⟨a,b,ys,rfl,rfl,ha,hb,q⟩
 ·exact uC pins s σ H x y v u Q I rx ry h
 ·cases rx
  cases ry
  obtain ⟨its,r1,⟨⟨c1,d1,t1,sl1⟩,o1,hc1,n1,hd1⟩,_⟩:=I.tuple ha
  obtain ⟨its2,r2,⟨⟨c2,d2,t2,sl2⟩,o2,hc2,n2,hd2⟩,_⟩:=I.tuple hb
  cases r1
  simp only at hc1 hd1 hc2 hd2
  subst hc1 hd1 hc2 hd2
  exact concat_meets ⟨_,o1,rfl⟩ ⟨_,o2,rfl⟩ noFill_tuple_add seq_tuple_add PySem.F.slot_tuple_add PySem.F.entry_tuple_add (PySem.F.args_tuple_add_2 _ _) (pb a b its2.toArray n1 n2 d1 d2 sl1 sl2) ⟨o1,o2,.ref b,H,I,rfl,q⟩
end
def fCatT:W->W->R W
 | .tup us,.tup vs=>if us.length+vs.length<=1000/\m7 us=true/\m7 vs=true then .ok (.tup (us++vs)) else .stuck
 | _,_=>.stuck
section
variable {K:Frag}
theorem eE:Op2 K .B .F (se K) fCatT:=by
 intro EX H0 Hs G H ρ σ Ha Hb x y u v Q I s mx my o
 cases u <;> first | exact o.elim | skip
 all_goals (cases v <;> first | exact o.elim | skip)
 rename_i us vs
 replace o:Out EX G H (mdW K .F H0 Hs) (if us.length+vs.length<=1000/\m7 us=true/\m7 vs=true then .ok (.tup (us++vs)) else .stuck) Q:=o
 by_cases hn:us.length+vs.length<=1000/\m7 us=true/\m7 vs=true
 ·rw [if_pos hn] at o
  obtain ⟨hz,n1,n2⟩:=hn
  rcases mx with mx | ⟨_,_,_,_,e2,_⟩
  ·rcases my with my | ⟨_,_,_,_,e2,_⟩
   ·have cx:=Rep.clean I mx (by simpa [noL] using n1)
    have cy:=Rep.clean I my (by simpa [noL] using n2)
    cases cx with
    | tup ha ra=>
     cases cy with
     | tup hb rb=>
      have l1:=ra.length
      have l2:=rb.length
      by_cases he:us = []
      ·subst he
       cases ra
       exact .inr ⟨_,_,_,rfl,rfl,SqT.of (I.gh _ _ ha),SqT.of (I.gh _ _ hb),o _ G H (Ext.refl I.gh) (.tup hb rb)⟩
      ·refine .inl ⟨_,_,_,_,rfl,rfl,SqT.of (I.gh _ _ ha),SqT.of (I.gh _ _ hb),fun z=>?_,by rw [l1,l2]; exact P9 hz,fun z=>?_,fun _ p hp=>?_⟩
       ·subst z; cases ra; exact he rfl
       ·subst z
        cases rb
        rw [List.append_nil] at o
        exact o _ G H (Ext.refl I.gh) (.tup ha ra)
       ·exact Out.newTF I (ra.append rb) hp o
   ·cases e2
  ·cases e2
 ·rw [if_neg hn] at o; exact o.elim
end
end TP
namespace L2
open PySem PySem.Spec PyProof.Rows
section
variable {X:Cx} {pins:List (Addr×Obj)} {σ:St} {H:Hp} {s:Shared} {A:Around} {E:Value->Shared->Prop} {Q:Value->Shared->Prop} {b:Bool}
end
end L2
namespace TP
open PySem L2
section
variable {K:Frag} {d:Mode}
end
end TP
namespace HT
open PySem PyProof.Rows
section
variable {prog:Program} {w:World} {A:Around} {E:Value->Shared->Prop} {s:Shared}
theorem getItem_tuple_all {t sl:Addr} {items:Array Value} {vl vu:Value} {lo hi:Option Int} {Q:Value->Shared->Prop} (ht:IsTup s.heap t items) (hs:s.heap.IsSliceOf sl vl vu .none) (pl:IsPart vl lo) (pu:IsPart vu hi)
  (hw:sIx items.size 0 lo=0/\sIx items.size items.size hi=items.size)
  (h:Q (.ref t) s)
  (hsz:items.size<=sizeLine):wpAny (model prog w) A (getItem (.ref t) (.ref sl)) Q E s:=by
 have hj:sIx items.size items.size hi<=items.size:=mG _ _ (Nat.le_refl _) hi
 obtain ⟨os,hos,hcs,hds⟩:=id hs
 have hTs:s.TypeIs (.ref sl) "slice" := ⟨os,hos,hcs⟩
 unfold getItem
 try with_reducible refine wpAny_holding ?_
 first | refine wpAny_bind (wpAny_pure ?_) | skip
 refine wpAny_bind (wpAny_sequenceKey ht.typeIs (by decide) ?_)
 refine wpAny_bind (wpAny_callSpecial?_slot (name:=Str.ofString "__getitem__") ht.typeIs PyProof.Rows.slot_tuple_getitem
  (wpAny_call_entry PyProof.Rows.slot_tuple_getitem ht.typeIs entry_tuple_getitem ?_ (args_tuple_getitem _ _)))
 show wpAny _ _ (Builtin.Tuple.tupleItemsOf (.ref t)>>=_) _ _ s
 refine wpAny_bind (tupleItemsOf_ ht ?_)
 refine wpAny_bind (wpAny_typeOf hTs ?_)
 rw [if_pos (by decide)]
 refine wpAny_bind (Q4 hs pl pu ?_)
 have hyes:(((sIx items.size 0 lo:Nat):Int) == 0&&(1:Int) == 1&&(sIx items.size items.size hi-sIx items.size 0 lo) == items.size)=true:=by
  rw [hw.1,hw.2]; simp
 show wpAny _ _ (if (((sIx items.size 0 lo:Nat):Int) == 0&&(1:Int) == 1&&(sIx items.size items.size hi-sIx items.size 0 lo) == items.size)=true then _ else _) _ _ s
 rw [if_pos hyes]
 unfold Builtin.Tuple.tupleIsExact
 wp_walk using wpAny_typeOf ht.typeIs
 exact ⟨_,rfl,wpAny_pure h⟩
end
end HT
namespace TP
open PySem L2
section
variable {X:Cx}
def pL (K:Frag):V->Option Int->Option Int->Hp->VK->Prop:=fun x lo hi H Q=>∃ a xs,x=.ref a/\SqT K H a xs/\(HT.sIx xs.length 0 lo=0/\HT.sIx xs.length xs.length hi=xs.length)/\Q (.ref a) H
theorem tE:L2.SlR X (pL X.K):=by
 intro pins s σ H x v vl vu lo hi sl Q I rx hs pl pu h
 obtain ⟨a,xs,rfl,hx,hw,q⟩:=h
 cases rx
 obtain ⟨its,r,ht,hz⟩:=I.tuple hx
 have hlen:its.toArray.size=xs.length:=by rw [List.size_toArray]; exact r.length.symm
 refine ⟨"tuple",_,PyProof.Rows.slot_tuple_getitem.lookup,ht.typeIs,?_⟩
 exact HT.getItem_tuple_all ht hs pl pu (by rw [hlen]; exact hw) ⟨.ref a,H,I,rfl,q⟩ (by rw [hlen]; exact hz)
def xI (K:Frag):V->Option Int->Option Int->Hp->VK->Prop:=fun x lo hi H Q=>xG K x lo hi H Q\/pL K x lo hi H Q
theorem tD:L2.SlR X (xI X.K):=L2.SlR.or wO tE
end
def Rst (x:R W) (l u:R (Option Int)):R W:=x>>=fun x=>l>>=fun l=>u>>=fun u=>(match x with
 | .tup ws=>if m7 ws=true then .ok (.tup (E9 ws l u)) else .stuck
 | _=>.stuck)
def cG (m:Rho->R W) (ml mh:Rho->R (Option Int)):Rho->R W:=fun ρ=>Rst (m ρ) (ml ρ) (mh ρ)
theorem rs {ws:List W} {lo hi:Option Int} (h:HT.sIx ws.length 0 lo=0/\HT.sIx ws.length ws.length hi=ws.length):E9 ws lo hi=ws:=by
 unfold E9
 rw [h.1,h.2,List.drop_zero,Nat.sub_zero,List.take_length]
section
variable {K:Frag} {EX:EXT} {H0 G H:Hp} {ρ:Rho} {σ:St} {Q:VK}
theorem Cc {m:Rho->R W} {ml mh:Rho->R (Option Int)} (h:tM K EX .F (cG m ml mh) σ H Q):tSl (xI K) (tM K EX .B m) (O4 K EX ml) (O4 K EX mh) σ H Q:=by
 obtain ⟨H0,G,ρ,I,o⟩:=h
 unfold cG Rst at o
 refine ⟨H0,G,ρ,I,Out.bind o fun x G1 H1 w e1 m1 o1=>⟨H0,G1,ρ,I.ext e1,Out.bind o1 fun l' G2 H2 l e2 m2 o2=>⟨H0,G2,ρ,(I.ext e1).ext e2,Out.bind o2 fun u' G3 H3 u e3 m3 o3=>?_⟩⟩⟩
 subst m2; subst m3
 have I3:=((I.ext e1).ext e2).ext e3
 cases w <;> first | exact o3.elim | skip
 rename_i ws
 dsimp only at o3
 by_cases hn:m7 ws=true
 ·rw [if_pos hn] at o3
  have mx:=(m1.move e2).move e3
  rcases mx with mx | ⟨_,_,_,_,z,_⟩
  ·have cx:=Rep.clean I3 mx (by simpa [noL] using hn)
   cases cx with
   | tup ha ra=>
    rename_i a vs
    have l1:=ra.length
    by_cases hw:HT.sIx vs.length 0 l'=0/\HT.sIx vs.length vs.length u'=vs.length
    ·refine .inr ⟨a,vs,rfl,SqT.of (I3.gh _ _ ha),hw,?_⟩
     rw [rs (by rw [<- l1]; exact hw)] at o3
     exact o3 _ G3 H3 (Ext.refl I3.gh) (.tup ha ra)
    ·exact .inl ⟨a,vs,rfl,SqT.of (I3.gh _ _ ha),hw,fun p hp=>Out.newTF I3 (ra.cut l' u') hp o3⟩
  ·cases z
 ·rw [if_neg hn] at o3; exact o3.elim
end
section
variable {X:Cx} {K:Frag} {EX:EXT} {e:Expr} {pos:Pos} {ma:Rho->R W}
theorem kJ {lo hi:Option Expr} {p2:Pos} {ml mh:Rho->R (Option Int)} (he:PE X e (tM K EX .B ma)) (hl:PO X lo (O4 K EX ml)) (hu:PO X hi (O4 K EX mh)) (hK:X.K=K:=by rfl):PE X (.Subscript e (.Slice lo hi none p2) pos) (tM K EX .F (cG ma ml mh)):=by
 subst hK; exact (gJ tD he hl hu).mono fun _ _ _ q=>Cc q
end
theorem jt (m:Rho->R W) (ml mh:Rho->R (Option Int)) (ρ:Rho):cG m ml mh ρ=Rst (m ρ) (ml ρ) (mh ρ):=rfl
theorem Ba {ws:List W} (h:m7 ws=true) (l u:Option Int):Rst (.ok (.tup ws)) (.ok l) (.ok u)=.ok (.tup (E9 ws l u)):=by
 show (if m7 ws=true then _ else _)=_
 rw [if_pos h]
end TP
namespace TP
open PySem L2
def eP:W->Option (List Int)
 | .tup ws=>v5 ws
 | _=>none
theorem ir (ns:List Int):eP (.tup (ns.map W.int))=some ns:=ints_map ns
abbrev R1 (k:List Int):List Key:=k.map Sum.inl
theorem qG {a b:List Int} (e:R1 a=R1 b):a=b:=by
 have:=congrArg (List.map fun x:Key=>match x with | .inl i=>i | .inr _=>0) e
 simpa [R1,Function.comp_def] using this
section
variable {K:Frag} {EX:EXT} {H0 G H G1 H1 F:Hp} {ρ:Rho} {σ:St} {d:Mode} {D:Ends}
theorem yM (k:List Int):(R1 k).map kV=k.map V.int:=by rw [List.map_map]; rfl
theorem vg {v:V} {w:W} {k:List Int} (r:Rep K F v w) (e:eP w=some k):∃ b,v=.ref b/\F b=some (.tup ((R1 k).map kV)):=by
 cases r <;> first | cases e | skip
 rename_i a vs ws h r
 refine ⟨a,rfl,?_⟩
 rw [yM,<- Reps.ints r e]
 exact h
theorem iq {Hs:Hp} {v:V} {w:W} {k:List Int} (I:PIv K H0 G ρ σ H) (m:Md K H0 Hs G H v w .B) (e:eP w=some k):∃ b,v=.ref b/\H b=some (.tup ((R1 k).map kV)):=by
 rcases m with r | ⟨a,vs,ws,_,rfl,_⟩
 ·obtain ⟨b,e1,e2⟩:=vg r e
  exact ⟨b,e1,I.join_H _ _ e2⟩
 ·cases e
theorem any_keys {kvs:List (List Key×V)} {ks:List (List Int)} {k:List Int} (hk:kvs.map (·.1)=ks.map fun k=>k.map Sum.inl):(kvs.any fun kv=>decide (kv.1=R1 k))=decide (k∈ks):=by
 rw [Bool.eq_iff_iff,List.any_eq_true,decide_eq_true_iff]
 constructor
 ·rintro ⟨p,hp,q⟩
  have e:=of_decide_eq_true q
  have:p.1∈ks.map fun k=>k.map Sum.inl:=by rw [<- hk]; exact List.mem_map.mpr ⟨p,hp,rfl⟩
  obtain ⟨j,hj,ej⟩:=List.mem_map.mp this
  rw [<- qG (ej.trans e)]; exact hj
 ·intro h
  have:R1 k∈kvs.map (·.1):=by rw [hk]; exact List.mem_map.mpr ⟨k,h,rfl⟩
  obtain ⟨p,hp,e⟩:=List.mem_map.mp this
  exact ⟨p,hp,decide_eq_true e⟩
def iZ (ks:List (List Int)) (k:List Int):List (List Int):=if k∈ks then ks else ks ++ [k]
theorem qC {kvs:List (List Key×V)} {ks:List (List Int)} {k:List Int} {v:V} (hk:kvs.map (·.1)=ks.map fun k=>k.map Sum.inl):(putK kvs (R1 k) v).map (·.1)=(iZ ks k).map fun k=>k.map Sum.inl:=by
 unfold putK iZ
 rw [any_keys hk]
 by_cases h:k∈ks
 ·rw [if_pos (decide_eq_true h),if_pos h,<- hk,List.map_map]
  refine List.map_congr_left fun p _=>?_
  show (if p.1=R1 k then (p.1,v) else p).1=p.1
  split <;> rfl
 ·rw [if_neg (by simpa using h),if_neg h,List.map_append,List.map_append,hk]; rfl
theorem PIv.updD {a:Addr} {kvs kvs':List (List Key×V)} (I:PIv K H0 G ρ σ H) (ha:H a=some (.dT kvs)) (hg:G a=none) (h0:H0 a=none) (nd:∀ (j:Nat) (ks:List (List Int)),ρ[j]?=some (.dic ks)->σ[j]?≠some (some (.ref a))):PIv K H0 G ρ σ (upd H a (.dT kvs')):=by
 refine ⟨I.g0,I.gl,fun b o q=>by rw [d8 (f7 q hg)]; exact I.gh b o q,fun b o q=>by rw [d8 (f7 q h0)]; exact I.hh b o q,I.len,fun j x o h1 h2=>?_,I.ne⟩
 have:=I.sl j x o h1 h2
 cases x with
 | own us=>
  obtain ⟨b,us',eb,hb,hgb,h0b,rb⟩:=this
  have hne:b≠a:=by
   rintro rfl
   rw [ha] at hb; cases hb
  exact ⟨b,us',eb,by rw [d8 hne]; exact hb,hgb,h0b,rb⟩
 | dic ks=>
  obtain ⟨b,us',eb,hb,hgb,h0b,rb⟩:=this
  subst eb
  have hne:b≠a:=by
   rintro rfl
   exact nd j ks h1 h2
  exact ⟨b,us',rfl,by rw [d8 hne]; exact hb,hgb,h0b,rb⟩
 | dik ks=>
  obtain ⟨b,us',eb,hb,hgb,h0b,rb⟩:=this
  have hne:b≠a:=by
   rintro rfl
   rw [ha] at hb; cases hb
  exact ⟨b,us',eb,by rw [d8 hne]; exact hb,hgb,h0b,rb⟩
 | un=>exact this
 | val _=>exact this
 | par _=>exact this
 | iop _ _=>exact this
 | hz _=>exact this
theorem PIv.setD {i:Nat} {a:Addr} {kvs:List (List Key×V)} {ks:List (List Int)} (I:PIv K H0 G ρ σ H) (ha:H a=some (.dT kvs)) (hg:G a=none) (h0:H0 a=none) (hk:kvs.map (·.1)=ks.map fun k=>k.map Sum.inl):PIv K H0 G (ρ.set i (.dic ks)) (σ.set i (some (.ref a))) H where
 g0:=I.g0
 gl:=I.gl
 gh:=I.gh
 hh:=I.hh
 len:=by rw [List.length_set,List.length_set]; exact I.len
 sl j x o h1 h2:=by
  by_cases hj:i=j
  ·subst hj
   rw [List.getElem?_set] at h1 h2
   simp only [if_true] at h1 h2
   split at h1 <;> split at h2 <;> simp only [Option.some.injEq,reduceCtorEq] at h1 h2
   subst h1; subst h2
   exact ⟨a,kvs,rfl,ha,hg,h0,hk⟩
  ·rw [List.getElem?_set_ne hj] at h1 h2; exact I.sl j x o h1 h2
 ne a b ws us c hab h1 h2 h3 h4:=by
  have na:i≠a:=by
   rintro rfl
   rw [List.getElem?_set] at h1
   simp only [if_true] at h1
   split at h1 <;> simp at h1
  have nb:i≠b:=by
   rintro rfl
   rw [List.getElem?_set] at h2
   simp only [if_true] at h2
   split at h2 <;> simp at h2
  rw [List.getElem?_set_ne na] at h1 h3
  rw [List.getElem?_set_ne nb] at h2 h4
  exact I.ne a b ws us c hab h1 h2 h3 h4
theorem PIv.dic_at {i:Nat} {ks:List (List Int)} (I:PIv K H0 G ρ σ H) (e:ρ[i]?=some (.dic ks)):∃ a kvs,σ[i]?=some (some (.ref a))/\H a=some (.dT kvs)/\G a=none/\H0 a=none/\kvs.map (·.1)=ks.map fun k=>k.map Sum.inl:=by
 have hi:i<σ.length:=by rw [<- I.len]; exact (List.getElem?_eq_some_iff.mp e).1
 have es:σ[i]?=some σ[i]:=by simp
 obtain ⟨a,kvs,ev,r⟩:=I.sl i _ _ e es
 exact ⟨a,kvs,by rw [es,ev],r⟩
def Z4:Sl->Bool
 | .dic _=>true
 | _=>false
def fZ (ρ:Rho):Bool:=ρ.all fun s=>!Z4 s
theorem qk {ρ:Rho} {i j:Nat} {ks:List (List Int)} (h:fZ (ρ.set i .un)=true) (hj:i≠j):ρ[j]?≠some (.dic ks):=fun e=>by
 have e':(ρ.set i .un)[j]?=some (.dic ks):=by rw [List.getElem?_set_ne hj]; exact e
 have:=List.all_eq_true.mp h _ (List.mem_of_getElem? e')
 simp [Z4] at this
theorem PIv.dic_upd {i:Nat} {a:Addr} {kvs':List (List Key×V)} {ks ks':List (List Int)} (I:PIv K H0 G ρ σ H) (e:ρ[i]?=some (.dic ks)) (es:σ[i]?=some (some (.ref a))) (one:fZ (ρ.set i .un)=true) (hk:kvs'.map (·.1)=ks'.map fun k=>k.map Sum.inl) :
  PIv K H0 G (ρ.set i (.dic ks')) σ (upd H a (.dT kvs')):=by
 obtain ⟨a',kvs,ev,ha,hg,h0,_⟩:=I.sl i _ _ e es
 cases ev
 refine ⟨I.g0,I.gl,fun b o q=>by rw [d8 (f7 q hg)]; exact I.gh b o q,fun b o q=>by rw [d8 (f7 q h0)]; exact I.hh b o q,by rw [List.length_set]; exact I.len,fun j x o h1 h2=>?_,fun p q ws1 us c hab h1 h2 h3 h4=>?_⟩
 ·by_cases hj:i=j
  ·subst hj
   rw [List.getElem?_set] at h1
   simp only [if_true] at h1
   split at h1 <;> simp only [Option.some.injEq,reduceCtorEq] at h1
   subst h1
   rw [es] at h2; cases h2
   exact ⟨a,kvs',rfl,i7,hg,h0,hk⟩
  ·rw [List.getElem?_set_ne hj] at h1
   have:=I.sl j x o h1 h2
   cases x with
   | own us=>
    obtain ⟨b,us',eb,hb,hgb,h0b,rb⟩:=this
    have hne:b≠a:=by
     rintro rfl
     rw [ha] at hb; cases hb
    exact ⟨b,us',eb,by rw [d8 hne]; exact hb,hgb,h0b,rb⟩
   | dic ls=>exact absurd h1 (qk one hj)
   | dik ks=>
    obtain ⟨b,us',eb,hb,hgb,h0b,rb⟩:=this
    have hne:b≠a:=by
     rintro rfl
     rw [ha] at hb; cases hb
    exact ⟨b,us',eb,by rw [d8 hne]; exact hb,hgb,h0b,rb⟩
   | un=>exact this
   | val _=>exact this
   | par _=>exact this
   | iop _ _=>exact this
   | hz _=>exact this
 ·have na:i≠p:=by
   rintro rfl
   rw [List.getElem?_set] at h1
   simp only [if_true] at h1
   split at h1 <;> simp at h1
  have nb:i≠q:=by
   rintro rfl
   rw [List.getElem?_set] at h2
   simp only [if_true] at h2
   split at h2 <;> simp at h2
  rw [List.getElem?_set_ne na] at h1
  rw [List.getElem?_set_ne nb] at h2
  exact I.ne p q ws1 us c hab h1 h2 h3 h4
def inD (o:Option Sl) (w:W) (neg:Bool):R Bool:=match o with
 | some (.dic ks)=>(match eP w with
  | some k=>.ok (if neg then !decide (k∈ks) else decide (k∈ks))
  | none=>.stuck)
 | _=>.stuck
def mIn (neg:Bool) (i:Nat) (mk:Rho->R W):Rho->R Bool:=fun ρ=>mk ρ>>=fun w=>inD ρ[i]? w neg
theorem Cm {i:Nat} {mk:Rho->R W} {Q:Bool->Hp->Prop} (h:tT K EX (mIn false i mk) σ H Q):tB (wH (tM K EX .B mk) (U3 i)) σ H Q:=by
 obtain ⟨H0,G,ρ,I,o⟩:=h
 refine ⟨H0,G,ρ,I,Out.bind (md:=mdW K .B H0 H) o fun y G1 H1 w e1 m1 o1=>?_⟩
 have I1:=I.ext e1
 unfold inD at o1
 split at o1
 ·rename_i ks e
  split at o1
  ·rename_i k ek
   obtain ⟨a,kvs,es,ha,hg,h0,hk⟩:=I1.dic_at e
   obtain ⟨b,rfl,hb⟩:=iq I1 m1 ek
   refine ⟨.ref a,es,a,_,rfl,DGet.t ha hb,_,rfl,?_⟩
   rw [<- cF,any_keys hk]
   exact o1 _ G1 H1 (Ext.refl I1.gh) rfl
  ·exact o1.elim
 ·exact o1.elim
def putD (ks:List (List Int)) (i:Nat) (w:W) (ρ:Rho):R Fl:=match eP w with
 | some k=>if fZ (ρ.set i .un)=true/\ks.length<1000 then .ok (.nx (ρ.set i (.dic (iZ ks k)))) else .stuck
 | none=>.stuck
def gd (o:Option Sl) (re rk:R W) (i:Nat) (ρ:Rho):R Fl:=match o with
 | some (.dic ks)=>re>>=fun _=>rk>>=fun w=>putD ks i w ρ
 | _=>.stuck
def dE (i:Nat) (mk me:Rho->R W):Rho->R Fl:=fun ρ=>gd ρ[i]? (me ρ) (mk ρ) i ρ
theorem AJ {i:Nat} {mk me:Rho->R W} (h:tSt K EX d (dE i mk me) D σ H):rX (U3 i) (tM K EX .B mk) (tM K EX .B me) D σ H:=by
 obtain ⟨H0,G,ρ,I,o⟩:=h
 unfold dE gd at o
 split at o
 ·rename_i ks e
  refine ⟨H0,G,ρ,I,OutS.bind I o fun v G1 H1 w1 e1 m1 o1=>?_⟩
  have I1:=I.ext e1
  obtain ⟨a,kvs,es,ha,hg,h0,hk⟩:=I1.dic_at e
  refine ⟨.ref a,es,H0,G1,ρ,I1,OutS.bind I1 o1 fun y G2 H2 w e2 m2 o2=>?_⟩
  have I2:=I1.ext e2
  unfold putD at o2
  split at o2
  ·rename_i k ek
   split at o2
   ·rename_i hc
    obtain ⟨b,rfl,hb⟩:=iq I2 m2 ek
    have hl:kvs.length=ks.length:=by have:=congrArg List.length hk; simpa using this
    refine ⟨a,_,rfl,DPut.t (e2.hh a _ ha) hb (Nat.lt_of_lt_of_le (show kvs.length<1000 by omega) (by decide)),?_⟩
    exact o2 G2 σ _ (Same.refl _) (I2.dic_upd e es hc.1 (qC hk))
   ·exact o2.elim
  ·exact o2.elim
 ·exact o.elim
def newD (i:Nat) (w:W) (ρ:Rho):R Fl:=match eP w with
 | some k=>.ok (.nx (ρ.set i (.dic [k])))
 | none=>.stuck
def ga (i:Nat) (mk me:Rho->R W):Rho->R Fl:=fun ρ=>mk ρ>>=fun w=>me ρ>>=fun _=>newD i w ρ
def jy (tk tv:TE):TE:=fun σ H Q=>∀ p,H p=none->tk σ (upd H p (.dT [])) fun x H1=>tv σ H1 fun y H2=>H2 p=some (.dT [])/\∃ b k,x=.ref b/\H2 b=some (.tup (k.map kV))/\Q (.ref p) (upd H2 p (.dT [(k,y)]))
theorem AK {i:Nat} {mk me:Rho->R W} (h:tSt K EX d (ga i mk me) D σ H):U4 (jy (tM K EX .B mk) (tM K EX .B me)) (F4 i) D σ H:=by
 obtain ⟨H0,G,ρ,I,o⟩:=h
 intro p hp
 have hgp:G p=none:=by
  cases q:G p with
  | none=>rfl
  | some u=>rw [I.gh p u q] at hp; cases hp
 have h0p:H0 p=none:=by
  cases q:H0 p with
  | none=>rfl
  | some u=>rw [I.hh p u q] at hp; cases hp
 have su:Same H (upd H p (.dT [])):=fun b u q=>by rw [d8 (f7 q hp)]; exact q
 have x0:Ext G H G (upd H p (.dT [])):=⟨Same.refl G,su,I.gh.trans su,fun _ _ _ _ e=>e⟩
 have I0:=I.ext x0
 have o':OutS K EX d H0 G (mk ρ>>=fun w=>me ρ>>=fun _=>newD i w ρ) D:=o
 refine ⟨H0,G,ρ,I0,OutS.bind I0 o' fun x G1 H1 w e1 m1 o1=>?_⟩
 have I1:=I0.ext e1
 refine ⟨H0,G1,ρ,I1,OutS.bind I1 o1 fun y G2 H2 w2 e2 m2 o2=>?_⟩
 have I2:=I1.ext e2
 have hp2:H2 p=some (.dT []):=e2.hh p _ (e1.hh p _ i7)
 have hg2:G2 p=none:=e2.keep p _ (e1.hh p _ i7) rfl (e1.keep p _ i7 rfl hgp)
 refine ⟨hp2,?_⟩
 unfold newD at o2
 split at o2
 ·rename_i k ek
  obtain ⟨b,rfl,hb⟩:=iq I1 m1 ek
  refine ⟨b,R1 k,rfl,e2.hh b _ hb,?_⟩
  refine o2 G2 _ _ (Same.refl _) (PIv.setD (I2.updD hp2 hg2 h0p fun j ks e1 e2=>?_) i7 hg2 h0p rfl)
  obtain ⟨c,kvs,ec,hc,_⟩:=I.sl j _ _ e1 e2
  cases ec
  rw [hp] at hc; cases hc
 ·exact o2.elim
end
section
variable {X:Cx} {K:Frag} {EX:EXT} {d:Mode} {e k v:Expr} {pos:Pos} {mk me:Rho->R W}
theorem mX {tk tv:TE} (hu:X.A.units+1<cLine) (hk:PE X k tk) (hv:PE X v tv):PE X (.Dict [some k] [v] pos) (jy tk tv):=by
 intro pins s σ H Q I q
 have hn:=I.hok.fresh (Nat.le_refl s.heap.objs.size)
 have I1:=I.laid (a:=s.heap.objs.size) (o:=.dT []) (h':=s.heap.push { cls:=.type "dict",data:=.dict #[] }) (t':=s.toks) (fun _ _ q=>Heap.get?_push_of_some _ q) (Nat.le_refl _) (rl s.heap I.big)
 refine wpAny_Dict_any rfl rfl (by simp) (Nat.le_of_ble_eq_true rfl) ?_
 refine pairTrees_cons_walk (thn (hk pins _ σ _ _ I1 (q _ hn)) fun u s1 ⟨x,H1,I2,rx,q1⟩=>thn (hv pins s1 σ H1 _ I2 q1) fun w2 s2 ⟨y,H2,I3,ry,e,b,kk,ex,eb,q2⟩=>pairTrees_nil_walk ?_)
 subst ex
 obtain rfl:u=Value.ref b:=rx
 obtain ⟨z,hd,xs,rel,dd⟩:=sJ I3.hok e
 cases rel
 unfold storeAll
 rw [List.forIn_cons]
 refine wpAny_bind (wpAny_bind (wpAny_dictSet_heap (knd:=tupleKind (v7 X.prog X.w)) (hsz:=Nat.zero_le _) (show (tupleKind (v7 X.prog X.w)).room X.A from Nat.lt_of_succ_lt hu) (dF I3.hok eb) dd fun h' dd' hs=>wpAny_pure ?_))
 show wpAny _ _ (forIn [] PUnit.unit _) _ _ _
 rw [List.forIn_nil]
 refine wpAny_pure ⟨.ref s.heap.objs.size,_,?_,rfl,q2⟩
 obtain ⟨qo,es,ep,hq,h2,h3,h4,_,h5⟩:=dd'
 refine fg I3 (by rw [e]; exact True.intro) hs ⟨qo,hq⟩ ⟨Nat.succ_le_of_lt (by decide),hd,_,(KT.put (H:=H2) (kvs:=[]) (xs:=[]) .nil kk eb ry).keeps fun c ys ec=>?_,qo,es,ep,hq,h2,h3,h4,h5⟩
 rw [d8 (so ec e (fun z=>nomatch z))]
 exact ec
theorem xV {i:Nat} {x:Str} {pos' pos2:Pos} (hu:X.A.units+64<cLine) (hN:X.N.Nodup) (hi:X.N[i]?=some x) (hx:Loc X.env.scope x) (hk:PE X k (tM K EX .B mk)) (hv:PE X v (tM K EX .B me))
  (hs:swapsWith (.Dict [some k] [v] pos) (some (.Name x pos')) pos2.line X.env=pure false:=by rfl) (hf:X.fn x=true\/X.env.scope.names.lookup x=some .local:=by first | exact Or.inl rfl | exact Or.inr rfl | assumption) :
  PS X (.Assign [.Name x pos'] (.Dict [some k] [v] pos) pos2) (tSt K EX d (ga i mk me)):=(dr hN hi hx (mX (by omega) hk hv) hs hf).mono fun _ _ _ q=>AK q
theorem Bs {i:Nat} {x:Str} {p:Pos} (hu:X.A.units+64<cLine) (hN:X.N[i]?=some x) (hv:Vis X.env.scope x) (hk:PE X k (tM K EX .B mk)) (hd:(x == ("__debug__" : Str))=false:=by decide) (hcd:(x == ("__classdict__" : Str))=false:=by decide)
  (hm:behindInMarks .In (.Name x p)=false:=by rfl):PT X (.Compare k [.In] [.Name x p] pos) (tT K EX (mIn false i mk)):=(yf (yr (by omega) hk (W7 hN hv hd hcd)) hm).mono fun _ _ _ q=>Cm q
theorem xU {i:Nat} {x:Str} {p p2:Pos} (hu:X.A.units+64<cLine) (hN:X.N[i]?=some x) (hv:Vis X.env.scope x) (hk:PE X k (tM K EX .B mk)) (he:PE X e (tM K EX .B me)) (hd:(x == ("__debug__" : Str))=false:=by decide) (hcd:(x == ("__classdict__" : Str))=false:=by decide)
  (hs:swapsWith e (some (.Subscript (.Name x p) k p2)) pos.line X.env=pure false:=by rfl):PS X (.Assign [.Subscript (.Name x p) k p2] e pos) (tSt K EX d (dE i mk me)):=(um (by omega) (W7 hN hv hd hcd) hk he hs).mono fun _ _ _ q=>AJ q
end
end TP
namespace TP
open PySem L2
set_option maxHeartbeats 2000000
section
variable {X:Cx} {K:Frag}
end
section
variable {K:Frag}
end
theorem nE (neg:Bool) (i:Nat) (mk:Rho->R W) (ρ:Rho):mIn neg i mk ρ=(mk ρ>>=fun w=>inD ρ[i]? w neg):=rfl
theorem nS (ks:List (List Int)) (k:List Int):inD (some (.dic ks)) (.tup (k.map W.int)) false=.ok (decide (k∈ks)):=by unfold inD; rw [ir]; rfl
theorem im (i:Nat) (mk me:Rho->R W) (ρ:Rho):dE i mk me ρ=gd ρ[i]? (me ρ) (mk ρ) i ρ:=rfl
theorem da (ks:List (List Int)) (w:W) (k:List Int) (i:Nat) (ρ:Rho) (h:fZ (ρ.set i .un)=true) (hl:ks.length<1000):gd (some (.dic ks)) (.ok w) (.ok (.tup (k.map W.int))) i ρ=.ok (.nx (ρ.set i (.dic (iZ ks k)))):=by
 show putD ks i (.tup (k.map W.int)) ρ=_
 unfold putD
 rw [ir]
 exact if_pos ⟨h,hl⟩
theorem qx (i:Nat) (mk me:Rho->R W) (ρ:Rho):ga i mk me ρ=(mk ρ>>=fun w=>me ρ>>=fun _=>newD i w ρ):=rfl
theorem jN (i:Nat) (k:List Int) (ρ:Rho):newD i (.tup (k.map W.int)) ρ=.ok (.nx (ρ.set i (.dic [k]))):=by unfold newD; rw [ir]
end TP
namespace TP
open PySem L2
section
variable {X:Cx} {K:Frag} {EX:EXT} {d:Mode} {p:Pos} {es:List Expr} {mr:Rho->R (List W)}
theorem g4 {i j} (hr:PA X es (tA K EX d mr)):PA X (.Constant (.int i) j p::es) (tA K EX d (aC (mC (.int i)) mr)):=b7 c9 hr (by rfl)
theorem gF {a0 a1 a2 a3 a4 a5} {u0 u1 u2 u3 u4 u5} {p0 p1 p2 p3 p4 p5:Pos} {pos:Pos}:PE X (.List [.Constant (.int a0) u0 p0,.Constant (.int a1) u1 p1,.Constant (.int a2) u2 p2,.Constant (.int a3) u3 p3,.Constant (.int a4) u4 p4,.Constant (.int a5) u5 p5] pos) (tM K EX .F (D7 (aC (mC (.int a0)) (aC (mC (.int a1)) (aC (mC (.int a2)) (aC (mC (.int a3)) (aC (mC (.int a4)) (aC (mC (.int a5)) aN)))))))):=by
 refine K5 ?_
 refine g4 ?_
 refine g4 ?_
 refine g4 ?_
 refine g4 ?_
 refine g4 ?_
 refine g4 ?_
 exact b9
theorem xT {a0 a1 a2 a3 a4 a5 a6 a7} {u0 u1 u2 u3 u4 u5 u6 u7} {p0 p1 p2 p3 p4 p5 p6 p7:Pos} {pos:Pos}:PE X (.List [.Constant (.int a0) u0 p0,.Constant (.int a1) u1 p1,.Constant (.int a2) u2 p2,.Constant (.int a3) u3 p3,.Constant (.int a4) u4 p4,.Constant (.int a5) u5 p5,.Constant (.int a6) u6 p6,.Constant (.int a7) u7 p7] pos) (tM K EX .F (D7 (aC (mC (.int a0)) (aC (mC (.int a1)) (aC (mC (.int a2)) (aC (mC (.int a3)) (aC (mC (.int a4)) (aC (mC (.int a5)) (aC (mC (.int a6)) (aC (mC (.int a7)) aN)))))))))):=by
 refine K5 ?_
 refine g4 ?_
 refine g4 ?_
 refine g4 ?_
 refine g4 ?_
 refine g4 ?_
 refine g4 ?_
 refine g4 ?_
 refine g4 ?_
 exact b9
theorem ue {a0 a1 a2 a3 a4 a5 a6 a7 a8 a9 a10} {u0 u1 u2 u3 u4 u5 u6 u7 u8 u9 u10} {p0 p1 p2 p3 p4 p5 p6 p7 p8 p9 p10:Pos} {pos:Pos}:PE X (.List [.Constant (.int a0) u0 p0,.Constant (.int a1) u1 p1,.Constant (.int a2) u2 p2,.Constant (.int a3) u3 p3,.Constant (.int a4) u4 p4,.Constant (.int a5) u5 p5,.Constant (.int a6) u6 p6,.Constant (.int a7) u7 p7,.Constant (.int a8) u8 p8,.Constant (.int a9) u9 p9,.Constant (.int a10) u10 p10] pos) (tM K EX .F (D7 (aC (mC (.int a0)) (aC (mC (.int a1)) (aC (mC (.int a2)) (aC (mC (.int a3)) (aC (mC (.int a4)) (aC (mC (.int a5)) (aC (mC (.int a6)) (aC (mC (.int a7)) (aC (mC (.int a8)) (aC (mC (.int a9)) (aC (mC (.int a10)) aN))))))))))))):=by
 refine K5 ?_
 refine g4 ?_
 refine g4 ?_
 refine g4 ?_
 refine g4 ?_
 refine g4 ?_
 refine g4 ?_
 refine g4 ?_
 refine g4 ?_
 refine g4 ?_
 refine g4 ?_
 refine g4 ?_
 exact b9
end
end TP
namespace TB
open PySem PySem.W
theorem bits_of {ns:List Int} (h:WData.layableAll [WData.list (ns.map WData.int)]=true):∀ x∈ns,Builtin.Int.intBits x<=1048576:=fun x hx=>by
 have h1:(WData.list (ns.map WData.int)).layable=true:=by simpa [WData.layableAll] using h
 have h2:(WData.list (ns.map WData.int)).weight<=2^20:=(layableW_iff.mp h1).2.2
 have key:∀ ms:List Int,x∈ms->Builtin.Int.intBits x<=WData.weightAll (ms.map WData.int):=by
  intro ms
  induction ms with
  | nil=>intro z; cases z
  | cons m ms ih=>
   intro z
   rw [List.map_cons]
   show _<=WData.weight (.int m)+1+WData.weightAll (ms.map WData.int)
   rcases List.mem_cons.mp z with e | e
   ·subst e
    have:WData.weight (.int x)=Builtin.Int.intBits x:=by rfl
    omega
   ·have:=ih e
    omega
 exact Nat.le_trans (key ns hx) (by simpa [WData.weight] using h2)
end TB
namespace Att
open PySem PySem.W PySem.Calls PyProof.Rows
theorem attach_callB {l:OpenLaw} {n:Nat} {q:Program} {loose:List Str} {XP:(Str->Option Value)->Heap->Prop} {YP:World->Heap->Prop} {d:DefRec}
  (hn:l.most=some n) (hdf:d.params.defaults = [])
  (call:∀ (w:World) (s₀ s₁:Shared) (mg mb:Str->Option Value) (fa:Addr) (o:Obj) (pm cd doc:Value) (a:Addr) (vs:List Value) (ns:List Int),
   Ground q loose [] XP w s₀ mg mb s₁.heap->YP w s₁.heap ->
   s₁.heap.get? fa=some o->o.data=.func (docDef d.name d.params d.body d.scope pm cd doc)->s₁.heap.CodeRec cd d.name->mg d.name=some (.ref fa) ->
   s₁.heap.get? a=some { cls:=.type "list",data:=.seq vs.toArray }->IntsAre vs ns->ns.length<=n->(∀ x∈ns,Builtin.Int.intBits x<=1048576)->s₁.gens=#[] ->
   codeAny (model l.prog w) callerA (.call (.ref fa) ⟨[.ref a],[]⟩) (fun r s'=>r=.ok (.ret (.bool true))/\OldK s₁.heap s'.heap/\s'.os=s₁.os/\AllBare s'.gens) s₁) :
  WalkO q loose XP YP l.row.toRowW d [] (fun f vs=>PySem.call f vs):=by
 intro w s₀ s₁ mg mb G Y fa o pm cd doc dV kV ho hd hcd hD hmg hg args vals as hpre hlay hrd hwl hlo
 obtain rfl:dV=.none:=Dflts.none hD hdf
 obtain rfl:kV=.none:=Dflts.noKw hD
 obtain ⟨a,vs,ns,rfl,rfl,hobj,hints,hlen⟩:=mD hn hpre hwl
 refine enter_call (codeAny_mono (call w s₀ s₁ mg mb fa o pm cd doc a vs ns G Y ho (fd_plain hd) hcd hmg hobj hints hlen (TB.bits_of hlay) hg) fun r s' hq=>?_)
 obtain ⟨rfl,h2,h3,h4⟩:=hq
 exact ⟨.inl ⟨.bool true,.bool true,[],rfl,fun _=>rfl,.bool true,mR l _,fun _=>⟨List.Pairwise.nil,fun _ hm=>(nomatch hm)⟩⟩,h2,h3,h4⟩
end Att
namespace L2
open PySem PySem.Spec PyProof.Rows
theorem oT {l:PySem.W.OpenLaw} {n k:Nat} {q:Program} {loose:List Str} {XP:(Str->Option Value)->Heap->Prop} {YP:World->Heap->Prop} {d:DefRec} {K:Params->Frag} {CX:World->CXT} {sp:World->Sp} {x:Str}
  (hn:l.most=some n) (hn2:n<=sizeLine) (hdf:d.params.defaults = []) (hr:Room k callerA)
  (hY:∀ (w:World) (h:Heap),YP w h->(K w.params).In h)
  (hT:∀ (w:World) (h:Heap),YP w h->∀ p∈lamT,h.get? p.1=some { cls:=.none,data:=.fields #[] }/\isCodeTable h p.1/\(K w.params).lookup p.1=none/\lamT.lookup p.1=some p.2)
  (F:∀ (w:World) (mg:Str->Option Value) (fa:Addr) (h:Heap),(K w.params).In h->h.Ns mainGlobals mg->mg d.name=some (.ref fa) ->
   ∃ fd:FuncData,(∀ (s:Shared) (u:Value),BindsTo s fd ⟨[u],[]⟩ [(x,u)]) /\
    ∀ base:Heap,(K w.params).In base->base.Ns mainGlobals mg->FnOk l.prog w (K w.params) mg base (CX w) k fa fd [x] (sp w))
  (hsp:∀ (w:World) (H:Hp) (a:Addr) (ns:List Int),ns.length<=n->(∀ x∈ns,Builtin.Int.intBits x<=1048576)->lG H->SqL (K w.params) H a (ns.map V.int)->sp w [.ref a] H (fun v _=>v=.bl true) fun _ _ _=>False)
  (hCX:∀ (w:World) (H:Hp) (s:Shared) (e:Value) (s':Shared),CX w [] H s (fun _ _ _=>False) e s'->False) :
  PySem.W.WalkO q loose XP YP l.row.toRowW d [] (fun f vs=>PySem.call f vs):=by
 refine Att.attach_callB hn hdf fun w s₀ s₁ mg mb fa o pm cd doc a vs ns G Y ho hd hcd hmg hobj hints hlen hbi hg=>?_
 have KX:=hY w _ Y
 obtain ⟨fd,hb,hF⟩:=F w mg fa _ KX G.T.g hmg
 exact qA KX G.T.g G.T.b G.T.builtins G.T.nolimit hg G.T.bmain (hT w _ Y) hobj hints (Nat.le_trans hlen hn2) hr hF hb (fun H hO hS=>hsp w H a ns hlen hbi hO hS) fun H e s'=>hCX w H s₁ e s'
theorem walk_ofKB {l:PySem.W.OpenLaw} {n k:Nat} {q:Program} {loose:List Str} {XP:(Str->Option Value)->Heap->Prop} {YP:World->Heap->Prop} {d:DefRec} {K:Params->Frag} {CX:CXT} {sp:Frag->Sp} {x:Str}
  (hn:l.most=some n) (hn2:n<=sizeLine) (hdf:d.params.defaults = []) (hr:Room k callerA)
  (hY:∀ (w:World) (h:Heap),YP w h->(K w.params).In h)
  (hT:∀ (w:World) (h:Heap),YP w h->∀ p∈lamT,h.get? p.1=some { cls:=.none,data:=.fields #[] }/\isCodeTable h p.1/\(K w.params).lookup p.1=none/\lamT.lookup p.1=some p.2)
  (F:∀ (w:World) (mg:Str->Option Value) (fa:Addr) (h:Heap),(K w.params).In h->h.Ns mainGlobals mg->mg d.name=some (.ref fa) ->
   ∃ fd:FuncData,(∀ (s:Shared) (u:Value),BindsTo s fd ⟨[u],[]⟩ [(x,u)]) /\
    ∀ base:Heap,(K w.params).In base->base.Ns mainGlobals mg->FnOk l.prog w (K w.params) mg base CX k fa fd [x] (sp (K w.params)))
  (hsp:∀ (K:Frag) (H:Hp) (a:Addr) (ns:List Int),ns.length<=n->(∀ x∈ns,Builtin.Int.intBits x<=1048576)->lG H->SqL K H a (ns.map V.int)->sp K [.ref a] H (fun v _=>v=.bl true) fun _ _ _=>False)
  (hCX:∀ (H:Hp) (s:Shared) (e:Value) (s':Shared),CX [] H s (fun _ _ _=>False) e s'->False) :
  PySem.W.WalkO q loose XP YP l.row.toRowW d [] (fun f vs=>PySem.call f vs):=
 oT (K:=K) (CX:=fun _=>CX) (sp:=fun w=>sp (K w.params)) hn hn2 hdf hr hY hT F (fun w H a ns h1 hb h2 h3=>hsp (K w.params) H a ns h1 hb h2 h3) fun _ H s e s'=>hCX H s e s'
end L2
namespace TP
open PySem L2
def CMulB (i j:Int):Prop:=CMul i j\/Builtin.Int.intBits i+Builtin.Int.intBits j<=134217728
instance (i j:Int):Decidable (CMulB i j):=by unfold CMulB; infer_instance
theorem CMulB.ok {i j:Int} (h:CMulB i j):IntMulOk i j:=by
 rcases h with h | h
 ·exact h.ok
 ·exact IntMulOk.of_le (Nat.le_refl _) (Nat.le_refl _) h
section
variable {X:Cx}
theorem t0:OpR X (binaryOp .Mult) (rI CMulB fun i j=>.int (i*j)):=opI fun _ _ _ _ _ _ _ hc q=>PyProof.Rows.mul_int q hc.ok
end
theorem ny {i j:Int} (h:-18446744073709551616<i/\i<18446744073709551616):fI CMulB k9 (.int i) (.int j)=.ok (.int (i*j)):=by
 show (if CMulB i j then _ else _)=_
 exact if_pos (.inl (.inl h))
theorem X2 {i j:Int} (h:-18446744073709551616<j/\j<18446744073709551616):fI CMulB k9 (.int i) (.int j)=.ok (.int (i*j)):=by
 show (if CMulB i j then _ else _)=_
 exact if_pos (.inl (.inr h))
theorem X1 {i j:Int} (h:Builtin.Int.intBits i+Builtin.Int.intBits j<=134217728):fI CMulB k9 (.int i) (.int j)=.ok (.int (i*j)):=by
 show (if CMulB i j then _ else _)=_
 exact if_pos (.inr h)
theorem vf {P:Program} {w:World} {K:Frag} {mg:Str->Option Value} {base:Heap} {k:Nat} {f:Addr} {fd:FuncData} {ps:List Str} {d:Mode} {F:List W->R W} (G:FnOk P w K mg base CX0 k f fd ps (spM K 1 d F))
  (h:∀ ns:List Int,ns.length<=63->(∀ x∈ns,Builtin.Int.intBits x<=1048576)->F [.scr (ns.map W.int)]=.ok (.bl true)):FnOk P w K mg base CX0 k f fd ps (fun vs H Q _=>∃ (a:Addr) (ns:List Int),vs = [.ref a]/\SqL K H a (ns.map V.int)/\ns.length<=63/\(∀ x∈ns,Builtin.Int.intBits x<=1048576)/\∀ H',Q (.bl true) H'):=
 G.imp fun vs H Q E zz89=>by
  obtain ⟨a,ns,e,hs,hl,hb,q⟩:=zz89
  subst e
  refine ⟨rfl,[.scr (ns.map W.int)],.cons (.scr hs ?_) .nil,?_⟩
  ·clear hs hl hb
   induction ns with
   | nil=>exact .nil
   | cons n ns ih=>exact .cons .int ih
  ·rw [h ns hl hb]
   intro v G' H' _ _ _ m
   have e:v=.bl true:=by
    cases d <;> first | (cases m; rfl) | (rcases m with m | ⟨_,_,_,_,z,_⟩ <;> first | (cases m; rfl) | cases z)
   subst e
   exact q H'
end TP
namespace TL
open PySem
theorem yz:typeLookup (.type "list_reverseiterator") "__len__" = pure none:=by rw [typeLookup_type,builtinLookup_eq_fast]; kernel_rfl
theorem qM:typeLookup (.type "list_reverseiterator") "__length_hint__" = pure (some (.builtin "list_reverseiterator.__length_hint__")):=by rw [typeLookup_type,builtinLookup_eq_fast]; kernel_rfl
theorem sub_self:isSubtype (.type "list_reverseiterator") (.type "list_reverseiterator")=pure true:=by rw [isSubtype_type]; kernel_rfl
section
variable {prog:Program} {w:World} {A:Around} {E:Value->Shared->Prop} {s:Shared}
theorem qK {I l:Addr} {i:Int} {Q:Bool->Shared->Prop} (hit:s.heap.IsRevIter I l i) (h:Q false s):wpAny (model prog w) A (Builtin.List.listLengthHint (.ref I)) Q E s:=by
 have hT:=hit.typeIs
 unfold Builtin.List.listLengthHint
 refine wpAny_bind (wpAny_specialOf hT yz ?_)
 show wpAny _ _ (specialOf (Value.ref I) (Str.ofString "__length_hint__")>>=_) _ _ _; refine wpAny_bind (wpAny_specialOf hT qM ?_)
 have hsp:splitId "list_reverseiterator.__length_hint__" = some ("list_reverseiterator", "__length_hint__"):=by decide +kernel
 dsimp only
 rw [hsp]
 dsimp only
 refine wpAny_bind (wpAny_isInstance (T := "list_reverseiterator") (b:=true) hT sub_self ?_)
 rw [if_neg (show ¬ ((!true)=true) by decide)]
 refine wpAny_ite_split (fun _=>?_) (fun hab=>absurd (by decide +kernel) hab)
 rw [if_neg (show ¬ ((Value.builtin "list_reverseiterator.__length_hint__" == Value.builtin "range_iterator.__length_hint__")=true) by decide)]
 exact wpAny_pure h
theorem vI {R:Result->Shared->Prop} {I l S:Addr} {items:Array Value} {c₀:Nat} (res:Value) (hh:A.handled=none) (hne:l≠I) (hit:s.heap.IsRevIter I l ((items.size:Int)-1)) (hl:s.heap.IsList l items) (hSI:S≠I) (hSl:S≠l) (hn:items.size<=sizeLine)
  (hS:s.heap.get? S=some { cls:=.type "list",data:=.seq #[] c₀ })
  (hR:∀ h' tk acc' c',(∀ b o,b≠S->b≠I->s.heap.get? b=some o->h'.get? b=some o)->h'.get? S=some { cls:=.type "list",dict:=none,data:=.seq acc' c',slots:=#[] }->ItemsOf (fun i v=>items[items.size-1-i]?=some v) acc' items.size->R (.ok (.ret res)) { s with heap:=h',toks:=tk }) :
  wpAny (model prog w) A.in1 (Builtin.List.listExtendWith (.ref S) (.ref I) res)
   (fun fin s'=>match fin with | .done f=>R (.ok f) s' | .again c'=>c'.quiet=true/\codeAny (model prog w) A c' R s') (fun e s'=>R (.error e) s') s:=by
 have W:=(Walks.listRev (prog:=prog) (w:=w) (A:=A.in1) hh I l hne items).toS
 have hSf:S ∉ [I,l]:=by simp [hSI,hSl]
 unfold Builtin.List.listExtendWith; refine wpAny_bind (wpAny_typeOf hit.typeIs ?_)
 have h1:Builtin.List.listSameRef (.ref S) (.ref I)=false:=by simp [Builtin.List.listSameRef,hSI]
 have h2:(Value.type "list_reverseiterator" == Value.type "list")=false/\(Value.type "list_reverseiterator" == Value.type "tuple")=false:=by decide
 rw [h1,h2.1,h2.2]; simp only [Bool.or_false,Bool.false_eq_true,if_false]
 refine wpAny_bind (wpAny_pyIter_revIter hit ?_)
 refine wpAny_bind (wpAny_holding (qK hit ?_))
 refine wpAny_ite_split (fun hab=>absurd hab (by decide +kernel)) (fun _=>?_)
 refine wpAny_pure ⟨plainId_quiet F.plain_extend_loop _,?_⟩
 refine codeAny_extend_loopS W hn S hSf res items.size 0 s #[] c₀ rfl (Nat.zero_le _) ⟨Nat.zero_le _,by simpa using hit,hl⟩ hS (ItemsOf.nil _) fun s' acc' c' hm hS' hacc=>?_
 rw [Moved.eq_with hm]; exact hR s'.heap s'.toks acc' c' (fun b o hb hbI e=>hm.heap b o (by simp [hb,hbI]) e) hS' hacc
theorem call_list_rev {I l:Addr} {items:Array Value} {Q:Value->Shared->Prop} (hh:A.handled=none) (hne:l≠I) (hit:s.heap.IsRevIter I l ((items.size:Int)-1)) (hl:s.heap.IsList l items) (hn:items.size<=sizeLine)
  (hQ:∀ h' tk acc' c',(∀ b o,b≠I->s.heap.get? b=some o->h'.get? b=some o)->h'.get? s.heap.objs.size=some { cls:=.type "list",dict:=none,data:=.seq acc' c',slots:=#[] }->ItemsOf (fun i v=>items[items.size-1-i]?=some v) acc' items.size->Q (.ref s.heap.objs.size) { s with heap:=h',toks:=tk }) :
  wpAny (model prog w) A (call (.type "list") [.ref I]) Q E s:=by
 obtain ⟨oi,hi,hi2⟩:=id hit
 obtain ⟨ol,hol,hol2⟩:=id hl
 have hSI:s.heap.objs.size≠I:=fun e=>absurd (Heap.lt_size hi) (by rw [<- e]; exact Nat.lt_irrefl _)
 have hSl:s.heap.objs.size≠l:=fun e=>absurd (Heap.lt_size hol) (by rw [<- e]; exact Nat.lt_irrefl _)
 refine callType_codes (Q₁:=fun obj s₁=>obj=.ref s.heap.objs.size/\s₁={ s with heap:=s.heap.push { cls:=.type "list",data:=.seq #[] } }) F.called_list (F.typeCall_list_1 _) F.entry_list_init (code_list_new _ ⟨rfl,rfl⟩) fun obj s₁ h₁=>?_
 obtain ⟨rfl,rfl⟩:=h₁
 have hS:(s.heap.push { cls:=.type "list",data:=.seq #[] }).get? s.heap.objs.size=some { cls:=.type "list",data:=.seq #[] }:=Heap.get?_push_size _ rfl
 refine ⟨⟨_,hS,rfl⟩,F.args_list_init_2 _ _,?_⟩
 show wpAny _ _ (do let old <- Builtin.List.listItems (.ref s.heap.objs.size); Builtin.List.listUpdate (.ref s.heap.objs.size) (fun _=>#[]); letGo old.toList.reverse; Builtin.List.listExtendWith (.ref s.heap.objs.size) (.ref I) .none) _ _ _
 refine wpAny_bind ?_; unfold Builtin.List.listItems; refine wpAny_bind (wpAny_seqItems hS rfl (wpAny_pure ?_))
 show wpAny _ _ (updateSeq s.heap.objs.size (fun _=>#[])>>=fun _=>letGo (#[]:Array Value).toList.reverse>>=fun _=>Builtin.List.listExtendWith (.ref s.heap.objs.size) (.ref I) .none) _ _ _
 refine wpAny_bind (wpAny_updateSeq hS rfl ?_)
 have hS₂:=Heap.get?_update_self (Obj.mapSeq (fun _=>(#[]:Array Value))) hS rfl
 have oth:∀ b o,s.heap.get? b=some o->((s.heap.push { cls:=.type "list",data:=.seq #[] }).update s.heap.objs.size (Obj.mapSeq (fun _=>(#[]:Array Value)))).get? b=some o:=fun b o e=>by
  have hb:b≠s.heap.objs.size:=fun z=>absurd (Heap.lt_size e) (by rw [z]; exact Nat.lt_irrefl _)
  exact (Heap.get?_update_other _ _ (Ne.symm hb)).trans (Heap.get?_push_of_some _ e)
 refine wpAny_bind (wpAny_letGo ?_)
 refine vI (s:={ s with heap:=(s.heap.push { cls:=.type "list",data:=.seq #[] }).update s.heap.objs.size (Obj.mapSeq (fun _=>(#[]:Array Value))) }) .none hh hne ⟨oi,oth _ _ hi,hi2⟩ ⟨ol,oth _ _ hol,hol2⟩ hSI hSl hn hS₂ fun h' tk acc' c' hk hS' hacc=>?_
 refine ⟨rfl,hQ h' tk acc' c' (fun b o hb e=>hk b o (fun z=>absurd (Heap.lt_size e) (by rw [z]; exact Nat.lt_irrefl _)) hb (oth b o e)) hS' hacc⟩
end
end TL
namespace TP
open PySem L2
theorem mK {its:List Value} {acc:Array Value} (h:ItemsOf (fun i v=>its.toArray[its.toArray.size-1-i]?=some v) acc its.toArray.size):acc.toList=its.reverse:=by
 obtain ⟨h1,h2⟩:=h
 have hl:its.toArray.size=its.length:=List.size_toArray
 rw [hl] at h1
 apply List.ext_getElem
 ·rw [Array.length_toList,List.length_reverse,h1]
 ·intro i q1 q2
  have hi:i<acc.size:=by simpa using q1
  have:=h2 i acc[i] (Array.getElem?_eq_getElem hi)
  rw [hl] at this
  rw [List.getElem_reverse,Array.getElem_toList]
  have e:its.toArray[its.length-1-i]?=some (its[its.length-1-i]'(by omega)):=by simp
  rw [e] at this
  exact (Option.some.inj this).symm
section
variable {X:Cx}
def tRv (K:Frag) (f:List V->HO) (ta:TA):TE:=fun σ H Q=>ta σ H fun vs H1=>∃ a xs,vs = [.ref a]/\SqL K H1 a xs/\∀ p,H1 p=none->Q (.ref p) (upd H1 p (f xs.reverse))
theorem uv {a:Expr} {ta:TA} {p pos p2 pos2:Pos} (hc:X.calm=true) (hgl:Gl X "list") (hml:X.mg "list" = none) (hg:Gl X "reversed") (hm:X.mg "reversed" = none) (ha:PA X [a] ta) (hs:starEach [a] X.env = [(false,eval a X.env)]:=by rfl)
  (hs2:starEach [.Call (.Name "reversed" p2) [a] [] pos2] X.env = [(false,eval (.Call (.Name "reversed" p2) [a] [] pos2) X.env)]:=by rfl):PE X (.Call (.Name "list" p) [.Call (.Name "reversed" p2) [a] [] pos2] [] pos) (tRv X.K .lst ta):=by
 intro pins s σ H Q I h
 refine wpAny_Call_Name_kw (K7 I hgl hml fk ?_ (by decide) (by decide))
 refine PyProof.Rows.callWith_type1 ?_ hs2 (by rfl)
 rw [hs2]
 show wpAny _ _ (spliced [(false,eval (.Call (.Name "reversed" p2) [a] [] pos2) X.env)]) _ _ s
 refine Calls.spliced_cons ?_
 refine wpAny_Call_Name_kw (K7 I hg hm jp ?_ (by decide) (by decide))
 refine PyProof.Rows.callWith_type1 (thn (ha pos2 pins s σ H _ I h) fun us s1 zz90=>?_) hs (by rfl)
 obtain ⟨vs,H1,I1,r1,q1⟩:=zz90
 obtain ⟨b,xs,e,hq,q⟩:=q1
 subst e
 obtain ⟨u,rfl,ru⟩:=L4 r1
 cases ru
 obtain ⟨its,rv,pl,hz⟩:=I1.list hq
 have hl:=rv.length
 have hsz:its.toArray.size<=sizeLine:=by rw [List.size_toArray,<- hl]; exact hz
 obtain ⟨ol,hol,hol2⟩:=id pl.isList
 have hbI:b≠s1.heap.objs.size:=fun z=>absurd (Heap.lt_size hol) (by rw [z]; exact Nat.lt_irrefl _)
 refine call_reversed_list pl.isList (Calls.spliced_nil ?_)
 refine TL.call_list_rev (s:={ s1 with heap:=s1.heap.push (revObj b ((its.toArray.size:Int)-1)) }) (I1.ok.hd hc) hbI ⟨_,Heap.get?_push_size _ rfl,rfl,rfl⟩ ⟨ol,Heap.get?_push_of_some _ hol,hol2⟩ hsz fun h' tk acc' c' hk hS hacc=>?_
 have e1:=mK hacc
 have hkeep:∀ b o,s1.heap.get? b=some o->h'.get? b=some o:=fun b o e=>hk b o (fun z=>absurd (Heap.lt_size e) (by rw [z]; exact Nat.lt_irrefl _)) (Heap.get?_push_of_some _ e)
 have hge:s1.heap.objs.size<=(s1.heap.push (revObj b ((its.toArray.size:Int)-1))).objs.size:=by rw [show (s1.heap.push (revObj b ((its.toArray.size:Int)-1))).objs.size=s1.heap.objs.size+1 from by simp [Heap.push]]; omega
 refine ⟨.ref (s1.heap.push (revObj b ((its.toArray.size:Int)-1))).objs.size,_,I1.laid (t':=tk) hkeep hge (show ObjOk X.prog X.w _ h' _ (.lst xs.reverse) from ⟨by rw [List.length_reverse]; exact hz,its.reverse,c',Vals.reverse rv,?_⟩),rfl,q _ (I1.hok.fresh hge)⟩
 rw [<- e1]; simpa using hS
end
def dL:List W->R W
 | [w]=>match w with
  | .lst ws=>chks false ws.reverse
  | _=>.stuck
 | _=>.stuck
section
variable {K:Frag} {EX:EXT} {σ:St} {H:Hp} {Q:VK}
theorem AI {ma:Rho->R (List W)} (h:tM K EX .F (bA dL ma) σ H Q):tRv K .lst (tA K EX .B ma) σ H Q:=by
 obtain ⟨H0,G,ρ,I,o⟩:=h
 replace o:Out EX G H (mdW K .F H0 H) (ma ρ>>=dL) Q:=o
 refine ⟨H0,G,ρ,I,Out.bind o fun xs G1 H1 ws e1 m1 o1=>?_⟩
 have I1:=I.ext e1
 cases m1 with
 | nil=>exact o1.elim
 | cons a t=>
  cases t with
  | cons _ _=>exact o1.elim
  | nil=>
   rename_i w v
   cases w <;> first | exact o1.elim | skip
   rename_i us
   obtain ⟨p,vs,rfl,hs,r⟩:=a.lstB I1
   exact ⟨p,vs,rfl,SqL.of hs,Out.chks I1 e1.hh (c:=false) (by rw [if_neg Bool.false_ne_true]; exact r.reverse) o1⟩
end
section
variable {X:Cx} {K:Frag} {EX:EXT} {a:Expr} {pos:Pos} {mr:Rho->R (List W)}
theorem xS {p p2 pos2:Pos} (hc:X.calm=true) (hgl:Gl X "list") (hml:X.mg "list" = none) (hg:Gl X "reversed") (hm:X.mg "reversed" = none) (ha:PA X [a] (tA K EX .B mr)) (hK:X.K=K:=by rfl) (hs:starEach [a] X.env = [(false,eval a X.env)]:=by rfl)
  (hs2:starEach [.Call (.Name "reversed" p2) [a] [] pos2] X.env = [(false,eval (.Call (.Name "reversed" p2) [a] [] pos2) X.env)]:=by rfl):PE X (.Call (.Name "list" p) [.Call (.Name "reversed" p2) [a] [] pos2] [] pos) (tM K EX .F (bA dL mr)):=by
 subst hK; exact (uv hc hgl hml hg hm ha hs hs2).mono fun _ _ _ q=>AI q
end
theorem jY (ns:List Int):dL [.lst (ns.map W.int)]=.ok (.lst (ns.reverse.map W.int)):=by
 have hn:∀ l:List Int,m7 (l.map W.int)=true:=fun l=>by induction l with | nil=>rfl | cons a l ih=>simpa [m7,noL] using ih
 show TP.chks false (ns.map W.int).reverse=_
 rw [<- List.map_reverse]
 unfold TP.chks
 rw [hn,Bool.or_true,if_pos rfl]
end TP
namespace TP
open PySem L2
def eQ (u:W) (ws:List W):Option Nat:=(pds ws).findIdx? fun y=>PyData.eqv y (pd u)
def gB (K:Frag):V->List V->Hp->VK->Prop:=fun x vs H Q=>∃ u ws y j,vs = [y]/\Rep K H y u/\Rep K H x (.lst ws)/\shp 8 u=true/\shp 8 (.lst ws)=true/\eQ u ws=some j/\j<1000/\Q (.int (j:Int)) H
section
variable {X:Cx}
theorem qm (hu:X.A.units+64<cLine):MtR X "list.index" (gB X.K):=by
 intro pins s σ H x vs v us Q I rx rv h
 obtain ⟨u,ws,y,j,rfl,ry,rc,su,sc,hj,hj1,q⟩:=h
 obtain ⟨uy,rfl,rr⟩:=rv.one
 obtain ⟨as,qa⟩:=Rep.reads I 8 ry su rr
 obtain ⟨bs,qb⟩:=Rep.reads I 8 rc sc rx
 have la:=aJ u 8 su
 have lc:=dZ ws 7 sc
 have hm:X.A.units+1+min (PyData.depthAll (pds ws)) (pd u).depth<cLine:=by have:=Nat.min_le_left (PyData.depthAll (pds ws)) (pd u).depth; omega
 have qb:Reads s.heap v (.list (pds ws)) bs:=qb
 cases qb with
 | list h1 h2 h3 h4=>
  rename_i a o items n as'
  obtain ⟨oc,od,odt,osl⟩:=o
  have h2:oc=.type "list" := h2
  have h3:odt=.seq items n:=h3
  subst h2 h3
  have hmap:=SeqAt.readsAll_map (pds ws) _ _ lc.1 h4
  have heq:=SeqAt.items_eqAt (A:=X.A) h4 qa lc.1 la.1 hm
  unfold eQ at hj
  rw [<- hmap,List.findIdx?_map,List.findIdx?_eq_some_iff_getElem] at hj
  obtain ⟨hlt,ht,hno⟩:=hj
  have hlt':j<items.size:=by simpa using hlt
  refine call_meets PySem.F.slot_list_index ⟨_,h1,rfl⟩ PySem.F.entry_list_index (PySem.F.args_list_index_2 _ _) (SeqAt.list_indexAt a items n od osl uy (fun z=>PyData.eqv (SeqAt.readOf s.heap z) (pd u)) j hlt' (by omega) (by simpa using ht) (fun m hm1 hm2=>by simpa using hno m hm2)) ⟨h1,heq,?_⟩
  exact ⟨.int (j:Int),H,I.tok _,⟨_,rfl⟩,q⟩
end
def ix (ws:List W) (u:W):R W:=if (shp 8 u&&shp 8 (.lst ws))=true then (match eQ u ws with
 | some j=>if j<1000 then .ok (.int (j:Int)) else .stuck
 | none=>.stuck) else .stuck
def Rix (x:R W) (y:R W):R W:=x>>=fun x=>(match x with
 | .lst ws=>y>>=fun y=>ix ws y
 | _=>.stuck)
def il (mo me:Rho->R W):Rho->R W:=fun ρ=>Rix (mo ρ) (me ρ)
theorem jT (mo me:Rho->R W) (ρ:Rho):il mo me ρ=Rix (mo ρ) (me ρ):=rfl
theorem oO (ws:List W) (u:W):Rix (.ok (.lst ws)) (.ok u)=ix ws u:=rfl
section
variable {K:Frag} {EX:EXT} {d:Mode} {σ:St} {H:Hp} {Q:VK}
theorem vS {mo me:Rho->R W} (h:tM K EX d (il mo me) σ H Q):tBM K "list" (gB K) (tM K EX .B mo) (tA K EX .B (aC me aN)) σ H Q:=by
 obtain ⟨H0,G,ρ,I,o⟩:=h
 unfold il Rix at o
 refine ⟨H0,G,ρ,I,Out.bind o fun x G1 H1 w e1 m1 o1=>?_⟩
 have I1:=I.ext e1
 cases w <;> first | exact o1.elim | skip
 rename_i ws
 obtain ⟨p,vs,rfl,hs,_⟩:=m1.lstB I1
 refine ⟨.inl ⟨rfl,vs,SqL.of hs⟩,H0,G1,ρ,I1,?_⟩
 have key:Out EX G1 H1 (mdW K .B H0 H1) (me ρ) fun y H2=>gB K (.ref p) [y] H2 Q:=Out.bind (md:=mdW K .B H0 H1) o1 fun y G2 H2 u e2 m2 o2=>by
  have I2:=I1.ext e2
  unfold ix at o2
  by_cases c:(shp 8 u&&shp 8 (.lst ws))=true
  ·rw [if_pos c] at o2
   have c':shp 8 u=true/\shp 8 (.lst ws)=true:=by simpa using c
   cases hj:eQ u ws with
   | none=>rw [hj] at o2; exact o2.elim
   | some j=>
    rw [hj] at o2
    by_cases hl:j<1000
    ·dsimp only at o2
     rw [if_pos hl] at o2
     exact ⟨u,ws,y,j,rfl,m2.whole I2,(m1.move e2).whole I2,c'.1,c'.2,hj,hl,o2 _ G2 H2 (Ext.refl I2.gh) (Md.sca rfl (fun _=>.int) d)⟩
    ·dsimp only at o2
     rw [if_neg hl] at o2; exact o2.elim
  ·rw [if_neg c] at o2; exact o2.elim
 show Out EX G1 H1 (mdA K .B H0 H1) (me ρ>>=fun w=>aN ρ>>=fun ws=>.ok (w::ws)) _
 revert key
 cases me ρ with
 | stuck=>exact id
 | ex e=>exact id
 | ok u=>
  intro key v G2 H2 e2 m2
  cases m2 with
  | cons a t=>cases t; exact key _ G2 H2 e2 a
end
section
variable {X:Cx} {K:Frag} {EX:EXT} {d:Mode} {o e:Expr} {apos cpos:Pos} {mo me:Rho->R W}
theorem uf (hu:X.A.units+64<cLine) (ho:PE X o (tM K EX .B mo)) (he:PE X e (tM K EX .B me)) (hK:X.K=K:=by rfl)
  (hbase:attributeBase o "index" X.env (eval o X.env)=eval o X.env:=by rfl)
  (hfew:((backTo cpos (starEach [e] X.env)).all (fun x=>!x.1)&&(backToKw cpos (keywordEach [] X.env)).all (fun x=>x.1.isSome)
   && decide (([e]:List Expr).length+([]:List Keyword).length+(if ([]:List Keyword).isEmpty then 0 else 1)<30))=true:=by rfl)
  (hline:(apos.endLine == cpos.line)=true:=by rfl) (hs:starEach [e] X.env=(false,eval e X.env)::starEach [] X.env:=by rfl) (hplain:(backTo cpos (starEach [] X.env)).any (·.1)=false:=by rfl) :
  PE X (.Call (.Attribute o "index" apos) [e] [] cpos) (tM K EX d (il mo me)):=by
 subst hK; exact (BC PySem.F.plainAttrs_list PySem.F.slot_list_index PySem.F.type_list_index (qm hu) ho (b7 he b9 hs) hbase hfew hline hs hplain).mono fun _ _ _ q=>vS q
end
end TP
namespace TP
open PySem L2
def OutW (K:Frag) (EX:EXT) (d:Mode) (H0:Hp) (r:R Fl) (D:Ends):Prop:=match r with
 | .ok (.nx ρ)=>∀ G' σ' H',PIv K H0 G' ρ σ' H'->D.nx σ' H'
 | .ok (.bk ρ)=>∀ G' σ' H',PIv K H0 G' ρ σ' H'->D.bk σ' H'
 | .ok (.ct ρ)=>∀ G' σ' H',PIv K H0 G' ρ σ' H'->D.ct σ' H'
 | .ok (.rt w)=>∀ v G' H',Same G' H'->Same H0 H'->(∀ a o,H0 a=some o->isL o=true->G' a=none)->Md K H0 H0 G' H' v w d->D.rt v H'
 | .ex e=>∀ H',Same H0 H'->EX e H'
 | .stuck=>False
def tStW (K:Frag) (EX:EXT) (d:Mode) (m:Rho->R Fl):TS:=fun D σ H=>∃ H0 G ρ,PIv K H0 G ρ σ H/\OutW K EX d H0 (m ρ) D
section
variable {K:Frag} {EX:EXT} {H0 G H G1 H1 G2 H2:Hp} {ρ:Rho} {σ:St} {d:Mode} {D:Ends}
def clS:Sl->Sl
 | .un=>.un
 | .val w=>if noL w=true then .val w else .un
 | .par w=>if noL w=true then .val w else .un
 | .own ws=>if m7 ws=true then .own ws else .un
 | .dic ks=>.dic ks
 | .dik ks=>.dik ks
 | .iop p ws=>if m7 ws=true then .iop p ws else .un
 | .hz _=>.un
def subS (i j:Nat) (us ws':List W) (ρ:Rho):Rho:=(ρ.map clS).set i (.val (.tup (us.set j (.lst ws'))))
end
section
variable {X:Cx} {K:Frag} {EX:EXT} {d:Mode} {e:Expr} {pos:Pos} {ma:Rho->R W} {m n:Rho->R Fl} {ta:Rho->R Bool} {st:Stmt} {sts:List Stmt}
end
end TP
namespace TP
open PySem L2
set_option maxHeartbeats 2000000
section
variable {X:Cx} {K:Frag}
end
section
variable {K:Frag}
end
end TP
namespace TP
open PySem L2
def Hx (p:Addr) (H0 H1:Hp):Prop:=(∀ a,a≠p->H1 a=H0 a)/\∃ vs,H1 p=some (.lst vs)
def CG (K:Frag) (EX:EXT) (p:Addr) (H0:Hp) (r:R Fl) (D:Ends):Prop:=match r with
 | .ok (.nx ρ)=>∀ H0' G' σ' H',Hx p H0 H0'->PIv K H0' G' ρ σ' H'->D.nx σ' H'
 | .ok (.bk ρ)=>∀ H0' G' σ' H',Hx p H0 H0'->PIv K H0' G' ρ σ' H'->D.rt .non H'
 | .ex e=>∀ H',EX e H'
 | _=>False
def tStI (K:Frag) (EX:EXT) (p:Addr) (m:Rho->R Fl):TS:=fun D σ H=>∃ H0 G ρ,PIv K H0 G ρ σ H/\(∃ vs,H0 p=some (.lst vs))/\CG K EX p H0 (m ρ) D
def nbR:R Fl->R Fl
 | .ok (.nx ρ)=>.ok (.nx ρ)
 | .ex e=>.ex e
 | _=>.stuck
def nb (m:Rho->R Fl):Rho->R Fl:=fun ρ=>nbR (m ρ)
section
variable {K:Frag} {EX:EXT} {H0 H0' G H G1 H1 G2 H2:Hp} {ρ:Rho} {σ:St} {d:Mode} {D:Ends} {p:Addr}
def clI:Sl->Sl
 | .un=>.un
 | .val w=>.val w
 | .par w=>if noL w=true then .val w else .un
 | .own ws=>.own ws
 | .dic ks=>.dic ks
 | .dik ks=>.dik ks
 | .iop _ _=>.un
 | .hz _=>.un
def ioR (p:Addr) (ρ:Rho):R (List W):=match (ρ[1]?:Option Sl) with
 | some (.iop q cs)=>if q=p then .ok cs else .stuck
 | _=>.stuck
def Bp (n N:Nat) (m:Addr->Rho->R Fl) (p:Addr) (w1:W) (cs wr:List W):R (List W):=if wr.length+2=n/\m7 cs=true then (match m p (.par w1::.iop p cs::(wr.map Sl.par++List.replicate (N-n) Sl.un)) with
 | .ok (.nx ρ)=>ioR p ρ
 | .ok (.bk ρ)=>ioR p ρ
 | _=>.stuck) else .stuck
open Classical in
def runIOA (n N:Nat) (m:Addr->Rho->R Fl) (w1:W) (cs wr:List W):R (List W):=if h:∃ cs',∀ p,Bp n N m p w1 cs wr=.ok cs' then .ok (Classical.choose h) else .stuck
end
section
variable {X:Cx} {K:Frag} {EX:EXT} {d:Mode} {e:Expr} {es:List Expr} {pos:Pos} {ma:Rho->R W} {m n:Rho->R Fl} {ta:Rho->R Bool} {st:Stmt} {sts:List Stmt} {p:Addr} {mr:Rho->R (List W)}
end
end TP
namespace TP
open PySem L2
section
variable {K:Frag} {EX:EXT} {H0 G H:Hp} {ρ:Rho} {σ:St}
end
section
variable {X:Cx} {K:Frag} {e:Expr} {es:List Expr} {pos:Pos} {mr:Rho->R (List W)}
end
end TP
namespace TP
open PySem L2
section
variable {X:Cx}
end
def mIns (i:Nat) (m:Rho->R W):Rho->R Fl:=fun ρ=>match ρ[i]? with
 | some (.own ws)=>m ρ>>=fun w=>if ws.length<1000 then .ok (.nx (ρ.set i (.own (w::ws)))) else .stuck
 | _=>.stuck
section
variable {K:Frag} {EX:EXT} {H0 G H:Hp} {ρ:Rho} {σ:St} {d:Mode} {D:Ends}
end
section
variable {X:Cx} {K:Frag} {EX:EXT} {d:Mode} {e:Expr} {pos:Pos} {ma:Rho->R W}
end
end TP
namespace TP
open PySem L2
section
open PySem.W PyProof.Rows
variable {prog:Program} {w:World} {A:Around} {E:Value->Shared->Prop} {s:Shared}
theorem items_int:∀ {xs:List Int} {its:List Value},Vals (xs.map V.int) its->ItemsAre (intKind prog w) xs its:=by
 intro xs
 induction xs with
 | nil=>intro its h; cases h; exact .nil
 | cons x xs ih=>
  intro its h
  cases h with
  | cons r t=>
   obtain ⟨tk,rfl⟩:=r
   exact .cons (by simp [intKind,Value.isInt]) (ih t)
end
end TP
namespace TP
open PySem L2
section
variable {X:Cx} {pins:List (Addr×Obj)} {σ:L2.St} {H:Hp} {s:Shared}
end
section
open PySem.W PyProof.Rows
variable {Y:Cx} {K:Frag} {pn:List (Addr×Obj)} {σ:L2.St}
end
end TP
namespace TP
open PySem L2
section
open PySem.W PyProof.Rows
variable {Y:Cx} {K:Frag} {pins:List (Addr×Obj)} {σ:L2.St}
end
section
open PySem.W PyProof.Rows
variable {X:Cx} {K:Frag}
end
section
variable {K:Frag}
end
section
variable {X:Cx} {K:Frag} {EX:EXT} {e:Expr} {pos:Pos} {mr:Rho->R (List W)}
end
end TP
namespace TP
open PySem L2
section
open PySem.W PyProof.Rows
variable {X:Cx} {e:Expr} {te:TE} {st:Expr} {tk:TO} {pos p2:Pos}
end
section
variable {K:Frag} {EX:EXT} {σ:St} {H:Hp} {Q:VK}
end
section
variable {X:Cx} {K:Frag} {EX:EXT} {e:Expr} {pos:Pos} {ma:Rho->R W}
end
end TP
namespace TP
open PySem L2
section
variable {K:Frag} {EX:EXT} {H0 G H:Hp} {ρ:Rho} {σ:St} {d:Mode} {D:Ends}
end
section
variable {X:Cx} {K:Frag} {EX:EXT} {d:Mode} {e:Expr} {pos:Pos} {ma:Rho->R W}
end
end TP
namespace TP
open PySem L2
section
variable {K:Frag} {EX:EXT} {H0 G H G1 H1 F:Hp} {ρ:Rho} {σ:St} {d:Mode} {D:Ends}
end
section
variable {X:Cx} {K:Frag} {EX:EXT} {d:Mode} {e k v:Expr} {pos:Pos} {mk me:Rho->R W}
end
end TP
namespace TP
open PySem PyProof.Rows
def kk (rk:Keyed->Int) (xs:Array Keyed) (i:Nat):Int:=match xs[i]? with
 | some p=>rk p
 | none=>0
theorem sb1 {A n:Nat} (h0:0<n) (h:n<=A):A-(n-1)=A-n+1:=by
 cases n with
 | zero=>exact absurd h0 (Nat.lt_irrefl _)
 | succ m=>exact (Nat.succ_pred_eq_of_pos (Nat.sub_pos_of_lt h)).symm
theorem sb2 {A n k:Nat} (h:n<=A) (hk:k<=n):A-k=A-n+(n-k):=(Nat.sub_add_sub_cancel h hk).symm
theorem sb3 {lo x q k:Nat} (hq:q<=x) (h:lo+x-q<=k):x-q<=k-lo:=by rw [Nat.add_sub_assoc hq] at h; exact Nat.le_sub_of_add_le' h
theorem sb4 {lo x q k:Nat} (hq:q<=x) (h:lo+x-q<=k):lo+(k-lo)=k:=Nat.add_sub_cancel' (Nat.le_trans (by rw [Nat.add_sub_assoc hq]; exact Nat.le_add_right _ _) h)
theorem sb5 {lo j:Nat} (h:0<j):lo+(j-1)=lo+j-1:=(Nat.add_sub_assoc h lo).symm
section
variable {prog:Program} {w:World} {A:Around} {E:Value->Shared->Prop} {s:Shared} {a₀:Array Keyed} {κ:SortKind} {rk:Keyed->Int}
end
def upL (rk:Keyed->Int) (l:List Keyed):Prop:=l.Pairwise fun x y=>rk x<=rk y
structure Mg (rk:Keyed->Int) (t:List Keyed) (out ra rb:List Keyed):Prop where
 perm:(out++(ra++rb)).Perm t
 up:upL rk out
 le:∀ x∈out,∀ y∈ra++rb,rk x<=rk y
def Gd (rk:Keyed->Int) (t res:List Keyed):Prop:=res.Perm t/\upL rk res
section
variable {rk:Keyed->Int} {t out p ra rb:List Keyed}
end
section
variable {prog:Program} {w:World} {A:Around} {E:Value->Shared->Prop} {s:Shared} {a₀:Array Keyed} {κ:SortKind} {rk:Keyed->Int}
abbrev gS (st:SortSt) (g:Nat):SortSt:=SortSt.mk' (kindOf st) (arrOf st) (pendingOf st) g (failedOf st)
end
section
variable {prog:Program} {w:World} {A:Around} {E:Value->Shared->Prop} {s:Shared} {a₀:Array Keyed} {κ:SortKind} {rk:Keyed->Int}
abbrev rn (rk:Keyed->Int) (x:Keyed):Int:=-rk x
abbrev rv (a:Array Keyed):List Keyed:=a.toList.reverse
end
section
variable {prog:Program} {w:World} {A:Around} {E:Value->Shared->Prop} {s:Shared} {a₀:Array Keyed} {κ:SortKind} {rk:Keyed->Int}
end
section
variable {prog:Program} {w:World} {A:Around} {E:Value->Shared->Prop} {s:Shared} {a₀:Array Keyed} {κ:SortKind} {rk:Keyed->Int} {arr:Array Keyed} {pd:Array (Nat×Nat×Nat)} {g lo:Nat}
structure Rl (lo:Nat) (arr arr':Array Keyed):Prop where
 perm:arr'.toList.Perm arr.toList
 same:∀ k,k<lo->arr'[k]?=arr[k]?
end
section
variable {prog:Program} {w:World} {A:Around} {E:Value->Shared->Prop} {s:Shared} {a₀:Array Keyed} {κ:SortKind} {rk:Keyed->Int} {arr:Array Keyed} {pd:Array (Nat×Nat×Nat)} {g lo:Nat}
end
end TP
namespace TP
open PySem L2
section
open PySem.W PyProof.Rows
variable {prog:Program} {w:World} {A:Around} {E:Value->Shared->Prop} {s:Shared}
open Classical in
def rkV (vs:List Value) (ss:List (List Int)) (p:Keyed):Int:=if h:∃ i,i<vs.length/\vs.getD i Value.none=p.1 then Bq ss h.choose else 0
end
section
variable {X:Cx} {K:Frag}
end
section
variable {K:Frag}
end
end TP
namespace TP
open PySem L2
section
variable {K:Frag} {EX:EXT} {H0 G H G1 H1 F:Hp} {ρ:Rho} {σ:St} {d:Mode} {D:Ends}
end
section
variable {X:Cx} {K:Frag} {d:Mode} {e:Expr} {es:List Expr} {pos:Pos} {mr:Rho->R (List W)}
end
end TP
namespace TP
open PySem L2
section
variable {K:Frag} {EX:EXT} {X:Cx} {tg e:Expr} {ma:Rho->R W}
end
end TP
namespace TP
open PySem L2
def CH (H:Hp):Prop:=∀ a vs,H a≠some (.lst vs)
def OutN (K:Frag) (d:Mode) (Hb:Hp) (r:R Fl) (D:Ends):Prop:=match r with
 | .ok (.nx ρ)=>∀ H0 G' σ' H',Same Hb H0->PIv K H0 G' ρ σ' H'->D.nx σ' H'
 | .ok (.rt w)=>∀ v G' H',Same G' H'->Same Hb H'->(∀ a o,Hb a=some o->isL o=true->G' a=none)->Md K Hb Hb G' H' v w d->D.rt v H'
 | _=>False
def tStN (K:Frag) (EX:EXT) (d:Mode) (m:Rho->R Fl):TS:=fun D σ H=>∃ Hb H0 G ρ,CH Hb/\Same Hb H0/\PIv K H0 G ρ σ H/\OutN K d Hb (m ρ) D
section
variable {K:Frag} {EX:EXT} {Hb H0 G H G1 H1 G2 H2:Hp} {ρ:Rho} {σ:St} {d:Mode} {D:Ends}
end
section
variable {X:Cx} {K:Frag} {EX:EXT} {d:Mode} {e:Expr} {es:List Expr} {pos:Pos} {ma:Rho->R W} {mr:Rho->R (List W)} {m n:Rho->R Fl} {ta:Rho->R Bool} {st:Stmt} {sts:List Stmt}
end
end TP
namespace TP
open PySem L2
open PyProof.Rows (envOfC)
def XE1 (K:Frag) (E:XK):EXT:=fun e H=>∀ (C:Addr) (od:Option Addr),PySem.W.nsIn K mainGlobals e.cls=some (some (.ref C))->XD H od e.at_->E (.ref C) od H
def spR (K:Frag) (n:Nat) (d:Mode) (f:List W->R W):Sp:=fun vs H Q E=>vs.length=n/\∃ ws,Reps K H vs ws/\match f ws with
 | .ok w=>∀ v G' H',Same H H'->Same G' H'->(∀ a o,H a=some o->isL o=true->G' a=none)->Md K H H G' H' v w d->Q v H'
 | .ex e=>∀ H',Same H H'->XE1 K E e H'
 | .stuck=>False
def calm (f:List W->R W):List W->R W:=fun ws=>match f ws with
 | .ok w=>.ok w
 | _=>.stuck
section
variable {K:Frag} {EX:EXT} {H0 G H G1 H1 G2 H2:Hp} {ρ:Rho} {σ:St} {d:Mode} {D:Ends}
def flUn (j:Nat):Fl->R Fl
 | .nx ρ=>.ok (.nx (ρ.set j .un))
 | .bk ρ=>.ok (.bk (ρ.set j .un))
 | .ct ρ=>.ok (.ct (ρ.set j .un))
 | .rt w=>.ok (.rt w)
def mExc (c:Str) (j:Nat) (mb:Rho->R Fl) (e:XW) (ρ:Rho):R Fl:=if e.cls=c then mb (ρ.set j (.val (.exc e.cls e.at_)))>>=flUn j else .stuck
end
section
variable {X:Cx} {K:Frag} {EX:EXT} {d:Mode} {e:Expr} {es:List Expr} {pos:Pos} {ma:Rho->R W} {mr:Rho->R (List W)} {mb:Rho->R Fl}
end
section
variable {P:Program} {w:World} {K:Frag} {mg:Str->Option Value} {base:Heap} {N:List Str} {qual:Str} {scope:Scope} {f0:Addr} {cd:Value} {A:Around} {outer:List Env} {s0:Shared} {H0:Hp} {E:XK} {d:Mode} {e:Expr} {es:List Expr} {pos:Pos} {mr:Rho->R (List W)}
end
end TP
namespace TP
open PySem L2
def big8:Int:=2^2000
def P6 (_ j:Int):Prop:=0<j/\j<big8
instance (i j:Int):Decidable (P6 i j):=by unfold P6; infer_instance
theorem gL {X:Cx}:OpR X (binaryOp .FloorDiv) (rI P6 fun i j=>.int (i/j)):=opI fun i j _ _ _ _ _ hc q=>by
 have h1:(0:Int)<j:=hc.1
 have h2:j<big8:=hc.2
 refine PyProof.Rows.floordiv_int (by omega) (by rw [Int.fdiv_eq_ediv_of_nonneg i (by omega)]; exact q) (.inl (PyProof.noPylong_of_log2 ?_))
 have h3:j.natAbs<2^9000:=by
  have:j.natAbs<2^2000:=by
   have h4:(j.natAbs:Int)<2^2000:=by
    rw [Int.natAbs_of_nonneg (by omega)]; exact h2
   exact_mod_cast h4
  exact Nat.lt_of_lt_of_le this (Nat.pow_le_pow_right (by decide) (by decide))
 by_cases h0:j.natAbs=0
 ·omega
 ·exact (Nat.log2_lt h0).mpr h3
end TP
namespace TP
open PySem L2
section
variable {X:Cx}
end
section
variable {K:Frag} {EX:EXT} {H0 G H:Hp} {ρ:Rho} {σ:St} {d:Mode} {D:Ends} {Q:VK}
end
section
variable {X:Cx} {K:Frag} {EX:EXT} {d:Mode} {a e:Expr} {pos:Pos} {ma:Rho->R W} {mr:Rho->R (List W)}
end
end TP
namespace TP
open PySem L2
section
variable {X:Cx}
end
section
variable {K:Frag} {EX:EXT} {H0 G H:Hp} {ρ:Rho} {σ:St} {d:Mode} {D:Ends}
end
section
variable {X:Cx} {K:Frag} {EX:EXT} {d:Mode} {e1 e:Expr} {pos:Pos} {mk ma:Rho->R W}
end
end TP
namespace HT
open PySem PySem.Spec PyProof.Rows PySem.W
section
variable {prog:Program} {w:World} {A:Around} {E:Value->Shared->Prop} {s:Shared}
end
end HT
namespace TP
open PySem L2
section
open PySem.W PyProof.Rows
variable {X:Cx} {e:Expr} {te:TE} {st:Expr} {tk:TO} {pos p2:Pos}
end
section
variable {K:Frag} {EX:EXT} {σ:St} {H:Hp} {Q:VK}
end
section
variable {X:Cx} {K:Frag} {EX:EXT} {e:Expr} {pos:Pos} {ma:Rho->R W}
end
end TP
namespace TP
open PySem L2
section
variable {K:Frag} {H0 G H G1 H1:Hp} {ρ:Rho} {σ:St} {d:Mode} {D:Ends}
end
section
variable {X:Cx} {K:Frag} {d:Mode} {e:Expr} {es:List Expr} {pos:Pos} {mr:Rho->R (List W)} {mt:Rho->R Bool}
end
end TP
namespace TP
open PySem L2
theorem cT (c:Str->NameKind->Bool) (hc:∀ n k,c n k=true->k=.free) (y:Str):∀ ns:List (Str×NameKind),ns.lookup y=some .cell\/ns.lookup y=some .free->(ns.map fun (n,k)=>if c n k then (n,NameKind.cell) else (n,k)).lookup y=some .cell\/(ns.map fun (n,k)=>if c n k then (n,NameKind.cell) else (n,k)).lookup y=some .free
 | [],h=>h
 | (n,k)::ns,h=>by
  rw [List.map_cons]
  dsimp only
  rw [List.lookup_cons] at h
  by_cases q:c n k=true
  ·rw [if_pos q,List.lookup_cons]
   cases e:y == n with
   | true=>exact .inl rfl
   | false=>
    rw [e] at h
    exact cT c hc y ns h
  ·rw [if_neg q,List.lookup_cons]
   cases e:y == n with
   | true=>rw [e] at h; exact h
   | false=>
    rw [e] at h
    exact cT c hc y ns h
section
variable {K:Frag} {EX:EXT} {D:Ends} {d:Mode} {σ:St} {H:Hp}
end
section
variable {X:Cx} {K:Frag} {EX:EXT} {d:Mode} {e k v:Expr} {pos:Pos} {mk me:Rho->R W}
end
end TP
namespace TP
open PySem L2
section
variable {K:Frag} {EX:EXT} {Hb H0 G H G1 H1 G2 H2:Hp} {ρ:Rho} {σ:St} {d:Mode} {D:Ends}
end
section
variable {X:Cx} {K:Frag} {EX:EXT} {d:Mode} {e:Expr} {pos:Pos} {ma:Rho->R W}
end
end TP
namespace L2
open PySem PySem.Spec PyProof.Rows
structure D0 (sc cs:Scope) (N N':List Str) (y:Str):Prop where
 kind:cs.kind=.function
 lay:(∀ n cl,cellsFrom n cs.names cl=(y,n)::cl)/\∀ h:Heap,pushCells h cs.names=h.push { cls:=.type "cell",data:=.cell none }
 cellY:∀ x∈cs.names,x.2=.cell->x.1=y
 isY:cs.names.lookup y=some .cell
 loc:∀ x∈cs.names,x.2=.local->cs.names.lookup x.1=some .local
 free:∀ x∈cs.names,x.2=.free->sc.names.lookup x.1=some .cell\/sc.names.lookup x.1=some .free
 nd:N'.Nodup
 len:N.length<=N'.length
 same:∀ i∈List.range N.length,N'[i]?=N[i]?\/∀ x∈N'[i]?,cs.names.lookup x=none
 out:∀ x∈N'.take N.length,cs.names.lookup x≠some .local/\cs.names.lookup x≠some .cell
abbrev j7 (X:Cx) (cs:Scope) (y:Str) (cl:List (Str×Addr)) (N':List Str) (ex:List Addr) (s:Shared) (H:Hp):Cx:=
 { X with N:=N',s₀:=s,H₀:=H,env:=compEnvC cs ((y,s.heap.objs.size+1)::cl) s.heap.objs.size X.env,outer:=X.stack,stack:=X.stack,ex:=ex,fn:=fun x=>x == y,pn:=[],xe:=fun _ _=>False }
theorem Z2 {y x:Str} {c d:Addr} {cl:List (Str×Addr)} (h:((y,c)::cl).lookup x=some d):(x=y/\d=c)\/(x≠y/\cl.lookup x=some d):=by
 rw [List.lookup_cons] at h
 split at h
 ·rename_i hb
  cases h
  exact .inl ⟨by simpa using hb,rfl⟩
 ·rename_i hb
  exact .inr ⟨by simpa using hb,h⟩
theorem oq {X:Cx} {pins:List (Addr×Obj)} {σ:St} {H:Hp} {s3 s4:Shared} {cs:Scope} {cl:List (Str×Addr)} {N':List Str} {y:Str} {fp:List Addr} {m:Str->Option Value} (S:D0 X.env.scope cs X.N N' y) (I:Inv X pins σ H s3)
  (hcl1:∀ x c,cl.lookup x=some c->X.env.cells.lookup x=some c) (hcl2:∀ x,(x,NameKind.free)∈cs.names->∃ c,cl.lookup x=some c) (hf:∀ b∈fp,x5 X pins H b) (hlt:∀ b∈fp,b<s3.heap.objs.size)
  (kp:∀ b o,s3.heap.get? b=some o->s4.heap.get? b=some o) (hn:s4.heap.Ns s3.heap.objs.size m) (hce:s4.heap.IsCell (s3.heap.objs.size+1) none) (hos:s4.os=s3.os) (hg:s4.gens=s3.gens):Inv (j7 X cs y cl N' fp s3 H) [] (inner N' σ) H s4:=by
 have kcell:∀ {c:Addr} {v:Option Value},s3.heap.IsCell c v->s4.heap.IsCell c v:=fun {c v} z=>by obtain ⟨o,e,d⟩:=z; exact ⟨o,kp c o e,d⟩
 have lt3:∀ x c,cl.lookup x=some c->c<s3.heap.objs.size:=fun x c e=>by
  obtain ⟨v,z⟩:=I.cell x c (hcl1 x c e)
  exact z.lt
 have hasY:∃ c,((y,s3.heap.objs.size+1)::cl).lookup y=some c:=⟨s3.heap.objs.size+1,by rw [List.lookup_cons]; simp⟩
 refine ⟨⟨I.ok.mod,S.kind,I.ok.glob,I.ok.blt,Nat.le_refl _,fun x z c h1 h2=>?_,fun x hx=>?_,fun x c h e=>?_,I.ok.hd,I.ok.frames,.inl rfl,fun b hb=>⟨?_,fun x c e=>?_⟩,I.bs,Nat.le_trans I.ok.bsz I.sz,fun b o e hb=>?_,fun b hb hfs=>?_,I.stack,I.stkFree,I.tab⟩,
  hos,by rw [hg]; exact I.bare,Un.kept kp,⟨m,hn,fun i x v e1 e2 e3=>?_⟩,fun x c e=>?_,I.hok.fresh (Nat.le_refl _),fun x c e=>?_,fun p hp=>absurd (show p∈([]:List (Addr×Obj)) from hp) (by simp),I.hok.kept kp,?_⟩
 ·rcases Z2 h1 with ⟨a1,a2⟩ | ⟨a1,a2⟩ <;> rcases Z2 h2 with ⟨b1,b2⟩ | ⟨b1,b2⟩
  ·rw [a1,b1]
  ·have:=lt3 _ _ b2; rw [a2] at this; exact absurd this (Nat.not_lt.mpr (Nat.le_succ _))
  ·have:=lt3 _ _ a2; rw [b2] at this; exact absurd this (Nat.not_lt.mpr (Nat.le_succ _))
  ·exact I.ok.inj x z c (hcl1 x c a2) (hcl1 z c b2)
 ·have hx':(relabel cs X.env).names.lookup x=some .cell\/(relabel cs X.env).names.lookup x=some .free:=hx
  rw [t6] at hx'
  show ∃ c,((y,s3.heap.objs.size+1)::cl).lookup x=some c
  by_cases hxy:x=y
  ·rw [hxy]; exact hasY
  ·have hb:(x == y)=false:=by simpa using hxy
   rw [List.lookup_cons,hb]
   cases hl:cs.names.lookup x with
   | none=>rw [hl] at hx'; rcases hx' with h | h <;> cases h
   | some k=>
    have hm:=PySem.mem_of_lookup hl
    by_cases hk:k=.free
    ·subst hk; exact hcl2 x hm
    ·exfalso
     have hb:(k == NameKind.free)=false:=by simpa using hk
     rw [hl] at hx'
     simp only [Option.map_some,hb,Bool.false_and,Bool.false_eq_true,if_false] at hx'
     rcases hx' with h | h
     ·cases h; exact hxy (S.cellY _ hm rfl)
     ·cases h; exact hk rfl
 ·have hxy:x=y:=by simpa using h
  rcases Z2 e with ⟨_,a2⟩ | ⟨a1,_⟩
  ·rw [a2]; exact Nat.le_succ _
  ·exact absurd hxy a1
 ·intro q
  have hb':b=s3.heap.objs.size:=q
  exact absurd (hlt b hb) (by rw [hb']; exact Nat.lt_irrefl _)
 ·rcases Z2 e with ⟨_,a2⟩ | ⟨_,a2⟩
  ·intro z
   rw [a2] at z
   have:=hlt b hb
   rw [<- z] at this
   exact absurd this (Nat.not_lt.mpr (Nat.le_succ _))
  ·exact (hf b hb).2.2.2.2.1 x c (hcl1 x c a2)
 ·obtain ⟨f0,f1,f2,f3,f4,f5⟩:=hf b hb
  rcases f3 with z | z
  ·exact I.ok.noex b o e z
  ·exact absurd (Nat.lt_of_lt_of_le (Heap.lt_size (I.ok.bs b o e).1) z) (Nat.lt_irrefl _)
 ·have hfs':b∈frs X.stack:=hfs
  rcases List.mem_cons.mp (I.stkSub b hfs') with z | z
  ·exact (hf b hb).2.1 z
  ·exact (hf b hb).2.2.1 z
 ·have e2':=U0 e2
  have hi:i<X.N.length:=by rw [<- I.len]; exact (List.getElem?_eq_some_iff.mp e2').1
  have e1':N'[i]?=some x:=e1
  have e3':Vis (relabel cs X.env) x:=e3
  have hv:∃ k,cs.names.lookup x=some k:=by
   unfold Vis at e3'
   rw [t6] at e3'
   cases hl:cs.names.lookup x with
   | none=>rw [hl] at e3'; rcases e3' with h | h | h <;> cases h
   | some k=>exact ⟨k,rfl⟩
  obtain ⟨k,hk⟩:=hv
  have hN:X.N[i]?=some x:=by
   rcases S.same i (List.mem_range.mpr hi) with q | q
   ·rw [<- q]; exact e1'
   ·have:=q x (by rw [e1']; rfl)
    rw [hk] at this; cases this
  have ho:=S.out x (List.mem_of_getElem? (i:=i) (by rw [List.getElem?_take_of_lt hi]; exact e1'))
  have hnl:k≠.local:=fun q=>by subst q; exact ho.1 hk
  have hnc:k≠.cell:=fun q=>by subst q; exact ho.2 hk
  have hm:=PySem.mem_of_lookup hk
  have hfree:k=.free:=by
   unfold Vis at e3'
   rw [t6,hk] at e3'
   by_cases hkf:k=.free
   ·exact hkf
   ·exfalso
    have hb:(k == NameKind.free)=false:=by simpa using hkf
    simp only [Option.map_some,hb,Bool.false_and,Bool.false_eq_true,if_false] at e3'
    rcases e3' with h | h | h
    ·exact hnl (Option.some.inj h)
    ·exact hnc (Option.some.inj h)
    ·exact hkf (Option.some.inj h)
  subst hfree
  obtain ⟨m0,hn0,hl0⟩:=I.loc
  have hvis:Vis X.env.scope x:=by
   rcases S.free _ hm rfl with h | h
   ·exact .inr (.inl h)
   ·exact .inr (.inr h)
  obtain ⟨u,r,l⟩:=hl0 i x v hN e2' hvis
  refine ⟨u,r,.inr ⟨?_,?_⟩⟩
  ·show (relabel cs X.env).names.lookup x=some .cell\/(relabel cs X.env).names.lookup x=some .free
   rw [t6,hk]
   show some (if _ then _ else _)=_\/some (if _ then _ else _)=_
   split
   ·exact .inl rfl
   ·exact .inr rfl
  ·obtain ⟨c,hc⟩:=hcl2 x hm
   have hc':=hcl1 x c hc
   have hxy:x≠y:=by
    rintro rfl
    rw [S.isY] at hk; cases hk
   rcases l with ⟨q,_⟩ | ⟨_,c',e,z⟩
   ·exfalso
    have q':X.env.scope.names.lookup x=some .local:=q
    rcases S.free _ hm rfl with h | h <;> (rw [q'] at h; cases h)
   ·rw [hc'] at e; cases e
    exact ⟨c,by
     have hb:(x == y)=false:=by simpa using hxy
     show ((y,s3.heap.objs.size+1)::cl).lookup x=some c
     rw [List.lookup_cons,hb]; exact hc,kcell z⟩
 ·rcases Z2 e with ⟨_,a2⟩ | ⟨_,a2⟩
  ·rw [a2]; exact ⟨none,hce⟩
  ·obtain ⟨v,z⟩:=I.cell x c (hcl1 x c a2)
   exact ⟨v,kcell z⟩
 ·rcases Z2 e with ⟨_,a2⟩ | ⟨_,a2⟩
  ·rw [a2]; exact I.hok.fresh (Nat.le_succ _)
  ·exact I.freeC x c (hcl1 x c a2)
 ·unfold inner
  rw [List.length_append,List.length_replicate,I.len]
  have:=S.len
  show _=N'.length
  omega
section
variable {X:Cx} {cs:Scope} {N':List Str} {y:Str} {tg iter elt:Expr} {ifs:List Expr} {wi:TI} {g:TG} {tc:TT} {te:TE} {pos:Pos}
theorem kz {A:Around} {cl:List (Str×Addr)} {s:Shared} {M:Model} {E:Value->Shared->Prop} {Q:Env->Shared->Prop} (S:D0 X.env.scope cs X.N N' y)
  (h:Q { compEnvC cs ((y,s.heap.objs.size+1)::cl) s.heap.objs.size X.env with scope:=cs } { s with heap:=(s.heap.push { cls:=.type "dict",data:=.dict #[] }).push { cls:=.type "cell",data:=.cell none } }) :
  wpAny M A (newFunctionEnv cs X.env.globals cl [] X.env.qual none .none (some X.env)) Q E s:=by
 simp only [newFunctionEnv,Option.isSome_some,if_true]
 refine wpAny_bind (wpAny_alloc ?_)
 refine wpAny_bind (wpAny_layCells _ (fun name kind cells=>by cases hkc:kind == NameKind.cell <;> simp [hkc]) _ _ _ _ ?_)
 rw [S.lay.1,S.lay.2,show ({ s with heap:=s.heap.push { cls:=.type "dict",data:=.dict #[] } }:Shared).heap.objs.size=s.heap.objs.size+1 from Heap.size_push ..]
 rw [List.forIn_nil]
 exact wpAny_bind (wpAny_pure (wpAny_pure h))
theorem zG {cl:List (Str×Addr)} {pins:List (Addr×Obj)} {fp:List Addr} {H3 H':Hp} {s3:Shared} (hcl1:∀ x c,cl.lookup x=some c->X.env.cells.lookup x=some c) (stk:∀ b∈frs X.stack,b∈X.env.locals::X.fs)
  (hf3:∀ b∈fp,x5 X pins H3 b) (hlt:∀ b∈fp,b<s3.heap.objs.size) (hn:∀ b∈fp,H' b=none):∀ b∈fp,x5 (j7 X cs y cl N' fp s3 H3) [] H' b:=fun b hb=>by
 obtain ⟨f0,f1,f2,f3,f4,f5⟩:=hf3 b hb
 refine ⟨hn b hb,Nat.ne_of_lt (hlt b hb),fun hfs=>?_,.inl hb,fun x c e=>?_,fun p hp=>absurd (show p∈([]:List (Addr×Obj)) from hp) (by simp)⟩
 ·have hfs':b∈frs X.stack:=hfs
  rcases List.mem_cons.mp (stk b hfs') with z | z
  ·exact f1 z
  ·exact f2 z
 ·rcases Z2 e with ⟨_,a2⟩ | ⟨_,a2⟩
  ·intro z
   rw [a2] at z
   have:=hlt b hb
   rw [<- z] at this
   exact absurd this (Nat.not_lt.mpr (Nat.le_succ _))
  ·exact f4 x c (hcl1 x c a2)
theorem lq {cl:List (Str×Addr)} {pins:List (Addr×Obj)} {σ:St} {R:Result->Shared->Prop} {Q:Hp->Prop} {s3 s4:Shared} {H3:Hp} {it D:Addr} {fp:List Addr} {tn:Nat->Heap->Prop} {J:It} {W:Nat->Nat->Hp->Prop} {m0:Nat}
  (hc:X.calm=true) (hg:PG (j7 X cs y cl N' fp s3 H3) tg g) (hk:C9 X.N.length g) (ht:PIf (j7 X cs y cl N' fp s3 H3) ifs tc) (he:PE (j7 X cs y cl N' fp s3 H3) elt te)
  (hcl1:∀ x c,cl.lookup x=some c->X.env.cells.lookup x=some c)
  (I3:Inv X pins σ H3 s3) (I4:Inv (j7 X cs y cl N' fp s3 H3) [] (inner N' σ) H3 s4) (T:Turn X.prog X.w X.K tg J fp it tn) (st:tn 0 s4.heap) (hf3:∀ b∈fp,x5 X pins H3 b) (hlt:∀ b∈fp,b<s3.heap.objs.size)
  (w0:W 0 m0 H3)
  (turn:∀ i m H2,W i m H2->(J.stop i H2/\Q H2)\/(J.go i H2/\∀ x H3,J.yld i H2 x H3->g x (inner N' σ) H3 fun σ4 H4=>tc σ4 H4 fun b H5=>
   if b=true then te σ4 H5 fun y H6=>∃ ys,H6 D=some (.lst ys)/\ys.length<sizeLine/\∃ m',m'<m/\W (i+1) m' (upd H6 D (.lst (ys ++ [y])))
   else ∃ m',m'<m/\W (i+1) m' H5))
  (hR:∀ (H':Hp) (s':Shared),Inv X pins σ H' s'->Q H'->(∃ m,s'.heap.Ns s3.heap.objs.size m)->x5 X pins H' s3.heap.objs.size->R (.ok .next) s') :
  codeAny (model X.prog X.w) X.A (.compLoop (.ListComp elt [⟨tg,iter,ifs,0⟩] cs pos) 0 (.ref it) (.ref D) (j7 X cs y cl N' fp s3 H3).env) R s4:=by
 have fpx:∀ {H':Hp},(∀ b∈fp,H' b=none)->∀ b∈fp,x5 (j7 X cs y cl N' fp s3 H3) [] H' b:=fun hn=>zG hcl1 I3.stkSub hf3 hlt hn
 have lσ:(inner N' σ).length=N'.length:=I4.len
 refine codeAny_loop rfl (fun n s'=>∃ i H',Inv (j7 X cs y cl N' fp s3 H3) [] (inner N' σ) H' s'/\tn i s'.heap/\(∀ b∈fp,H' b=none)/\W i n H') (fun n s5 hI=>?_) m0 ⟨0,H3,I4,st,fun b hb=>(hf3 b hb).1,w0⟩
 obtain ⟨i,H5,I5,st5,fr5,w5⟩:=hI
 show wpAny _ _ ((compTurn (.ListComp elt [⟨tg,iter,ifs,0⟩] cs pos) 0 (.ref it) (.ref D) (j7 X cs y cl N' fp s3 H3).env).onRaise _) _ _ s5
 refine wpAny_noted ?_
 rw [compTurn_list]
 refine wpAny_bind (wpAny_standAt (wpAny_bind ?_))
 have cvt:∀ {α:Type} {t:Sem α} {P:α->Shared->Prop} {E':Value->Shared->Prop} {s:Shared},wpAny (model X.prog X.w) X.A t P (fun _ _=>False) s->wpAny (model X.prog X.w) X.A t P E' s:=fun h=>wpAny_mono h (fun _ _ q=>q) fun _ _ q=>q.elim
 rcases turn i n H5 w5 with ⟨stop,q⟩ | ⟨go,step⟩
 ·refine thn (T.done (j7 X cs y cl N' fp s3 H3) rfl rfl rfl hc i [] s5 _ H5 _ I5 (fpx fr5) st5 stop) fun r s6 ⟨hr,I6⟩=>?_
  subst hr
  refine wpAny_pure ?_
  have J6:Inv X pins σ H5 s6:=I3.call' (H':=H5) (ch:=fp) I6.os I6.base I6.hok I6.bare fun b hb=>by
   obtain ⟨f0,f1,f2,f3,f4,f5⟩:=hf3 b hb
   exact ⟨f3,f1,f4,f5⟩
  obtain ⟨m,hn,_⟩:=I6.loc
  exact hR H5 s6 J6 q ⟨m,hn⟩ (I3.fpOk (Nat.le_refl _) I6.free)
 ·refine thn (T.item (j7 X cs y cl N' fp s3 H3) rfl rfl rfl hc i [] s5 _ H5 _ I5 (fpx fr5) st5 go) fun r s6 ⟨u,hr,h6⟩=>?_
  subst hr
  refine wpAny_bind (thn h6 fun _ s7 zz93=>?_)
  obtain ⟨x,H7,I7,r7,y7,st7,fr7⟩:=zz93
  have I7':=I7.pinned (fpx fr7) (T.obj _ _ st7)
  refine wpAny_bind (cvt (thn (hg _ s7 _ H7 x u _ I7' r7 (hk x _ H7 _ (step x H7 y7))) fun _ s8 zz94=>?_))
  obtain ⟨σ8,H8,I8,q8,l8,k8⟩:=zz94
  refine wpAny_bind (cvt (thn (ht _ s8 σ8 H8 _ I8 q8) fun b s9 zz95=>?_))
  obtain ⟨H9,I9,q9⟩:=zz95
  have again:∀ {s':Shared} {H':Hp},Inv (j7 X cs y cl N' fp s3 H3) ([]++W6 fp s7.heap) σ8 H' s'->(∃ m',m'<n/\W (i+1) m' H') ->
    ∃ m',m'<n/\∃ i H',Inv (j7 X cs y cl N' fp s3 H3) [] (inner N' σ) H' s'/\tn i s'.heap/\(∀ b∈fp,H' b=none)/\W i m' H':=fun {s' H'} I' zz96=>by
   obtain ⟨m',hm,w'⟩:=zz96
   refine ⟨m',hm,i+1,H',(I'.unpinned).weak (by rw [l8]) (fun j v e=>?_),T.keep _ _ _ st7 fun b hb o e=>(I'.pin (b,o) (List.mem_append_right _ (List.mem_append_right _ (F3 hb e)))).1,fun b hb=>?_,w'⟩
   ·have hj:j<X.N.length:=by rw [<- I3.len]; exact (List.getElem?_eq_some_iff.mp (U0 e)).1
    rw [k8 j hj]; exact e
   ·obtain ⟨o,e,d⟩:=T.obj _ _ st7 b hb
    exact (I'.pin (b,o) (List.mem_append_right _ (List.mem_append_right _ (F3 hb e)))).2.1
  cases b with
  | false=>
   have q9':∃ m',m'<n/\W (i+1) m' H9:=q9
   exact wpAny_pure ⟨rfl,again I9 q9'⟩
  | true=>
   have q9':te σ8 H9 _:=q9
   refine wpAny_bind (wpAny_bind (cvt (thn (he _ s9 σ8 H9 _ I9 q9') fun v s10 zz97=>?_)))
   obtain ⟨y,H10,I10,r10,ys,hD,hy,q10⟩:=zz97
   refine wpAny_bind (cvt (thn (aY _ s10 σ8 H10 (.ref D) [y] (.ref D) [v] (fun _ H'=>∃ m',m'<n/\W (i+1) m' H') I10 rfl (.cons r10 .nil) ⟨D,ys,y,rfl,rfl,hD,hy,q10⟩) fun _ s11 zz98=>?_))
   obtain ⟨_,H11,I11,_,q11⟩:=zz98
   exact wpAny_pure (wpAny_pure ⟨rfl,again I11 q11⟩)
theorem lr {cl:List (Str×Addr)} {pins:List (Addr×Obj)} {σ:St} {R:Value->Addr->Result->Shared->Prop} {Q:V->Hp->Prop} {s2:Shared} {itv:Value} (S:D0 X.env.scope cs X.N N' y) (hc:X.calm=true)
  (hg:∀ cl ex s H,PG (j7 X cs y cl N' ex s H) tg g) (hk:C9 X.N.length g) (ht:∀ cl ex s H,PIf (j7 X cs y cl N' ex s H) ifs tc) (he:∀ cl ex s H,PE (j7 X cs y cl N' ex s H) elt te)
  (hcl1:∀ x c,cl.lookup x=some c->X.env.cells.lookup x=some c) (hcl2:∀ x,(x,NameKind.free)∈cs.names->∃ c,cl.lookup x=some c)
  (h:PIE X pins σ tg (fun J H1=>∀ D,H1 D=none->lJ J D g tc te (inner N' σ) H1 (Q (.ref D))) itv s2)
  (hR:∀ (D C:Addr) (H':Hp) (s':Shared),Inv X pins σ H' s'->Q (.ref D) H'->(∃ m,s'.heap.Ns C m)->x5 X pins H' C->R (.ref D) C (.ok .next) s') :
  wpAny (model X.prog X.w) X.A (newList []) (fun acc s₃=>wpAny (model X.prog X.w) X.A (newFunctionEnv cs X.env.globals cl [] X.env.qual none .none (some X.env)) (fun cenv s₄=>
   codeAny (model X.prog X.w) X.A (.compStart (.ListComp elt [⟨tg,iter,ifs,0⟩] cs pos) 0 itv acc { cenv with scope:=relabel cs X.env }) (R acc cenv.locals) s₄) X.xe s₃) X.xe s2:=by
 obtain ⟨it,fp,tn,J,H2,e,I2,T,st2,f2,hw⟩:=h
 subst e
 refine wpAny_newObj_type (kz S ?_)
 have hD:=I2.hok.fresh (Nat.le_refl _)
 obtain ⟨W,⟨m0,w0⟩,turn⟩:=hw s2.heap.objs.size hD
 have I3:Inv X pins σ (upd H2 s2.heap.objs.size (.lst [])) { s2 with heap:=s2.heap.push { cls:=.type "list",dict:=none,data:=.seq ([]:List Value).toArray } }:=I2.lnew (t':=s2.toks) .nil (Nat.zero_le _)
 have hfp3:∀ b∈fp,b<s2.heap.objs.size:=fun b hb=>by
  obtain ⟨o,e,_⟩:=T.obj 0 _ st2 b hb
  exact Heap.lt_size e
 have hf3:∀ b∈fp,x5 X pins (upd H2 s2.heap.objs.size (.lst [])) b:=fun b hb=>by
  obtain ⟨f0,r⟩:=f2 b hb
  exact ⟨by rw [d8 (Nat.ne_of_lt (hfp3 b hb))]; exact f0,r⟩
 have hlt:∀ b∈fp,b<(s2.heap.push { cls:=.type "list",dict:=none,data:=.seq ([]:List Value).toArray }).objs.size:=fun b hb=>by rw [Heap.size_push]; exact Nat.lt_succ_of_lt (hfp3 b hb)
 have kp:∀ b o,(s2.heap.push { cls:=.type "list",dict:=none,data:=.seq ([]:List Value).toArray }).get? b=some o->(((s2.heap.push { cls:=.type "list",dict:=none,data:=.seq ([]:List Value).toArray }).push { cls:=.type "dict",data:=.dict #[] }).push { cls:=.type "cell",data:=.cell none }).get? b=some o:=fun b o e=>Heap.get?_push_of_some _ (Heap.get?_push_of_some _ e)
 have I4:=oq (cs:=cs) (cl:=cl) (N':=N') (fp:=fp) (s4:={ s2 with heap:=((s2.heap.push { cls:=.type "list",dict:=none,data:=.seq ([]:List Value).toArray }).push { cls:=.type "dict",data:=.dict #[] }).push { cls:=.type "cell",data:=.cell none } }) S I3 hcl1 hcl2 hf3 hlt kp ((Heap.Ns.new _ (.type "dict")).keeps fun b o e=>Heap.get?_push_of_some _ e) ⟨_,by rw [<- Heap.size_push]; exact Heap.get?_push_size _ rfl,rfl⟩ rfl rfl
 have st4:tn 0 (((s2.heap.push { cls:=.type "list",dict:=none,data:=.seq ([]:List Value).toArray }).push { cls:=.type "dict",data:=.dict #[] }).push { cls:=.type "cell",data:=.cell none }):=T.keep 0 _ _ st2 fun b hb o e=>kp b o (Heap.get?_push_of_some _ e)
 have loop:=lq (R:=R (.ref s2.heap.objs.size) (s2.heap.push { cls:=.type "list",dict:=none,data:=.seq ([]:List Value).toArray }).objs.size) (D:=s2.heap.objs.size) (iter:=iter) (pos:=pos) (it:=it) (Q:=Q (.ref s2.heap.objs.size)) hc (hg cl fp _ _) hk (ht cl fp _ _) (he cl fp _ _) hcl1 I3 I4 T st4 hf3 hlt w0 turn fun H' s' I' q n f=>hR _ _ H' s' I' q n f
 exact codeAny_compStart_list loop (T.self _ 0 _ _ _ st4 loop)
end
end L2
namespace TP
open PySem L2
section
variable {X:Cx} {K:Frag} {EX:EXT} {pos:Pos} {ma:Rho->R W} {ta:Rho->R Bool}
end
end TP
namespace TP
open PySem L2
theorem ot {X:Cx} {cs sc2:Scope} {y:Str} {cl:List (Str×Addr)} {N' N2:List Str} {ex:List Addr} {s:Shared} {H:Hp} (h:f8 cs sc2 N' N2):f8 (j7 X cs y cl N' ex s H).env.scope sc2 (j7 X cs y cl N' ex s H).N N2:=
 ⟨h.kind,h.ncell,h.loc,fun x hx e=>cT (fun n k=>k == NameKind.free&&X.env.scope.kind == .function&&X.env.kindOf n == some .cell) (fun n k q=>by
  simp only [Bool.and_eq_true,beq_iff_eq] at q
  exact q.1.1) x.1 cs.names (h.free x hx e),h.nd,h.len,h.same,h.out⟩
end TP
namespace L2
open PySem PySem.Spec PyProof.Rows
section
variable {X:Cx} {cs:Scope} {N':List Str} {yc:Str} {tg iter elt:Expr} {ifs:List Expr} {wi:TI} {g:TG} {tc:TT} {te:TE} {pos:Pos}
theorem pX {i:Nat} {y:Str} {py spos:Pos} (S:D0 X.env.scope cs X.N N' yc) (hc:X.calm=true) (hi:PI X tg iter wi)
  (hg:∀ cl ex s H,PG (j7 X cs yc cl N' ex s H) tg g) (hk:C9 X.N.length g) (ht:∀ cl ex s H,PIf (j7 X cs yc cl N' ex s H) ifs tc) (he:∀ cl ex s H,PE (j7 X cs yc cl N' ex s H) elt te)
  (hN:X.N.Nodup) (hy:X.N[i]?=some y) (hl:Loc X.env.scope y)
  (hsw:swapsWith (.ListComp elt [⟨tg,iter,ifs,0⟩] cs pos) (some (.Name y py)) spos.line X.env=pure true:=by rfl) (hf:X.fn y=true\/X.env.scope.names.lookup y=some .local:=by first | exact .inl rfl | exact .inr rfl | assumption)
  (hs:∀ x,foldedSetIterable iter X.env x=pure x:=by intro _; rfl):PS X (.Assign [.Name y py] (.ListComp elt [⟨tg,iter,ifs,0⟩] cs pos) spos) (U4 (fV N' wi g tc te) (F4 i)):=by
 intro pins s σ H Q I h
 obtain ⟨cl,e,h1,h2,_⟩:=P5 (env:=X.env) cs.names [] (fun x hx hk=>I.ok.has x.1 (S.free x hx hk)) (fun _ _ z=>nomatch z)
 have hclos:closureFor cs X.env=pure cl:=by
  simp only [closureFor]
  rw [e]; rfl
 rw [exec_Assign_Name_used _ _ _ _ hsw]
 refine wpAny_bind (wpAny_standAt (wpAny_bind ?_))
 show wpAny _ _ (comprehension (.ListComp elt [⟨tg,iter,ifs,0⟩] cs pos) cs X.env _ (newList []) false (eval iter X.env) (some (assign (.Name y py) X.env))>>=_) _ _ s
 refine wpAny_bind (thn (wpAny_comprehension_free (use:=some (assign (.Name y py) X.env)) (Q:=fun _ s'=>SP X pins Q .next s') rfl hs hclos S.kind S.loc (thn (hi pins s σ H _ I h) fun v s1 q1=>thn q1 fun itv s2 q2=>?_)) fun _ s' q=>wpAny_pure (wpAny_pure q))
 refine lr (R:=fun acc C=>compPost (model X.prog X.w) X.A X.xe (some (assign (.Name y py) X.env)) (fun _ s'=>SP X pins Q .next s') acc C) (Q:=fun x H1=>F4 i x σ H1 Q.nx) S hc hg hk ht he h1 h2 q2 fun D C H' s' I' q n f=>?_
 obtain ⟨m,hn⟩:=n
 obtain ⟨f0,f1,f2,f3,f4,f5⟩:=f
 show wpAny _ _ (assign (.Name y py) X.env (.ref D)) _ _ _
 refine wpAny_assign_Name (aH (v:=.ref D) (u:=.ref D) I' hN hy hl rfl (fun s'' I'' zz99=>?_) hf)
 obtain ⟨a,sb,ha⟩:=zz99
 have hCa:C≠a:=by
  rcases ha with rfl | ha
  ·exact f1
  ·exact fun q=>f4 _ _ ha q.symm
 refine ⟨m,hn.sameBut sb hCa,fun h' sb'=>?_⟩
 exact ⟨_,H',I''.turned (t':=s''.toks) (fun b o hb e=>sb'.extBut b o hb e) f0 f1 f3 f4 f5,q⟩
end
end L2
namespace TP
open PySem L2
section
variable {X:Cx} {K:Frag} {EX:EXT} {d:Mode} {pos:Pos} {ma:Rho->R W} {ta:Rho->R Bool}
theorem uc {i:Nat} {y:Str} {py:Pos} {cs:Scope} {N':List Str} {yc:Str} {tg iter elt:Expr} {ifs:List Expr} {dd:Mode} {g:TG} {mg:W->Rho->Option Rho} {mi:Rho->R (List W)} {cpos:Pos} (S:D0 X.env.scope cs X.N N' yc) (hc:X.calm=true) (hi:PI X tg iter (tIt K EX false dd mi))
  (hg:∀ cl ex s H,PG (j7 X cs yc cl N' ex s H) tg g) (hgt:Gt K dd g mg) (hk:C9 X.N.length g) (ht:∀ cl ex s H,PIf (j7 X cs yc cl N' ex s H) ifs (tT K EX ta)) (he:∀ cl ex s H,PE (j7 X cs yc cl N' ex s H) elt (tM K EX .V ma))
  (hN:X.N.Nodup) (hy:X.N[i]?=some y) (hl:Loc X.env.scope y)
  (hsw:swapsWith (.ListComp elt [⟨tg,iter,ifs,0⟩] cs cpos) (some (.Name y py)) pos.line X.env=pure true:=by rfl) (hf:X.fn y=true\/X.env.scope.names.lookup y=some .local:=by first | exact .inl rfl | exact .inr rfl | assumption)
  (hs:∀ x,foldedSetIterable iter X.env x=pure x:=by intro _; rfl):PS X (.Assign [.Name y py] (.ListComp elt [⟨tg,iter,ifs,0⟩] cs cpos) pos) (tSt K EX d (sF i (k7 N'.length mi mg ta ma))):=
 (pX S hc hi hg hk ht he hN hy hl hsw hf hs).mono fun D σ H q=>by
  have:=iN (m:=k7 N'.length mi mg ta ma) q
  exact iP hgt this
end
end TP
namespace L2
open PySem PySem.Spec PyProof.Rows
abbrev F6 (pa:Pos):Arguments:={ posonlyargs:=[],args:=[{ arg := "one",annotation:=none,pos:=pa }],vararg:=none,kwonlyargs:=[],kw_defaults:=[],kwarg:=none,defaults:=[] }
abbrev lamS:Scope:={ kind:=.function,names:=[("one",.local),("held",.free)],isGenerator:=false,isCoroutine:=false }
abbrev E8 (p1 p2 p3:Pos):Expr:=.Subscript (.Name "held" p1) (.Name "one" p2) p3
def Kp (h h':Heap):Prop:=∀ b o,h.get? b=some o->h'.get? b=some o
section
variable {prog:Program} {w:World} {A:Around} {E:Value->Shared->Prop} {s:Shared}
def je (s:Shared) (k:Int) (v:Value) (s':Shared):Prop:=∃ h' tk t,v=.int k t/\s'={ s with heap:=h',toks:=tk }/\Kp s.heap h'
theorem rC {f c' c b:Addr} {qual:Str} {pa p1 p2 p3:Pos} {pm ctv:Value} {cl:List (Str×Addr)} {its:Array Value} {i k:Int} {t t':Tok}
  (hroom:A.depth<recursionLimit) (ho:s.heap.get? f=some (PySem.W.kla_obj "<lambda>" qual (F6 pa) (E8 p1 p2 p3) lamS cl pm c' ctv)) (hcd:s.heap.CodeRec (.ref c') qual) (lim:s.heap.NoLimit)
  (hcl:cl.lookup (Str.ofString "held")=some c) (hc:s.heap.IsCell c (some (.ref b))) (hl:s.heap.IsList b its) (h0:0<=i) (hfit:i<2^63) (hx:its[i.toNat]?=some (.int k t')) :
  wpAny (model prog w) A (call (.ref f) [.int i t]) (je s k) (fun _ _=>False) s:=by
 refine wpAny_call (PySem.W.kla_callFunE hroom ho rfl rfl rfl rfl hcd ?_)
 rw [show bindArgs (PySem.W.kla_fn "<lambda>" qual (F6 pa) (E8 p1 p2 p3) lamS cl pm (.ref c') ctv) ⟨[Value.int i t],[]⟩=(pure [(Str.ofString "one",Value.int i t)]:Sem (List (Str×Value))) from rfl]
 refine wpAny_pure (wpAny_newFunctionEnv (show ∀ x∈lamS.names,x.2≠.cell by decide) (fun x hx=>?_) (fun h1 hns hsb=>⟨lim.fresh _ hsb,?_⟩) rfl)
 ·have e:x=(Str.ofString "one",Value.int i t):=by simpa using hx
  rw [e]; rfl
 have hk:Kp s.heap h1:=fun b o e=>hsb.extBut b o (Nat.ne_of_lt (Heap.lt_size e)) (Heap.get?_push_of_some _ e)
 show codeAny _ _ (.expr (E8 p1 p2 p3) (PySem.W.envX qual lamS s.heap.objs.size f (.ref c') cl)) _ _
 refine PySem.W.kla_codeExpr (Subscript_ (wpAny_Name (wpAny_loadName_free rfl rfl hcl (hc.keeps hk) (wpAny_Name (wpAny_loadName_local rfl rfl hns rfl (item_listR (let ⟨o,e,q⟩:=hl; ⟨o,hk _ _ e,q⟩) h0 hfit hx ?_))))))
 exact ⟨h1,_,t',rfl,rfl,hk⟩
theorem nA (a v:Value):argsOk "min" ⟨[a],[(Str.ofString "key",v),(Str.ofString "default",.none)]⟩:=by unfold argsOk; kernel_rfl
structure lK (vs:List Value) (kf:Nat->Int) (j i:Nat) (v:Value):Prop where
 at_:vs[i]?=some v
 lt:i<j
 least:∀ n,n<j->kf i<=kf n/\(n<i->kf i<kf n)
def KpB (S I:Addr) (g h:Heap):Prop:=∀ b o,b≠S->b≠I->g.get? b=some o->h.get? b=some o
abbrev jO (I f S:Addr):Args:=⟨[.ref I,.ref f,.ref S],[(Str.ofString "default",.none)]⟩
section
variable {vs:List Value} {kf:Nat->Int} {l f I S:Addr} {R:Result->Shared->Prop}
theorem yE (hh:A.handled=none) (hl:s.heap.IsList l vs.toArray) (hlI:l≠I) (hlS:l≠S) (hSI:S≠I)
  (turn:∀ i v,vs[i]?=some v->∀ (h:Heap) (tk:Nat),KpB S I s.heap h->wpAny (model prog w) A.in1 (call (.ref f) [v]) (je { s with heap:=h,toks:=tk } (kf i)) (fun _ _=>False) { s with heap:=h,toks:=tk })
  (hR:∀ v h tk,KpB S I s.heap h->((vs = []/\v=.none)\/∃ i,lK vs kf vs.length i v)->R (.ok (.ret v)) { s with heap:=h,toks:=tk }) :
  ∀ (r j:Nat) (h:Heap) (tk:Nat) (its:Array Value) (c:Nat),vs.length-j=r->j<=vs.length->KpB S I s.heap h->h.get? S=some (seqObj "list" its c)->h.IsListIter I l j ->
   ((j=0/\its=#[])\/∃ i vb tb,its=#[vb,.int (kf i) tb]/\lK vs kf j i vb) ->
   codeAny (model prog w) A (.builtin "min.loop" (jO I f S)) R { s with heap:=h,toks:=tk }:=by
 have nm:(toString "min" ++ toString ".loop" : String) = "min.loop" := by decide
 have Wk:=Walks.list (prog:=prog) (w:=w) (A:=A.in1) hh I l hlI vs.toArray
 have sz:vs.toArray.size=vs.length:=List.size_toArray ..
 intro r
 induction r with
 | zero=>
  intro j h tk its c hr hj kp gS gI st
  have ej:j=vs.length:=by omega
  have gl:h.IsList l vs.toArray:=by
   obtain ⟨o,e,q⟩:=hl
   exact ⟨o,kp l o hlS hlI e,q⟩
  refine codeAny_builtin PySem.F.entry_min_loop ?_
  rw [Around.under_plainId PySem.F.plain_min_loop _]
  show wpAny _ A.in1 (seqItems? (.ref S)>>=_) _ _ _
  refine wpAny_bind (wpAny_seqItems gS rfl ?_)
  show wpAny _ A.in1 (tryCatch (pyNext (.ref I)) _>>=_) _ _ _
  refine wpAny_bind (wpAny_tryCatch (Wk.done _ _ _ ⟨by rw [sz,<- ej]; exact gI,gl⟩ fun h' tk' k'=>?_))
  have kp':KpB S I s.heap h':=fun b o n1 n2 e=>k' b o (by simpa using n2) (kp b o n1 n2 e)
  have gS':=k' S _ (by simpa using hSI) gS
  rcases st with ⟨e0,e1⟩ | ⟨i,vb,tb,e1,bst⟩
  ·subst e1
   refine wpAny_bind (wpAny_rule (wpAny_pure ?_))
   exact hR _ _ _ kp' (.inl ⟨List.eq_nil_of_length_eq_zero (by omega),rfl⟩)
  ·subst e1
   have s1:=Heap.SameBut.update h' S (Obj.mapSeq fun _=>(#[]:Array Value))
   show wpAny _ A.in1 (updateSeq S (fun _=>#[])>>=_) _ _ _
   refine wpAny_bind (wpAny_updateSeq gS' rfl (wpAny_bind (wpAny_letGo (wpAny_pure ?_))))
   exact hR _ _ _ (fun b o n1 n2 e=>(s1.2 b n1).trans (kp' b o n1 n2 e)) (.inr ⟨i,by rw [<- ej]; exact bst⟩)
 | succ r ih=>
  intro j h tk its c hr hj kp gS gI st
  have lt:j<vs.length:=by omega
  have gl:h.IsList l vs.toArray:=by
   obtain ⟨o,e,q⟩:=hl
   exact ⟨o,kp l o hlS hlI e,q⟩
  refine codeAny_builtin PySem.F.entry_min_loop ?_
  rw [Around.under_plainId PySem.F.plain_min_loop _]
  show wpAny _ A.in1 (seqItems? (.ref S)>>=_) _ _ _
  refine wpAny_bind (wpAny_seqItems gS rfl ?_)
  show wpAny _ A.in1 (tryCatch (pyNext (.ref I)) _>>=_) _ _ _
  refine wpAny_bind (wpAny_tryCatch (Wk.item j _ _ _ (by rw [sz]; exact lt) ⟨gI,gl⟩ fun v h' tk' hP st' k'=>?_))
  have hv:vs[j]?=some v:=by simpa using hP
  have kp':KpB S I s.heap h':=fun b o n1 n2 e=>k' b o (by simpa using n2) (kp b o n1 n2 e)
  have gS':=k' S _ (by simpa using hSI) gS
  have gI':=st'.1
  show wpAny _ A.in1 (tryCatch (holding [v] (call (.ref f) [v])) _>>=_) _ _ _
  refine wpAny_bind (wpAny_tryCatch (wpAny_holding (wpAny_mono (turn j v hv h' tk' kp') (fun x s2 q2=>?_) fun _ _ q=>q.elim)))
  obtain ⟨h2,tk2,t2,rfl,rfl,k2⟩:=q2
  have kp2:KpB S I s.heap h2:=fun b o n1 n2 e=>k2 b o (kp' b o n1 n2 e)
  have gS2:=k2 S _ gS'
  have gI2:h2.IsListIter I l (j+1):=by
   obtain ⟨o,e,q⟩:=gI'
   exact ⟨o,k2 _ _ e,q⟩
  -- the new one is put
  have put:∀ (h3:Heap) (tk3:Nat),h3=h2.update S (Obj.mapSeq fun _=>#[v,.int (kf j) t2])->lK vs kf (j+1) j v->codeAny (model prog w) A (.builtin "min.loop" (jO I f S)) R { s with heap:=h3,toks:=tk3 }:=fun h3 tk3 e3 bst=>by
   subst e3
   have s1:=Heap.SameBut.update h2 S (Obj.mapSeq fun _=>#[v,.int (kf j) t2])
   obtain ⟨c2,hc2⟩:∃ c2,(h2.update S (Obj.mapSeq fun _=>#[v,.int (kf j) t2])).get? S=some (seqObj "list" #[v,.int (kf j) t2] c2):=⟨_,get?_update_seq gS2 fun _=>#[v,.int (kf j) t2]⟩
   refine ih (j+1) _ tk3 _ c2 (by omega) (by omega) (fun b o n1 n2 e=>(s1.2 b n1).trans (kp2 b o n1 n2 e)) hc2 ?_ (.inr ⟨j,v,t2,rfl,bst⟩)
   obtain ⟨o,e,q⟩:=gI2
   exact ⟨o,(s1.2 I hSI.symm).trans e,q⟩
  rcases st with ⟨e0,e1⟩ | ⟨i,vb,tb,e1,bst⟩
  ·subst e1 e0
   show wpAny _ A.in1 (updateSeq S (fun _=>#[v,.int (kf 0) t2])>>=_) _ _ _
   refine wpAny_bind (wpAny_updateSeq gS2 rfl ?_)
   rw [nm]
   exact wpAny_pure ⟨plainId_quiet PySem.F.plain_min_loop _,put _ _ rfl ⟨hv,Nat.lt_succ_self _,fun n hn=>by
    have:n=0:=by omega
    subst this
    exact ⟨Int.le_refl _,fun q=>absurd q (Nat.lt_irrefl _)⟩⟩⟩
  ·subst e1
   show wpAny _ A.in1 (tryCatch (holding [v,.int (kf j) t2] (richCompare .Lt (.int (kf j) t2) (.int (kf i) tb)>>=_)) _>>=_) _ _ _
   refine wpAny_bind (wpAny_tryCatch (wpAny_holding (wpAny_bind (CmpOf.ints_lt (prog:=prog) (w:=w) (A:=A.in1) (P:=fun i v=>∃ t,v=.int (kf i) t) kf (fun _ _ q=>q) j i _ _ _ _ _ ⟨t2,rfl⟩ ⟨tb,rfl⟩ ?_))))
   refine wpAny_bind (wpAny_holding (wpAny_truthy_bool ?_))
   refine wpAny_bind (wpAny_letGo (wpAny_pure ?_))
   by_cases lt2:kf j<kf i
   ·simp only [lt2,decide_true,if_true]
    refine wpAny_bind (wpAny_updateSeq gS2 rfl (wpAny_bind (wpAny_letGo ?_)))
    rw [nm]
    exact wpAny_pure ⟨plainId_quiet PySem.F.plain_min_loop _,put _ _ rfl ⟨hv,Nat.lt_succ_self _,fun n hn=>by
     by_cases e:n=j
     ·subst e; exact ⟨Int.le_refl _,fun q=>absurd q (Nat.lt_irrefl _)⟩
     ·have b1:=bst.least n (by omega)
      exact ⟨by have:=b1.1; omega,fun _=>by have:=b1.1; omega⟩⟩⟩
   ·simp only [lt2,decide_false,Bool.false_eq_true,if_false]
    refine wpAny_bind (wpAny_letGo ?_)
    rw [nm]
    refine wpAny_pure ⟨plainId_quiet PySem.F.plain_min_loop _,ih (j+1) _ _ _ c (by omega) (by omega) kp2 gS2 gI2 (.inr ⟨i,vb,tb,rfl,bst.at_,by have:=bst.lt; omega,fun n hn=>?_⟩)⟩
    by_cases e:n=j
    ·subst e
     exact ⟨by omega,fun q=>absurd q (by have:=bst.lt; omega)⟩
    ·exact bst.least n (by omega)
theorem qr {Q:Value->Shared->Prop} (hh:A.handled=none) (hl:s.heap.IsList l vs.toArray)
  (turn:∀ i v,vs[i]?=some v->∀ (h:Heap) (tk:Nat),Kp s.heap h->wpAny (model prog w) A.in1 (call (.ref f) [v]) (je { s with heap:=h,toks:=tk } (kf i)) (fun _ _=>False) { s with heap:=h,toks:=tk })
  (hQ:∀ v h tk,Kp s.heap h->((vs = []/\v=.none)\/∃ i,lK vs kf vs.length i v)->Q v { s with heap:=h,toks:=tk }) :
  wpAny (model prog w) A (call (.builtin "min") [.ref l] [(Str.ofString "key",.ref f),(Str.ofString "default",.none)]) Q E s:=by
 have nm:(toString "min" ++ toString ".loop" : String) = "min.loop" := by decide
 obtain ⟨ol,hol,_⟩:=id hl
 have hll:l<s.heap.objs.size:=Heap.lt_size hol
 refine kmk_tree PySem.F.kind_min PySem.F.plain_min PySem.F.entry_min (nA _ _) ?_
 show wpAny _ A.in1 (Builtin.Builtins.bindParams "min" ["key", "default"] 0 ⟨[],[(Str.ofString "key",.ref f),(Str.ofString "default",.none)]⟩>>=_) _ _ s
 refine wpAny_bind (wpAny_of_eq (show Builtin.Builtins.bindParams "min" ["key", "default"] 0 ⟨[],[(Str.ofString "key",.ref f),(Str.ofString "default",.none)]⟩=pure [some (.ref f),some .none] from rfl) ?_)
 refine wpAny_bind (wpAny_pure (wpAny_bind (wpAny_pyIter_list hl (wpAny_bind (wpAny_newList ?_ (Nat.zero_le _))))))
 rw [nm]
 have zI:(s.heap.push { cls:=.type "list_iterator",data:=.fields #[.ref l,.int 0 0] }).objs.size=s.heap.objs.size+1:=Heap.size_push ..
 have kp:∀ h,KpB (s.heap.push { cls:=.type "list_iterator",data:=.fields #[.ref l,.int 0 0] }).objs.size s.heap.objs.size s.heap h->Kp s.heap h:=fun h q b o e=>q b o (by rw [zI]; exact Nat.ne_of_lt (Nat.lt_succ_of_lt (Heap.lt_size e))) (Nat.ne_of_lt (Heap.lt_size e)) e
 refine wpAny_pure ⟨plainId_quiet PySem.F.plain_min_loop _,yE (vs:=vs) (kf:=kf) (l:=l) hh hl (Nat.ne_of_lt hll) (by rw [zI]; exact Nat.ne_of_lt (Nat.lt_succ_of_lt hll)) (by rw [zI]; exact Nat.ne_of_gt (Nat.lt_succ_self _))
  (fun i v e h tk q=>turn i v e h tk (kp h q)) (fun v h tk q d=>hQ v h tk (kp h q) d) _ 0 _ _ #[] 0 rfl (Nat.zero_le _) (fun b o _ _ e=>Heap.get?_push_of_some _ (Heap.get?_push_of_some _ e)) (Heap.get?_push_size _ rfl) ⟨_,Heap.get?_push_of_some _ (Heap.get?_push_size _ rfl),rfl,rfl⟩ (.inl ⟨rfl,rfl⟩)⟩
end
end
section
variable {X:Cx} {pins:List (Addr×Obj)} {σ:St} {H:Hp} {s:Shared} {tb c:Addr} {k:Nat×Nat×Str} {pa p1 p2 p3 lpos:Pos}
theorem qB {Q:Value->Shared->Prop} (I:Inv X pins σ H s) (hT:(tb,k)∈lamT) (hC:PySem.W.codeHdIn X.K c tb=true) (hcode:X.env.code=.ref c) (hq:X.env.qual++Str.ofString "<lambda>" = k.2.2) (hl1:lpos.line=k.1) (hl2:lpos.col=k.2.1)
  (hz:X.env.scope.names.lookup (Str.ofString "held")=some .cell)
  (h:∀ (f c':Addr) (cl:List (Str×Addr)) (pm ctv:Value) (H':Hp) (s':Shared),Inv X pins σ H' s'->(∀ a o,H a=some o->H' a=some o)->s'.heap.get? f=some (PySem.W.kla_obj (Str.ofString "<lambda>") (X.env.qual++Str.ofString "<lambda>") (F6 pa) (E8 p1 p2 p3) lamS cl pm c' ctv) ->
   s'.heap.CodeRec (.ref c') (X.env.qual++Str.ofString "<lambda>")->(∀ x d,cl.lookup x=some d->X.env.cells.lookup x=some d)->(∃ d,cl.lookup (Str.ofString "held")=some d)->Q (.ref f) s') :
  wpAny (model X.prog X.w) X.A (eval (.Lambda (F6 pa) (E8 p1 p2 p3) lamS lpos) X.env) Q X.xe s:=by
 have tbH:=I.tab _ hT
 obtain ⟨ps,gP,st⟩:=I.hok _ _ tbH
 have gP:s.heap.get? tb=some (PySem.W.tabObj ps):=gP
 have C:PySem.W.CodeHd s.heap c tb:=PySem.W.codeHd_of_K I.kIn hC
 have hns:s.heap.Ns mainGlobals X.mg:=I.mod.glob.keeps I.bk
 obtain ⟨bm,ob,b1,b2,b3,b4,b5,b6⟩:=I.mod.bmain
 have b3:=I.bk _ _ b3
 have hgP:mainGlobals≠tb:=fun q=>by
  obtain ⟨o,es,ep,e,d,_⟩:=hns
  rw [q,gP] at e; cases e; cases d
 have hbP:bm≠tb:=fun q=>by rw [q,gP] at b3; cases b3; cases b4
 have hbG:bm≠mainGlobals:=fun q=>by
  obtain ⟨o,es,ep,e,d,_⟩:=hns
  rw [q,e] at b3; cases b3; rw [d] at b6; cases b6
 have hB:s.heap.BuiltinsAt X.mg tb:=⟨bm,ob,b1,b2,hbG,hbP,b3,b4,b5,b6⟩
 obtain ⟨cl,e,h1,h2,_⟩:=P5 (env:=X.env) lamS.names [] (fun x hx hk=>by
  rcases List.mem_cons.mp hx with rfl | hx
  ·cases hk
  ·rw [List.mem_singleton.mp hx]
   exact I.ok.has _ (.inl hz)) (fun _ _ z=>nomatch z)
 have hclos:closureFor lamS X.env=pure cl:=by
  simp only [closureFor]
  rw [e]; rfl
 have hheld:∃ d,cl.lookup (Str.ofString "held")=some d:=h2 _ (List.mem_cons_of_mem _ List.mem_cons_self)
 have tb0:tb<s.heap.objs.size:=Heap.lt_size gP
 refine PySem.W.kla_eval rfl ?_
 rcases st with e0 | ⟨c',oc,e0,hown,hne,goc,lc⟩
 ·subst e0
  refine PySem.W.kla_makeFunction hclos I.ok.glob hns hcode C gP trivial rfl hgP hB fun c' ctv h' tk hx hge hlt hrec htb=>?_
  obtain ⟨c2,oc,vs,t,e2,hoc,hd,hv⟩:=id hrec
  cases e2
  have hnc:H c'=none:=I.hok.fresh hge
  have kp:∀ b o,b≠tb->s.heap.get? b=some o->(h'.push (PySem.W.kla_obj (Str.ofString "<lambda>") (X.env.qual++Str.ofString "<lambda>") (F6 pa) (E8 p1 p2 p3) lamS cl ((X.mg "__name__").getD .none) c' ctv)).get? b=some o:=fun b o n e=>Heap.get?_push_of_some _ (hx b o n e)
  have same:∀ a o,H a=some o->upd H c' (.own tb) a=some o:=fun a o e=>by rw [d8 (f7 e hnc)]; exact e
  have ntb:∀ b,H b=none->b≠tb:=fun b n z=>by rw [z,tbH] at n; cases n
  have I':Inv X pins σ (upd H c' (.own tb)) { s with heap:=h'.push (PySem.W.kla_obj (Str.ofString "<lambda>") (X.env.qual++Str.ofString "<lambda>") (F6 pa) (E8 p1 p2 p3) lamS cl ((X.mg "__name__").getD .none) c' ctv),toks:=tk }:=by
   refine I.un ⟨fun b o e n _ _=>kp b o (ntb b n) e,fun b o e n _ _=>⟨o.slots,kp b o (ntb b n) e⟩,fun b o e n _=>?_,fun b o e _=>?_,fun b xs q=>same _ _ q,fun b o u q=>same _ _ q,fun b y q=>same _ _ q⟩ fun b u q=>?_
   ·rw [d8 (Nat.ne_of_lt (Nat.lt_of_lt_of_le (Heap.lt_size e) hge))]; exact n
   ·by_cases z:b=tb
    ·rw [z]; exact ⟨_,Heap.get?_push_of_some _ htb⟩
    ·exact ⟨o,kp b o z e⟩
   ·by_cases z:b=c'
    ·subst z
     rw [i7] at q; cases q
     exact ⟨oc,Heap.get?_push_of_some _ hoc⟩
    ·rw [d8 z] at q
     by_cases y:b=tb
     ·subst y
      rw [tbH] at q; cases q
      refine ⟨_,Heap.get?_push_of_some _ htb,.inr ⟨c',oc,?_,i7,Nat.ne_of_gt (Nat.lt_of_lt_of_le tb0 hge),Heap.get?_push_of_some _ hoc,vs,t,hd,by rw [<- hq]; exact hv⟩⟩
      rw [hl1,hl2]; simp
     ·refine (I.hok b u q).stay (fun d v hd' e'=>kp d v ?_ e') (fun d q'=>same _ _ q') fun d xs q'=>same _ _ q'
      rcases hd' with rfl | hd'
      ·exact y
      ·rintro rfl; rw [tbH] at hd'; cases hd'
  exact h _ c' cl _ ctv _ _ I' same (Heap.get?_push_size _ rfl) (hrec.push _) h1 hheld
 ·subst e0
  refine PySem.W.kla_makeFunctionHit hclos I.ok.glob hns hcode C gP ?_ (cv:=.ref c') ?_ hB fun ctv h' tk hk hsz=>?_
  ·exact trivial
  ·rw [<- hl1,<- hl2]
   exact codeAmong_snoc [] trivial rfl
  ·have kp:Kp s.heap (h'.push { cls:=.type "function",data:=.func (PySem.W.kla_fn (Str.ofString "<lambda>") (X.env.qual++Str.ofString "<lambda>") (F6 pa) (E8 p1 p2 p3) lamS cl ((X.mg "__name__").getD .none) (.ref c') ctv) }):=fun b o e=>Heap.get?_push_of_some _ (hk b o e)
   refine h _ c' cl _ ctv H _ (I.un (Un.kept kp) (I.hok.kept kp)) (fun _ _ e=>e) (Heap.get?_push_size _ rfl) ?_ h1 hheld
   obtain ⟨vs,t,d1,d2⟩:=lc
   exact ⟨c',oc,vs,t,rfl,kp _ _ goc,d1,by rw [hq]; exact d2⟩
end
def Y9 (key:Int->Int) (is:List Int):Option Int:=is.find? fun i=>is.all fun x=>decide (key i<=key x)
theorem nz {key:Int->Int} {is:List Int} {n:Nat} {i:Int} (h:is[n]?=some i) (hb:∀ m j,is[m]?=some j->key i<=key j/\(m<n->key i<key j)):Y9 key is=some i:=by
 unfold Y9
 rw [List.find?_eq_some_iff_append]
 obtain ⟨hn,e⟩:=List.getElem?_eq_some_iff.mp h
 refine ⟨?_,is.take n,is.drop (n+1),?_,fun a ha=>?_⟩
 ·rw [List.all_eq_true]
  intro x hx
  obtain ⟨m,hm,ex⟩:=List.mem_iff_getElem.mp hx
  exact decide_eq_true (hb m x (by rw [List.getElem?_eq_getElem hm,ex])).1
 ·rw [<- e,List.getElem_cons_drop,List.take_append_drop]
 ·obtain ⟨m,hm,ea⟩:=List.mem_iff_getElem.mp ha
  rw [List.length_take] at hm
  rw [List.getElem_take] at ea
  have q:=(hb m a (by rw [List.getElem?_eq_getElem (by omega),ea])).2 (by omega)
  rw [Bool.not_eq_true',List.all_eq_false]
  exact ⟨i,List.mem_of_getElem? h,by simp; omega⟩
def vO:Option Int->V
 | none=>.non
 | some i=>.int i
def rR (K:Frag) (j:Nat) (ta:TA):TE:=fun σ H Q=>ta σ H fun vs H1=>∃ (l b:Addr) (is ks:List Int),vs = [.ref l]/\SqL K H1 l (is.map V.int)/\σ[j]?=some (some (.ref b))/\SqL K H1 b (ks.map V.int)/\(∀ i∈is,0<=i/\i<(ks.length:Int)) /\
 ∀ H2:Hp,(∀ a o,H1 a=some o->H2 a=some o)->Q (vO (Y9 (fun i=>ks.getD i.toNat 0) is)) H2
theorem SqL.more {K:Frag} {H1 H2:Hp} {a:Addr} {xs:List V} (h:SqL K H1 a xs) (sm:∀ a o,H1 a=some o->H2 a=some o):SqL K H2 a xs:=by
 rcases h with (h | ⟨o,h⟩) | h
 ·exact .inl (.inl (sm _ _ h))
 ·exact .inl (.inr ⟨o,sm _ _ h⟩)
 ·exact .inr h
theorem aD {is:List Int} {its:List Value} (r:Vals (is.map V.int) its) {n:Nat} {i:Int} (h:is[n]?=some i):∃ t,its[n]?=some (.int i t):=by
 obtain ⟨w,e,rw'⟩:=r.get (i:=n) (x:=V.int i) (by rw [List.getElem?_map,h]; rfl)
 obtain ⟨t,rfl⟩:=rw'
 exact ⟨t,e⟩
section
variable {X:Cx} {tb c:Addr} {k:Nat×Nat×Str} {pa p1 p2 p3 lpos p p4 pos kp1 kp2:Pos} {a:Expr} {ta:TA} {j kt:Nat}
theorem uu (hT:(tb,k)∈lamT) (hC:PySem.W.codeHdIn X.K c tb=true) (hcode:X.env.code=.ref c) (hq:X.env.qual++Str.ofString "<lambda>" = k.2.2) (hl1:lpos.line=k.1) (hl2:lpos.col=k.2.1)
  (hz:X.env.scope.names.lookup (Str.ofString "held")=some .cell) (hN:X.N[j]?=some (Str.ofString "held")) (hcalm:X.calm=true) {kr:Nat} (hr:Room (kr+2) X.A)
  (hg:Gl X "min") (hm:X.mg "min" = none) (ha:PA X [a] ta)
  (he:backTo pos (starEach [a] X.env)=(false,eval a X.env)::backTo pos (starEach [] X.env):=by rfl) (hplain:(backTo pos (starEach [a] X.env)).any (·.1)=false:=by rfl)
  (hall:(backToKw pos (keywordEach [⟨some "key",.Lambda (F6 pa) (E8 p1 p2 p3) lamS lpos,kp1⟩,⟨some "default",.Constant .none kt p4,kp2⟩] X.env)).all (·.1.isSome)=true:=by rfl)
  (hkw:(backToKw pos (keywordEach [⟨some "key",.Lambda (F6 pa) (E8 p1 p2 p3) lamS lpos,kp1⟩,⟨some "default",.Constant .none kt p4,kp2⟩] X.env)).any (·.1.isNone)=false:=by rfl)
  (hks:(backToKw pos (keywordEach [⟨some "key",.Lambda (F6 pa) (E8 p1 p2 p3) lamS lpos,kp1⟩,⟨some "default",.Constant .none kt p4,kp2⟩] X.env)).filterMap (·.1) = [Str.ofString "key",Str.ofString "default"]:=by rfl) :
  PE X (.Call (.Name "min" p) [a] [⟨some "key",.Lambda (F6 pa) (E8 p1 p2 p3) lamS lpos,kp1⟩,⟨some "default",.Constant .none kt p4,kp2⟩] pos) (rR X.K j ta):=by
 intro pins s σ H Q I h
 refine wpAny_Call_Name_kw (K7 I hg hm (u:=.builtin "min") rfl ?_)
 refine PyProof.Rows.callWith_kw (thn (ha pos pins s σ H _ I h) fun us s1 zz100=>?_) he hplain hall hkw
 obtain ⟨vs,H1,I1,r1,l,b,is,ks,e1,hl,hj,hb,hrg,hQ⟩:=zz100
 subst e1
 cases r1 with
 | cons ru rt=>
 cases rt
 cases ru
 rw [hks]
 show wpAny _ _ (evalAll ((do let v <- eval (.Lambda (F6 pa) (E8 p1 p2 p3) lamS lpos) X.env; standAt pos; pure v)::(do let v <- eval (.Constant .none kt p4) X.env; standAt pos; pure v) :: [])) _ _ s1
 refine wpAny_evalAll_cons (wpAny_bind (qB I1 hT hC hcode hq hl1 hl2 hz fun f c' cl pm ctv H2 s2 I2 sm go hrec hc1 hc2=>wpAny_bind (wpAny_standAt (wpAny_pure ?_))))
 refine wpAny_evalAll_cons (wpAny_bind (Constant_none (wpAny_bind (wpAny_standAt (wpAny_pure (wpAny_evalAll_nil ?_))))))
 obtain ⟨its,rI,pl,hsz⟩:=I2.list (hl.more sm)
 obtain ⟨jts,rJ,plJ,hsJ⟩:=I2.list (hb.more sm)
 have hil:is.length=its.length:=by have:=rI.length; rwa [List.length_map] at this
 have hjl:ks.length=jts.length:=by have:=rJ.length; rwa [List.length_map] at this
 obtain ⟨d,hd⟩:=hc2
 have hcell:s2.heap.IsCell d (some (.ref b)):=by
  obtain ⟨m0,_,hl0⟩:=I2.loc
  obtain ⟨u,ru,lk⟩:=hl0 j _ _ hN hj (.inr (.inl hz))
  cases ru
  rcases lk with ⟨q,_⟩ | ⟨_,d',e',z⟩
  ·have q':X.env.scope.names.lookup (Str.ofString "held")=some .local:=q
   rw [hz] at q'; cases q'
  ·rw [hc1 _ _ hd] at e'; cases e'
   exact z
 refine qr (vs:=its) (kf:=fun n=>ks.getD (is.getD n 0).toNat 0) (I2.ok.hd hcalm) pl.isList (fun n v hv h tk kp=>?_) fun v h tk kp best=>?_
 ·have hn:n<is.length:=by rw [hil]; exact (List.getElem?_eq_some_iff.mp hv).1
  have ei:is[n]?=some (is.getD n 0):=by rw [List.getD_eq_getElem?_getD,List.getElem?_eq_getElem hn]; rfl
  obtain ⟨t,et⟩:=aD rI ei
  rw [et] at hv; cases hv
  have rg:=hrg _ (List.mem_of_getElem? ei)
  generalize is.getD n 0=i at rg
  have ek:ks[i.toNat]?=some (ks.getD i.toNat 0):=by rw [List.getD_eq_getElem?_getD,List.getElem?_eq_getElem (by omega)]; rfl
  obtain ⟨t',et'⟩:=aD rJ ek
  have l63:=X5
  have lj:=hsJ
  rw [List.length_map] at lj
  exact rC (s:={ s2 with heap:=h,toks:=tk }) hr.in1.depth (kp _ _ go) (hrec.keeps kp) (I2.nolimit.keeps kp) hd (hcell.keeps kp) (let ⟨o,e,q⟩:=plJ.isList; ⟨o,kp _ _ e,q⟩) rg.1 (by omega) (by simpa using et')
 ·have I3:Inv X pins σ H2 { s2 with heap:=h,toks:=tk }:=I2.un (Un.kept kp) (I2.hok.kept kp)
  rcases best with ⟨e0,rfl⟩ | ⟨n,bst⟩
  ·have:is = []:=List.eq_nil_of_length_eq_zero (by rw [hil,e0]; rfl)
   subst this
   exact ⟨.non,H2,I3,rfl,hQ H2 sm⟩
  ·have hn:n<is.length:=by rw [hil]; exact bst.lt
   have ei:is[n]?=some (is.getD n 0):=by rw [List.getD_eq_getElem?_getD,List.getElem?_eq_getElem hn]; rfl
   obtain ⟨t,et⟩:=aD rI ei
   have hv:=bst.at_
   rw [et] at hv; cases hv
   have em:Y9 (fun i=>ks.getD i.toNat 0) is=some (is.getD n 0):=nz ei fun m y hy=>by
    have hm':m<its.length:=by rw [<- hil]; exact (List.getElem?_eq_some_iff.mp hy).1
    have:=bst.least m hm'
    have ey:is.getD m 0=y:=by rw [List.getD_eq_getElem?_getD,hy]; rfl
    rw [ey] at this
    exact this
   have hQ2:=hQ H2 sm
   rw [em] at hQ2
   exact ⟨.int (is.getD n 0),H2,I3,⟨t,rfl⟩,hQ2⟩
end
end L2
namespace L2
open PySem PySem.Spec PyProof.Rows
theorem Fun.okC {P:Program} {w:World} {K:Frag} {mg:Str->Option Value} {base:Heap} {x qual:Str} {st:Stmt} {f:Addr} {fd:FuncData} {N ps:List Str} {k:Nat} {sp:Sp} (F:Fun K x qual st f fd) (S:f9 N ps (c0 st)) (len:∀ vs H Q E,sp vs H Q E->vs.length=ps.length)
  (hbody:∀ (A:Around) (outer:List Env) (s:Shared) (H:Hp) (vs:List V) (Q:VK) (E:XK),Room k (A.deeper (envOfC qual (c0 st) s.heap.objs.size f fd.code))->sp vs H Q E ->
   ∃ t,PSs (ac CX0 P w K mg base N qual (c0 st) f fd.code A outer s H E).nox (C1 st) t/\t { nx:=fun _ H'=>Q .non H',rt:=Q } (start N vs) H):FnOk P w K mg base CX0 (k+1) f fd ps sp:=by
 obtain ⟨oc,od,kV,doc,pm,an,cdv,ct,osl,rfl,lk,hcd⟩:=F.ex
 refine sC lk hcd S len fun A outer s H vs Q E hr hsp=>?_
 obtain ⟨t,h,q⟩:=hbody A outer s H vs Q E hr hsp
 exact ⟨t,h.nox,q⟩
end L2
namespace TP
open PySem L2
def vW:Option Int->W
 | none=>.non
 | some i=>.int i
def cS (is ks:List Int):R W:=if is.all (fun i=>decide (0<=i)&&decide (i<(ks.length:Int)))=true then .ok (vW (Y9 (fun i=>ks.getD i.toNat 0) is)) else .stuck
def lh:W->W->R W
 | .lst ws,.lst us=>toR (v5 ws)>>=fun is=>toR (v5 us)>>=fun ks=>cS is ks
 | _,_=>.stuck
def mML (j:Nat) (ρ:Rho):List W->R W
 | [w]=>b8 .B j ρ>>=fun u=>lh w u
 | _=>.stuck
def dQ (j:Nat) (ma:Rho->R (List W)):Rho->R W:=fun ρ=>ma ρ>>=mML j ρ
section
variable {K:Frag} {EX:EXT} {H0 G H:Hp} {ρ:Rho} {σ:L2.St} {Q:VK}
theorem AH {j:Nat} {ma:Rho->R (List W)} (h:tM K EX .F (dQ j ma) σ H Q):rR K j (tA K EX .B ma) σ H Q:=by
 obtain ⟨H0,G,ρ,I,o⟩:=h
 unfold dQ at o
 refine ⟨H0,G,ρ,I,Out.bind o fun xs G1 H1 ws e1 m1 o1=>?_⟩
 have I1:=I.ext e1
 unfold mML at o1
 split at o1
 ·rename_i w
  have hx:∃ x,xs = [x]/\Md K H0 H G1 H1 x w .B:=by
   cases m1 with
   | cons a t=>cases t; exact ⟨_,rfl,a⟩
  obtain ⟨x,rfl,a⟩:=hx
  have key:U3 j σ H1 (fun v H2=>∃ (l b:Addr) (is ks:List Int),x=V.ref l/\SqL K H2 l (is.map V.int)/\v=V.ref b/\SqL K H2 b (ks.map V.int)/\(∀ i∈is,0<=i/\i<(ks.length:Int))/\∀ H3:Hp,(∀ a o,H2 a=some o->H3 a=some o)->Q (vO (Y9 (fun i=>ks.getD i.toNat 0) is)) H3):=by
   refine ge (d:=.B) (EX:=EX) ⟨H0,G1,ρ,I1,Out.bind o1 fun v G2 H2 u e2 m2 o2=>?_⟩
   have I2:=I1.ext e2
   have a2:=a.move e2
   cases w <;> first | exact o2.elim | skip
   cases u <;> first | exact o2.elim | skip
   rename_i ws us
   replace o2:Out EX G2 H2 (mdW K .F H0 H) (toR (v5 ws)>>=fun is=>toR (v5 us)>>=fun ks=>cS is ks) Q:=o2
   cases q1:v5 ws with
   | none=>rw [q1] at o2; exact o2.elim
   | some is=>
    cases q2:v5 us with
    | none=>rw [q1,q2] at o2; exact o2.elim
    | some ks=>
     rw [q1,q2] at o2
     replace o2:Out EX G2 H2 (mdW K .F H0 H) (cS is ks) Q:=o2
     unfold cS at o2
     by_cases hc:is.all (fun i=>decide (0<=i)&&decide (i<(ks.length:Int)))=true
     ·rw [if_pos hc] at o2
      obtain ⟨p,ys,e3,hs,r⟩:=a2.lstB I2
      obtain ⟨p',ys',e4,hs',r'⟩:=m2.lstB I2
      rw [Reps.ints r q1] at hs
      rw [Reps.ints r' q2] at hs'
      refine ⟨p,p',is,ks,e3,.inl (.inl hs),e4,.inl (.inl hs'),fun i hi=>?_,fun H3 sm=>?_⟩
      ·have:=List.all_eq_true.mp hc i hi
       rw [Bool.and_eq_true] at this
       exact ⟨of_decide_eq_true this.1,of_decide_eq_true this.2⟩
      ·refine o2 _ G2 H3 ⟨Same.refl _,sm,I2.gh.trans sm,fun _ _ _ _ e=>e⟩ ?_
       cases Y9 (fun i=>ks.getD i.toNat 0) is with
       | none=>exact Md.sca rfl (fun _=>.non) .F
       | some i=>exact Md.sca rfl (fun _=>.int) .F
     ·rw [if_neg hc] at o2; exact o2.elim
  obtain ⟨v,es,l,b,is,ks,e1',h1,e2',h2,h3,h4⟩:=key
  subst e1' e2'
  exact ⟨l,b,is,ks,rfl,h1,es,h2,h3,h4⟩
 ·exact o1.elim
end
section
variable {X:Cx} {K:Frag} {EX:EXT} {tb c:Addr} {k:Nat×Nat×Str} {pa p1 p2 p3 lpos p p4 pos kp1 kp2:Pos} {a:Expr} {ma:Rho->R (List W)} {j kt:Nat}
theorem xR (hT:(tb,k)∈lamT) (hC:PySem.W.codeHdIn X.K c tb=true) (hcode:X.env.code=.ref c) (hq:X.env.qual++Str.ofString "<lambda>" = k.2.2) (hl1:lpos.line=k.1) (hl2:lpos.col=k.2.1)
  (hz:X.env.scope.names.lookup (Str.ofString "held")=some .cell) (hN:X.N[j]?=some (Str.ofString "held")) (hcalm:X.calm=true) {kr:Nat} (hr:Room (kr+2) X.A)
  (hg:Gl X "min") (hm:X.mg "min" = none) (ha:PA X [a] (tA K EX .B ma)) (hK:X.K=K:=by rfl)
  (he:backTo pos (starEach [a] X.env)=(false,eval a X.env)::backTo pos (starEach [] X.env):=by rfl) (hplain:(backTo pos (starEach [a] X.env)).any (·.1)=false:=by rfl)
  (hall:(backToKw pos (keywordEach [⟨some "key",.Lambda (F6 pa) (E8 p1 p2 p3) lamS lpos,kp1⟩,⟨some "default",.Constant .none kt p4,kp2⟩] X.env)).all (·.1.isSome)=true:=by rfl)
  (hkw:(backToKw pos (keywordEach [⟨some "key",.Lambda (F6 pa) (E8 p1 p2 p3) lamS lpos,kp1⟩,⟨some "default",.Constant .none kt p4,kp2⟩] X.env)).any (·.1.isNone)=false:=by rfl)
  (hks:(backToKw pos (keywordEach [⟨some "key",.Lambda (F6 pa) (E8 p1 p2 p3) lamS lpos,kp1⟩,⟨some "default",.Constant .none kt p4,kp2⟩] X.env)).filterMap (·.1) = [Str.ofString "key",Str.ofString "default"]:=by rfl) :
  PE X (.Call (.Name "min" p) [a] [⟨some "key",.Lambda (F6 pa) (E8 p1 p2 p3) lamS lpos,kp1⟩,⟨some "default",.Constant .none kt p4,kp2⟩] pos) (tM K EX .F (dQ j ma)):=by
 subst hK
 exact (uu hT hC hcode hq hl1 hl2 hz hN hcalm hr hg hm ha he hplain hall hkw hks).mono fun _ _ _ q=>AH q
end
theorem iW (j:Nat) (ma:Rho->R (List W)) (ρ:Rho):dQ j ma ρ=ma ρ>>=mML j ρ:=rfl
theorem nD (j:Nat) (ρ:Rho) (w:W):mML j ρ [w]=b8 .B j ρ>>=fun u=>lh w u:=rfl
theorem jX (is ks:List Int):lh (.lst (is.map W.int)) (.lst (ks.map W.int))=cS is ks:=by
 show toR (v5 (is.map W.int))>>=_=_
 rw [ints_map,ints_map]; rfl
section
variable {K:Frag} {EX:EXT} {H:Hp} {σ:St} {d:Mode} {D:Ends}
end
section
variable {X:Cx} {K:Frag} {EX:EXT} {d:Mode} {m1 m2:Rho->R W} {e1 e2:Expr}
end
end TP
namespace L2
open PySem
theorem codeTab {h:Heap} {c P:Addr} (C:PySem.W.CodeHd h c P):isCodeTable h P:=by
 obtain ⟨o,vs,_,_,_,_,_,_,_,e1,e2,e3,e4,_⟩:=C
 exact ⟨c,o,vs,e1,e2,e3,e4⟩
end L2
namespace TP
open PySem L2
abbrev tI (ns:List Int):W:=.tup (ns.map W.int)
abbrev lI (ns:List Int):W:=.lst (ns.map W.int)
theorem w8 (ns:List Int):m7 (ns.map W.int)=true:=by
 induction ns with
 | nil=>rfl
 | cons n ns ih=>rw [List.map_cons]; simp only [m7,noL,ih,Bool.and_self]
theorem vF (n:Bool) (i j:Int):n9 n (.int i) (.int j)=.ok (.bl (if n then !decide (i=j) else decide (i=j))):=by
 show R.ok (W.bl (if n then !decide (V.int i=V.int j) else decide (V.int i=V.int j)))=_
 rw [show decide (V.int i=V.int j)=decide (i=j) from decide_eq_decide.mpr ⟨V.int.inj,congrArg _⟩]
theorem vG (n:Bool) (i j:Bool):n9 n (.bl i) (.bl j)=.ok (.bl (if n then !decide (i=j) else decide (i=j))):=by
 show R.ok (W.bl (if n then !decide (V.bl i=V.bl j) else decide (V.bl i=V.bl j)))=_
 rw [show decide (V.bl i=V.bl j)=decide (i=j) from decide_eq_decide.mpr ⟨V.bl.inj,congrArg _⟩]
theorem vB (n:Bool) (i j:Str):n9 n (.str i) (.str j)=.ok (.bl (if n then !decide (i=j) else decide (i=j))):=by
 show R.ok (W.bl (if n then !decide (V.str i=V.str j) else decide (V.str i=V.str j)))=_
 rw [show decide (V.str i=V.str j)=decide (i=j) from decide_eq_decide.mpr ⟨V.str.inj,congrArg _⟩]
theorem vC (n:Bool):n9 n .non .non=.ok (.bl (!n)):=by cases n <;> rfl
theorem vD (n:Bool) (i:Int):n9 n .non (.int i)=.ok (.bl n):=by cases n <;> rfl
theorem vE (n:Bool) (i:Int):n9 n (.int i) .non=.ok (.bl n):=by cases n <;> rfl
theorem atW {ns:List Int} {i:Int} (h0:0<=i) (h1:i<ns.length):L2.atI (ns.map W.int) i=some (.int (ns.getD i.toNat 0)):=by
 unfold L2.atI
 rw [List.length_map,bV h0 h1]
 show (ns.map W.int)[i.toNat]?=_
 rw [List.getElem?_map,aI (by omega)]; rfl
theorem C3 {ws:List W} {k:Nat} {w:W} (h:ws[k]?=some w):L2.atI ws (k:Int)=some w:=by
 have hk:=(List.getElem?_eq_some_iff.mp h).1
 unfold L2.atI
 rw [bV (by omega) (by omega),Int.toNat_natCast]
 exact h
def andThen (r:R Fl) (n:Rho->R Fl):R Fl:=r>>=fun f=>match f with
 | .nx ρ'=>n ρ'
 | .rt w=>.ok (.rt w)
 | .bk ρ'=>.ok (.bk ρ')
 | .ct ρ'=>.ok (.ct ρ')
theorem uW (m n:Rho->R Fl) (ρ:Rho):d9 m n ρ=andThen (m ρ) n:=rfl
theorem lB (ρ:Rho) (n:Rho->R Fl):andThen (.ok (.nx ρ)) n=n ρ:=rfl
theorem lA (w:W) (n:Rho->R Fl):andThen (.ok (.rt w)) n=.ok (.rt w):=rfl
theorem lD (ρ:Rho) (n:Rho->R Fl):andThen (.ok (.bk ρ)) n=.ok (.bk ρ):=rfl
theorem lC (ρ:Rho) (n:Rho->R Fl):andThen (.ok (.ct ρ)) n=.ok (.ct ρ):=rfl
theorem BN (w:W) (ρ:Rho):mC w ρ=.ok w:=rfl
theorem Cw (f:W->R W) (ma:Rho->R W) (ρ:Rho):b1 f ma ρ=(ma ρ>>=f):=rfl
def R2b (a b:R W) (f:W->W->R W):R W:=a>>=fun x=>b>>=fun y=>f x y
theorem Cv (f:W->W->R W) (ma mb:Rho->R W) (ρ:Rho):b2 f ma mb ρ=R2b (ma ρ) (mb ρ) f:=rfl
theorem Bf (x y:W) (f:W->W->R W):R2b (.ok x) (.ok y) f=f x y:=rfl
theorem Cu (f:List W->R W) (ma:Rho->R (List W)) (ρ:Rho):bA f ma ρ=(ma ρ>>=f):=rfl
theorem Ct (f:List W->R (List W)) (ma:Rho->R (List W)) (ρ:Rho):bI f ma ρ=(ma ρ>>=f):=rfl
theorem Cs (ma:Rho->R W) (ρ:Rho):bS ma ρ=(ma ρ>>=B6):=rfl
theorem CC (ρ:Rho):aN ρ=.ok []:=rfl
def sQ (a:R W) (b:R (List W)):R (List W):=a>>=fun x=>b>>=fun xs=>.ok (x::xs)
theorem CD (ma:Rho->R W) (mr:Rho->R (List W)) (ρ:Rho):aC ma mr ρ=sQ (ma ρ) (mr ρ):=rfl
theorem rM (x:W) (xs:List W):sQ (.ok x) (.ok xs)=.ok (x::xs):=rfl
theorem vY (ma:Rho->R W) (ρ:Rho):bF ma ρ=(ma ρ>>=chk):=rfl
theorem rG (ma:Rho->R W) (ρ:Rho):g8 ma ρ=(ma ρ>>=toB):=rfl
theorem tw (a b:Rho->R Bool) (ρ:Rho):fW a b ρ=eu (a ρ) (b ρ):=rfl
theorem wC (a b:Rho->R Bool) (ρ:Rho):Q3 a b ρ=rOr (a ρ) (b ρ):=rfl
theorem tu (a:Rho->R Bool) (ρ:Rho):M7 a ρ=kH (a ρ):=rfl
theorem ua (x y:Bool):eu (.ok x) (.ok y)=.ok (x&&y):=by cases x <;> rfl
theorem ub (r:R Bool):eu (.ok false) r=.ok false:=rfl
theorem tZ (r:R Bool):eu (.ok true) r=r:=rfl
theorem xK (x y:Bool):rOr (.ok x) (.ok y)=.ok (x||y):=by cases x <;> rfl
theorem xJ (r:R Bool):rOr (.ok true) r=.ok true:=rfl
theorem xL (r:R Bool):rOr (.ok false) r=r:=rfl
theorem tV (x:Bool):kH (.ok x)=.ok (!x):=rfl
theorem tf (a b:Rho->R W) (ρ:Rho):cH a b ρ=bM (a ρ) (b ρ):=rfl
theorem wu (a b:Rho->R W) (ρ:Rho):vOr a b ρ=gA (a ρ) (b ρ):=rfl
theorem sY (a:Rho->R W) (ρ:Rho):oX a ρ=fX (a ρ):=rfl
theorem pP (x y:Bool):bM (.ok (.bl x)) (.ok (.bl y))=.ok (.bl (x&&y)):=by cases x <;> rfl
theorem pQ (r:R W):bM (.ok (.bl false)) r=.ok (.bl false):=rfl
theorem pO (r:R W):bM (.ok (.bl true)) r=r:=rfl
theorem tS (x y:Bool):gA (.ok (.bl x)) (.ok (.bl y))=.ok (.bl (x||y)):=by cases x <;> rfl
theorem tR (r:R W):gA (.ok (.bl true)) r=.ok (.bl true):=rfl
theorem tU (r:R W):gA (.ok (.bl false)) r=r:=rfl
theorem pM (x:Bool):fX (.ok (.bl x))=.ok (.bl (!x)):=rfl
def kI (c:R Bool) (a b:R W):R W:=c>>=fun t=>if t then a else b
theorem wv (c:Rho->R Bool) (a b:Rho->R W) (ρ:Rho):vIf c a b ρ=kI (c ρ) (a ρ) (b ρ):=rfl
theorem tW (a b:R W):kI (.ok true) a b=a:=rfl
theorem tY (a b:R W):kI (.ok false) a b=b:=rfl
theorem tX (t:Bool) (x y:W):kI (.ok t) (.ok x) (.ok y)=.ok (if t then x else y):=by cases t <;> rfl
def ja (f f':W->W->R W) (a b c:R W):R W:=a>>=fun x=>b>>=fun y=>f x y>>=fun z=>toB z>>=fun t=>if t then c>>=fun u=>f' y u else .ok (.bl false)
theorem lO (f f':W->W->R W) (ma mb mc:Rho->R W) (ρ:Rho):gj f f' ma mb mc ρ=ja f f' (ma ρ) (mb ρ) (mc ρ):=rfl
theorem oP (g g':Int->Int->Bool) (i j k:Int):ja (fI0 fun i j=>.bl (g i j)) (fI0 fun i j=>.bl (g' i j)) (.ok (.int i)) (.ok (.int j)) (.ok (.int k))=.ok (.bl (g i j&&g' j k)):=by
 unfold ja
 show (if g i j=true then _ else _)=_
 cases h:g i j <;> simp [fI0]
def kQ (ws:List W):R W:=lim ws.length (.tup ws)
def kR (ws:List W):R W:=lim ws.length (.lst ws)
theorem sX (ma:Rho->R (List W)) (ρ:Rho):A4 ma ρ=(ma ρ>>=kQ):=rfl
theorem sZ (ma:Rho->R (List W)) (ρ:Rho):D7 ma ρ=(ma ρ>>=kR):=rfl
theorem BF (ρ:Rho):pN ρ=.ok none:=rfl
theorem BE (m:Rho->R W) (ρ:Rho):pS m ρ=(m ρ>>=fY):=rfl
theorem nc (i:Int):fY (.int i)=.ok (some i):=rfl
def Rsl (c:Bool) (x:R W) (l u:R (Option Int)):R W:=x>>=fun x=>l>>=fun l=>u>>=fun u=>toR (lstOf x)>>=fun ws=>chks c (E9 ws l u)
theorem wq (c:Bool) (m:Rho->R W) (ml mh:Rho->R (Option Int)) (ρ:Rho):vSl c m ml mh ρ=Rsl c (m ρ) (ml ρ) (mh ρ):=rfl
theorem wd (c:Bool) (ws:List W) (l u:Option Int):Rsl c (.ok (.lst ws)) (.ok l) (.ok u)=chks c (E9 ws l u):=rfl
theorem wc (c:Bool) (ws:List W) (l u:Option Int):Rsl c (.ok (.scr ws)) (.ok l) (.ok u)=chks c (E9 ws l u):=rfl
def sR (r:R (List W)) (n:Nat) (mg:W->Rho->Option Rho) (mc:Rho->R Bool) (me:Rho->R W) (ρ:Rho):R W:=r>>=fun ws=>j8 n mg mc me ws ρ
theorem oY (n:Nat) (mi:Rho->R (List W)) (mg:W->Rho->Option Rho) (mc:Rho->R Bool) (me:Rho->R W) (ρ:Rho):k7 n mi mg mc me ρ=sR (mi ρ) n mg mc me ρ:=rfl
theorem rN (ws:List W) (n:Nat) (mg:W->Rho->Option Rho) (mc:Rho->R Bool) (me:Rho->R W) (ρ:Rho):sR (.ok ws) n mg mc me ρ=j8 n mg mc me ws ρ:=rfl
theorem wZ (ρ:Rho):sNx ρ=.ok (.nx ρ):=rfl
theorem xc (ρ:Rho):sBk ρ=.ok (.bk ρ):=rfl
theorem xa (ρ:Rho):sCt ρ=.ok (.ct ρ):=rfl
def sP (r:R W) (ρ:Rho):R Fl:=r>>=fun _=>.ok (.nx ρ)
theorem pz (m:Rho->R W) (ρ:Rho):Bo m ρ=sP (m ρ) ρ:=rfl
theorem rL (w:W) (ρ:Rho):sP (.ok w) ρ=.ok (.nx ρ):=rfl
def gz (w:W):R Fl:=.ok (.rt w)
theorem tJ (m:Rho->R W) (ρ:Rho):h7 m ρ=(m ρ>>=gz):=rfl
theorem tQ (w:W):gz w=.ok (.rt w):=rfl
theorem px (ρ:Rho):Bk ρ=.ok (.rt .non):=rfl
def lF (r:R W) (f:W->Sl) (i:Nat) (ρ:Rho):R Fl:=r>>=fun w=>.ok (.nx (ρ.set i (f w)))
theorem Bi (i:Nat) (m:Rho->R W) (ρ:Rho):sV i m ρ=lF (m ρ) Sl.val i ρ:=rfl
theorem Bj (i:Nat) (m:Rho->R W) (ρ:Rho):sU i m ρ=lF (m ρ) Sl.par i ρ:=rfl
theorem Bm (i:Nat) (m:Rho->R W) (ρ:Rho):sF i m ρ=lF (m ρ) K0 i ρ:=rfl
theorem we (w:W) (f:W->Sl) (i:Nat) (ρ:Rho):lF (.ok w) f i ρ=.ok (.nx (ρ.set i (f w))):=rfl
theorem lZ (ws:List W):K0 (.lst ws)=.own ws:=rfl
theorem lW (ws:List W):K0 (.tup ws)=.val (.tup ws):=rfl
theorem mf (i:Int):K0 (.int i)=.val (.int i):=rfl
theorem pk (i:Bool):K0 (.bl i)=.val (.bl i):=rfl
theorem lY:K0 .non=.val .non:=rfl
theorem lX (i:Str):K0 (.str i)=.val (.str i):=rfl
def wy:Option Rho->R Fl
 | some ρ=>.ok (.nx ρ)
 | none=>.stuck
def Be (r:R W) (mg:W->Rho->Option Rho) (ρ:Rho):R Fl:=r>>=fun w=>toR (mg w ρ)>>=fun ρ'=>.ok (.nx ρ')
theorem Bl (mg:W->Rho->Option Rho) (m:Rho->R W) (ρ:Rho):sG mg m ρ=Be (m ρ) mg ρ:=rfl
theorem wm (w:W) (mg:W->Rho->Option Rho) (ρ:Rho):Be (.ok w) mg ρ=wy (mg w ρ):=by
 show (toR (mg w ρ)>>=_)=_
 cases mg w ρ <;> rfl
theorem lT (ρ:Rho):wy (some ρ)=.ok (.nx ρ):=rfl
def Bb (r:R (List W)) (mg:W->Rho->Option Rho) (mb:Rho->R Fl) (ρ:Rho):R Fl:=r>>=fun ws=>B7 mg mb ws ρ
theorem tL (mi:Rho->R (List W)) (mg:W->Rho->Option Rho) (mb:Rho->R Fl) (ρ:Rho):B9 mi mg mb ρ=Bb (mi ρ) mg mb ρ:=rfl
theorem wg (ws:List W) (mg:W->Rho->Option Rho) (mb:Rho->R Fl) (ρ:Rho):Bb (.ok ws) mg mb ρ=B7 mg mb ws ρ:=rfl
theorem tK (i:Nat) (m:Rho->R Fl) (ρ:Rho):aM i m ρ=m (frz i ρ):=rfl
def eV:Option Sl->Nat->Rho->Rho
 | some (.own ws),i,ρ=>ρ.set i (.val (.lst ws))
 | _,_,ρ=>ρ
theorem zF (i:Nat) (ρ:Rho):frz i ρ=eV (ρ[i]?) i ρ:=by
 unfold frz eV
 rcases h:ρ[i]? with _ | s
 ·rfl
 ·cases s <;> rfl
theorem qU (ws:List W) (i:Nat) (ρ:Rho):eV (some (.own ws)) i ρ=ρ.set i (.val (.lst ws)):=rfl
theorem qS (w:W) (i:Nat) (ρ:Rho):eV (some (.val w)) i ρ=ρ:=rfl
theorem qT (w:W) (i:Nat) (ρ:Rho):eV (some (.par w)) i ρ=ρ:=rfl
theorem vv (i:Nat) (ρ:Rho):eV (some .un) i ρ=ρ:=rfl
def rdS (d:Mode):Option Sl->R W
 | some (.val w)=>(match d with | .F=>chk w | _=>.ok w)
 | some (.par w)=>(match d with | .F=>chk w | .V=>chk w | .C=>chk w | _=>.ok w)
 | some (.own ws)=>(match d with | .C=>.ok (.lst ws) | .B=>.ok (.lst ws) | _=>.stuck)
 | some (.iop _ ws)=>(match d with | .B=>.ok (.lst ws) | .U=>.ok (.lst ws) | _=>.stuck)
 | some (.hz w)=>(match d with | .B=>.ok w | .U=>.ok w | _=>.stuck)
 | _=>.stuck
theorem eO (d:Mode) (i:Nat) (ρ:Rho):b8 d i ρ=rdS d (ρ[i]?):=by
 unfold b8 rdS
 rfl
theorem xw (w:W):rdS .F (some (.val w))=chk w:=rfl
theorem xu (w:W):rdS .V (some (.val w))=.ok w:=rfl
theorem xv (w:W):rdS .U (some (.val w))=.ok w:=rfl
theorem xx (w:W):rdS .C (some (.val w))=.ok w:=rfl
theorem xy (w:W):rdS .B (some (.val w))=.ok w:=rfl
theorem xB (w:W):rdS .F (some (.par w))=chk w:=rfl
theorem xz (w:W):rdS .V (some (.par w))=chk w:=rfl
theorem xA (w:W):rdS .U (some (.par w))=.ok w:=rfl
theorem xC (w:W):rdS .C (some (.par w))=chk w:=rfl
theorem xD (w:W):rdS .B (some (.par w))=.ok w:=rfl
theorem xE (ws:List W):rdS .C (some (.own ws))=.ok (.lst ws):=rfl
theorem xF (ws:List W):rdS .B (some (.own ws))=.ok (.lst ws):=rfl
def retS (d:Mode):Option Sl->R Fl
 | some (.own ws)=>.ok (.rt (.lst ws))
 | o=>rdS d o>>=gz
theorem kT (d:Mode) (i:Nat) (ρ:Rho):D6 d i ρ=retS d (ρ[i]?):=by
 unfold D6 retS
 rw [eO]
 rcases h:ρ[i]? with _ | s
 ·rfl
 ·cases s <;> rfl
theorem pH (d:Mode) (ws:List W):retS d (some (.own ws))=.ok (.rt (.lst ws)):=rfl
theorem pF (d:Mode) (w:W):retS d (some (.val w))=(rdS d (some (.val w))>>=gz):=rfl
theorem pG (d:Mode) (w:W):retS d (some (.par w))=(rdS d (some (.par w))>>=gz):=rfl
def rH (o:Option Sl) (r:R W) (i:Nat) (ρ:Rho):R Fl:=match o with
 | some (.own ws)=>r>>=fun w=>if ws.length<1000 then .ok (.nx (ρ.set i (.own (ws ++ [w])))) else .stuck
 | _=>.stuck
theorem va (i:Nat) (m:Rho->R W) (ρ:Rho):R0 i m ρ=rH (ρ[i]?) (m ρ) i ρ:=rfl
theorem wa (ws:List W) (w:W) (i:Nat) (ρ:Rho):rH (some (.own ws)) (.ok w) i ρ=if ws.length<1000 then .ok (.nx (ρ.set i (.own (ws ++ [w])))) else .stuck:=rfl
def wR (o:Option Sl) (a b:R W) (i:Nat) (ρ:Rho):R Fl:=match o with
 | some (.own ws)=>b>>=fun w=>a>>=fun k=>(match k with
  | .int k=>(match ixN ws.length k with
   | some j=>.ok (.nx (ρ.set i (.own (ws.set j w))))
   | none=>.stuck)
  | _=>.stuck)
 | _=>.stuck
theorem uV (i:Nat) (mk me:Rho->R W) (ρ:Rho):Z0 i mk me ρ=wR (ρ[i]?) (mk ρ) (me ρ) i ρ:=rfl
def wS (o:Option Nat) (ws:List W) (w:W) (i:Nat) (ρ:Rho):R Fl:=match o with
 | some j=>.ok (.nx (ρ.set i (.own (ws.set j w))))
 | none=>.stuck
theorem tG (ws:List W) (w:W) (k:Int) (i:Nat) (ρ:Rho):wR (some (.own ws)) (.ok (.int k)) (.ok w) i ρ=wS (ixN ws.length k) ws w i ρ:=rfl
theorem mz (j:Nat) (ws:List W) (w:W) (i:Nat) (ρ:Rho):wS (some j) ws w i ρ=.ok (.nx (ρ.set i (.own (ws.set j w)))):=rfl
def AV (f:Int->Int->Int) (a b:R W) (i:Nat) (ρ:Rho):R Fl:=a>>=fun x=>b>>=fun y=>match x,y with
 | .int a,.int b=>.ok (.nx (ρ.set i (.val (.int (f a b)))))
 | _,_=>.stuck
theorem uZ (i:Nat) (f:Int->Int->Int) (m:Rho->R W) (ρ:Rho):io i f m ρ=AV f (rdS .B (ρ[i]?)) (m ρ) i ρ:=by
 rw [<- eO]; rfl
theorem vZ (f:Int->Int->Int) (a b:Int) (i:Nat) (ρ:Rho):AV f (.ok (.int a)) (.ok (.int b)) i ρ=.ok (.nx (ρ.set i (.val (.int (f a b))))):=rfl
def ifS (c:R Bool) (m n:Rho->R Fl) (ρ:Rho):R Fl:=c>>=fun b=>if b then m ρ else n ρ
theorem yG (c:Rho->R Bool) (m n:Rho->R Fl) (ρ:Rho):mIf c m n ρ=ifS (c ρ) m n ρ:=rfl
theorem zr (m n:Rho->R Fl) (ρ:Rho):ifS (.ok true) m n ρ=m ρ:=rfl
theorem zt (m n:Rho->R Fl) (ρ:Rho):ifS (.ok false) m n ρ=n ρ:=rfl
def Z9 (r:R Fl):R W:=r>>=fun f=>match f with
 | .rt w=>.ok w
 | .nx _=>.ok .non
 | _=>.stuck
theorem W4 {n N:Nat} {m:Rho->R Fl} {ws:List W} (h:ws.length=n):i9 n N m ws=Z9 (m (ws.map Sl.par++List.replicate (N-n) Sl.un)):=by unfold i9; rw [if_pos h]; rfl
theorem xk {N:Nat} {m:Rho->R Fl} (a:W):i9 1 N m [a]=Z9 (m (Sl.par a::List.replicate (N-1) Sl.un)):=W4 rfl
theorem xj {N:Nat} {m:Rho->R Fl} (a b:W):i9 2 N m [a,b]=Z9 (m (Sl.par a::Sl.par b::List.replicate (N-2) Sl.un)):=W4 rfl
theorem xi {N:Nat} {m:Rho->R Fl} (a b c:W):i9 3 N m [a,b,c]=Z9 (m (Sl.par a::Sl.par b::Sl.par c::List.replicate (N-3) Sl.un)):=W4 rfl
theorem xh {N:Nat} {m:Rho->R Fl} (a b c d:W):i9 4 N m [a,b,c,d]=Z9 (m (Sl.par a::Sl.par b::Sl.par c::Sl.par d::List.replicate (N-4) Sl.un)):=W4 rfl
theorem xg {N:Nat} {m:Rho->R Fl} (a b c d e:W):i9 5 N m [a,b,c,d,e]=Z9 (m (Sl.par a::Sl.par b::Sl.par c::Sl.par d::Sl.par e::List.replicate (N-5) Sl.un)):=W4 rfl
theorem vK (w:W):Z9 (.ok (.rt w))=.ok w:=rfl
theorem vL (ρ:Rho):Z9 (.ok (.nx ρ))=.ok .non:=rfl
theorem zT (g:Int->Int->W) (i j:Int):fI0 g (.int i) (.int j)=.ok (g i j):=rfl
theorem fU_i (g:Int->W) (i:Int):fU g (.int i)=.ok (g i):=rfl
theorem BW (ws:List W) (i:Int):fIx (.lst ws) (.int i)=toR (L2.atI ws i):=rfl
theorem BU (ws:List W) (i:Int):fIx (.tup ws) (.int i)=toR (L2.atI ws i):=rfl
theorem BV (ws:List W) (i:Int):fIx (.scr ws) (.int i)=toR (L2.atI ws i):=rfl
theorem pe {α:Type} (a:α):toR (some a)=.ok a:=rfl
theorem wA (b:Bool):toB (.bl b)=.ok b:=rfl
theorem zN (ws:List W):fLen [.lst ws]=.ok (.int ws.length):=rfl
theorem zL (ws:List W):fLen [.tup ws]=.ok (.int ws.length):=rfl
theorem zM (ws:List W):fLen [.scr ws]=.ok (.int ws.length):=rfl
theorem vy (c:Bool) (ws:List W):sE c [.lst ws]=chks c ws:=rfl
theorem vx (c:Bool) (ws:List W):sE c [.tup ws]=chks c ws:=rfl
theorem zJ (c:Bool) (ws:List W):J2 c [.lst ws]=S8 c ws:=rfl
theorem zH (c:Bool) (ws:List W):J2 c [.tup ws]=S8 c ws:=rfl
theorem Am (ws:List W):chks true ws=.ok (.lst ws):=rfl
theorem Au (ws:List W):S8 true ws=.ok (.tup ws):=rfl
theorem fh {c:Bool} {ws:List W} (h:m7 ws=true):chks c ws=.ok (.lst ws):=by unfold chks; rw [h,Bool.or_true,if_pos rfl]
theorem ca {c:Bool} {ws:List W} (h:m7 ws=true):S8 c ws=.ok (.tup ws):=by unfold S8; rw [h,Bool.or_true,if_pos rfl]
theorem Ap (c:Bool) (ns:List Int):chks c (ns.map W.int)=.ok (.lst (ns.map W.int)):=fh (w8 ns)
theorem Ax (c:Bool) (ns:List Int):S8 c (ns.map W.int)=.ok (.tup (ns.map W.int)):=ca (w8 ns)
theorem O3 {w:W} (h:noL w=true):chk w=.ok w:=by unfold chk; rw [if_pos h]
theorem vP (i:Int):chk (.int i)=.ok (.int i):=rfl
theorem As (i:Bool):chk (.bl i)=.ok (.bl i):=rfl
theorem vM (i:Str):chk (.str i)=.ok (.str i):=rfl
theorem vN:chk .non=.ok .non:=rfl
theorem Aq (ns:List Int):chk (.tup (ns.map W.int))=.ok (.tup (ns.map W.int)):=O3 (w8 ns)
theorem BX (g:Int->Int->Int) (i j:Int):f2 g [.int i,.int j]=.ok (.int (g i j)):=rfl
theorem wV (ws:List W):B6 (.lst ws)=.ok ws:=rfl
theorem wT (ws:List W):B6 (.tup ws)=.ok ws:=rfl
theorem wU (ws:List W):B6 (.scr ws)=.ok ws:=rfl
theorem xp (j:Int):E4 [.int j]=K3 0 j:=rfl
theorem xo (i j:Int):rng2 [.int i,.int j]=K3 i j:=rfl
theorem gN_U (i:Nat) (w:W) (ρ:Rho):gN .U i w ρ=some (ρ.set i (.par w)):=rfl
theorem gN_V (i:Nat) (w:W) (ρ:Rho):gN .V i w ρ=some (ρ.set i (.val w)):=rfl
theorem gT_t (n:Nat) (g:List W->Rho->Option Rho) (ws:List W) (ρ:Rho):gT n g (.tup ws) ρ=if ws.length=n then g ws ρ else none:=rfl
theorem qN (f:W->Rho->Option Rho) (g:List W->Rho->Option Rho) (w:W) (ws:List W) (ρ:Rho):l6 f g (w::ws) ρ=(f w ρ).bind (g ws):=rfl
theorem vn (ρ:Rho):gsNil [] ρ=some ρ:=rfl
theorem qp (ws:List W):kQ ws=if ws.length<=1000 then .ok (.tup ws) else .stuck:=rfl
theorem qq (ws:List W):kR ws=if ws.length<=1000 then .ok (.lst ws) else .stuck:=rfl
theorem vz (x:W) (T:String):fIsi [x,.ty T]=(toR ((tyW x).bind fun A=>x3 A T)>>=fun b=>.ok (.bl b)):=rfl
theorem yU:x3 "NoneType" "tuple" = some false:=by decide
theorem yV:x3 "NoneType" "list" = some false:=by decide
theorem yY:x3 "list" "tuple" = some false:=by decide
theorem yP:x3 "tuple" "list" = some false:=by decide
theorem zO (n:Bool) (u:W):S3 n u .non=.ok (.bl (if n then !isN u else isN u)):=rfl
theorem qw {f:W->R (Option W)} {α:Type} (g:α->W) (s:α->W):∀ (as:List α),(∀ a∈as,f (s a)=.ok (some (g a)))->mapR f (as.map s)=.ok (as.map g):=by
 intro as
 induction as with
 | nil=>exact fun _=>rfl
 | cons a as ih=>
  intro h
  rw [List.map_cons,mapR,h a List.mem_cons_self,ih fun b hb=>h b (List.mem_cons_of_mem _ hb)]
  rfl
theorem jm {f:W->R (Option W)} {α:Type} (g:α->W) (s:α->W) (c:α->Bool):∀ (as:List α),(∀ a∈as,f (s a)=.ok (if c a then some (g a) else none))->mapR f (as.map s)=.ok ((as.filter c).map g):=by
 intro as
 induction as with
 | nil=>exact fun _=>rfl
 | cons a as ih=>
  intro h
  rw [List.map_cons,mapR,h a List.mem_cons_self,ih fun b hb=>h b (List.mem_cons_of_mem _ hb),List.filter_cons]
  cases c a <;> rfl
theorem j0 {N':Nat} {mg:W->Rho->Option Rho} {me:Rho->R W} {α:Type} (g:α->W) (s:α->W) (as:List α) (ρ:Rho) (hl:as.length<=1000)
  (h:∀ a∈as,∃ ρ1,mg (s a) (ρ++List.replicate (N'-ρ.length) Sl.un)=some ρ1/\me ρ1=.ok (g a)):j8 N' mg yes me (as.map s) ρ=.ok (.lst (as.map g)):=by
 unfold j8
 rw [List.length_map,if_pos hl,qw g s as]
 intro a ha
 obtain ⟨ρ1,e1,e2⟩:=h a ha
 unfold elR
 rw [e1]
 have hy:yes ρ1=.ok true:=rfl
 dsimp only
 rw [hy]
 dsimp only
 rw [e2]
theorem Q9 {N':Nat} {mg:W->Rho->Option Rho} {mc:Rho->R Bool} {me:Rho->R W} {α:Type} (g:α->W) (s:α->W) (c:α->Bool) (as:List α) (ρ:Rho) (hl:as.length<=1000)
  (h:∀ a∈as,∃ ρ1,mg (s a) (ρ++List.replicate (N'-ρ.length) Sl.un)=some ρ1/\mc ρ1=.ok (c a)/\(c a=true->me ρ1=.ok (g a))):j8 N' mg mc me (as.map s) ρ=.ok (.lst ((as.filter c).map g)):=by
 unfold j8
 rw [List.length_map,if_pos hl,jm g s c as]
 intro a ha
 obtain ⟨ρ1,e1,e2,e3⟩:=h a ha
 unfold elR
 rw [e1]
 dsimp only
 rw [e2]
 cases hc:c a with
 | false=>rfl
 | true=>dsimp only; rw [e3 hc]; rfl
theorem pE {z:Int} (h0:-1000000<=z) (h:z<=1000000):K3 0 z=.ok ((List.range z.toNat).map fun k=>W.int (k:Nat)):=by
 unfold K3
 rw [if_pos (by omega)]
 simp
theorem N5 {n i:Nat} {w:W} (h:((List.range n).map fun k=>W.int (k:Nat))[i]?=some w):i<n/\w=.int (i:Nat):=by
 rw [List.getElem?_map] at h
 cases q:(List.range n)[i]? with
 | none=>rw [q] at h; cases h
 | some k=>
  rw [q] at h
  obtain ⟨h1,h2⟩:=List.getElem?_eq_some_iff.mp q
  simp at h1 h2
  subst h2
  cases h
  exact ⟨h1,rfl⟩
theorem ib {ns:List Int} {i:Nat} {w:W} (h:(ns.map W.int)[i]?=some w):i<ns.length/\w=.int (ns.getD i 0):=by
 rw [List.getElem?_map] at h
 cases q:ns[i]? with
 | none=>rw [q] at h; cases h
 | some k=>
  rw [q] at h
  cases h
  exact ⟨(List.getElem?_eq_some_iff.mp q).1,by rw [vo q]⟩
def C8 (xs:List Int) (lo hi:Option Int):List Int:=(xs.drop (HT.sIx xs.length 0 lo)).take (HT.sIx xs.length xs.length hi-HT.sIx xs.length 0 lo)
theorem Al (ns:List Int) (lo hi:Option Int):E9 (ns.map W.int) lo hi=(C8 ns lo hi).map W.int:=by
 unfold E9 C8
 rw [List.length_map,<- List.map_drop,<- List.map_take]
theorem ae {ns:List Int} {lo hi:Option Int} {P:Int->Prop} (h:∀ x∈ns,P x):∀ x∈C8 ns lo hi,P x:=fun x hx=>by
 unfold C8 at hx
 exact h x (List.mem_of_mem_drop (List.mem_of_mem_take hx))
theorem wQ (ns:List Int) (j:Nat) (z:Int):(ns.map W.int).set j (.int z)=(ns.set j z).map W.int:=by rw [List.map_set]
theorem AY (ns:List Int) (z:Int):ns.map W.int ++ [.int z]=(ns ++ [z]).map W.int:=by rw [List.map_append]; rfl
theorem xt (k:Nat) (z:Int):(List.replicate k [W.int z]).flatten=(List.replicate k z).map W.int:=by
 induction k with
 | zero=>rfl
 | succ k ih=>rw [List.replicate_succ,List.flatten_cons,ih,List.replicate_succ,List.map_cons]; rfl
theorem E7 {α:Type} (as:List α) (f:α->Int):(as.map fun a=>W.int (f a))=(as.map f).map W.int:=by rw [List.map_map]; rfl
theorem g9 {n k:Nat} {f:Nat->Int} (h:k<n):((List.range n).map f).getD k 0=f k:=by
 rw [List.getD_eq_getElem?_getD,List.getElem?_map]
 simp [h]
theorem P7 {a b:List Int} (h:b.length=a.length):(kx [a.map W.int,b.map W.int]).map W.tup=(List.range a.length).map fun k=>W.tup [.int (a.getD k 0),.int (b.getD k 0)]:=by
 apply List.ext_getElem?
 intro i
 simp only [kx,List.getElem?_map,List.getElem?_zipWith]
 by_cases hi:i<a.length
 ·rw [aI hi,aI (ns:=b) (by omega)]; simp [hi]
 ·simp [hi]
theorem V6 (x y:W) (xs ys:List W) (hx:B6 x=.ok xs) (hy:B6 y=.ok ys):L3 [x,y]=.ok ((kx [xs,ys]).map W.tup):=by
 unfold L3
 simp only [List.length_cons,List.length_nil,T6,hx,hy,Nat.reduceAdd,true_or,if_true]
theorem BL {i j:Int} (h:-18446744073709551616<i/\i<18446744073709551616):fI CMul k9 (.int i) (.int j)=.ok (.int (i*j)):=by
 show (if CMul i j then _ else _)=_
 rw [if_pos (.inl (by simpa using h))]
theorem BK {i j:Int} (h:-18446744073709551616<j/\j<18446744073709551616):fI CMul k9 (.int i) (.int j)=.ok (.int (i*j)):=by
 show (if CMul i j then _ else _)=_
 rw [if_pos (.inr (by simpa using h))]
theorem yD {i j:Int} (h:0<j):fI C2 C7 (.int i) (.int j)=.ok (.int (i%j)):=by
 show (if C2 i j then _ else _)=_
 rw [if_pos h]
theorem div_ii {i j:Int} (h:0<j/\j<1073741824):fI V5 V0 (.int i) (.int j)=.ok (.int (i/j)):=by
 show (if V5 i j then _ else _)=_
 rw [if_pos (show V5 i j from h)]
theorem yi {i j:Int} (h:0<=j/\j<=1000000 /\ -18446744073709551616<i/\i<18446744073709551616):fI M6 Z7 (.int i) (.int j)=.ok (.int (i^j.toNat)):=by
 show (if M6 i j then _ else _)=_
 rw [if_pos ⟨h.1,h.2.1,by omega⟩]
theorem AZ {ws:List W} {w:W} {i:Nat} {ρ:Rho} (h:ws.length<1000):rH (some (.own ws)) (.ok w) i ρ=.ok (.nx (ρ.set i (.own (ws ++ [w])))):=by rw [wa,if_pos h]
theorem uR {ws:List W} (h:ws.length<=1000):kQ ws=.ok (.tup ws):=by rw [qp,if_pos h]
theorem uS {ws:List W} (h:ws.length<=1000):kR ws=.ok (.lst ws):=by rw [qq,if_pos h]
theorem Ab {c:Bool} {us vs:List W} (h:us.length+vs.length<=1000):fCat c (.lst us) (.lst vs)=chks c (us++vs):=by
 show (if us.length+vs.length<=1000 then _ else _)=_
 rw [if_pos h]
theorem nW {c:Bool} {z:W} {k:Int} (h:0<=k/\k<=1000):lg c (.lst [z]) (.int k)=chks c (List.replicate k.toNat [z]).flatten:=by
 show (if [z].length*k.toNat<=1000 /\ -1000<=k/\k<=1000 then _ else _)=_
 rw [if_pos ⟨by simp only [List.length_cons,List.length_nil]; omega,by omega,h.2⟩]
theorem Cy {ns:List Int} {i:Int} (h:0<=i/\i<ns.length):L2.atI (ns.map W.int) i=some (.int (ns.getD i.toNat 0)):=atW h.1 h.2
theorem BP {n:Nat} {i:Int} (h:0<=i/\i<n):ixN n i=some i.toNat:=bV h.1 h.2
theorem xm {z:Int} (h:-1000000<=z/\z<=1000000):K3 0 z=.ok ((List.range z.toNat).map fun k=>W.int (k:Nat)):=pE h.1 h.2
def Ok (r:R W) (P:W->Prop):Prop:=∃ w,r=.ok w/\P w
def Po (r:R Fl) (Jn:Rho->Prop) (Jr:W->Prop):Prop:=match r with
 | .ok (.nx ρ)=>Jn ρ
 | .ok (.rt w)=>Jr w
 | _=>False
theorem t7 {r:R Fl} {P:W->Prop} (h:Po r (fun _=>P .non) P):Ok (Z9 r) P:=by
 cases r with
 | ex _=>exact h.elim
 | stuck=>exact h.elim
 | ok f=>cases f with
  | nx ρ=>exact ⟨_,rfl,h⟩
  | rt w=>exact ⟨_,rfl,h⟩
  | bk _=>exact h.elim
  | ct _=>exact h.elim
theorem Q6 {r:R Fl} {n:Rho->R Fl} {Jn:Rho->Prop} {Jr:W->Prop} (h:Po r (fun ρ=>Po (n ρ) Jn Jr) Jr):Po (andThen r n) Jn Jr:=by
 cases r with
 | ex _=>exact h.elim
 | stuck=>exact h.elim
 | ok f=>cases f with
  | nx ρ=>exact h
  | rt w=>exact h
  | bk _=>exact h.elim
  | ct _=>exact h.elim
theorem By {ρ:Rho} {Jn:Rho->Prop} {Jr:W->Prop}:Po (.ok (.nx ρ)) Jn Jr=Jn ρ:=rfl
theorem Bx {w:W} {Jn:Rho->Prop} {Jr:W->Prop}:Po (.ok (.rt w)) Jn Jr=Jr w:=rfl
theorem bP {b:Bool} {m n:Rho->R Fl} {ρ:Rho} {Jn:Rho->Prop} {Jr:W->Prop} (h1:b=true->Po (m ρ) Jn Jr) (h2:b=false->Po (n ρ) Jn Jr):Po (ifS (.ok b) m n ρ) Jn Jr:=by
 cases b with
 | true=>exact h1 rfl
 | false=>exact h2 rfl
theorem du {b:Bool} {m n:Rho->R Fl} {ρ:Rho} {k:Rho->R Fl} {Jn:Rho->Prop} {Jr:W->Prop} (h1:b=true->Po (andThen (m ρ) k) Jn Jr) (h2:b=false->Po (andThen (n ρ) k) Jn Jr):Po (andThen (ifS (.ok b) m n ρ) k) Jn Jr:=by
 cases b with
 | true=>exact h1 rfl
 | false=>exact h2 rfl
theorem Po.mono {r:R Fl} {Jn Jn':Rho->Prop} {Jr Jr':W->Prop} (h:Po r Jn Jr) (h1:∀ ρ,Jn ρ->Jn' ρ) (h2:∀ w,Jr w->Jr' w):Po r Jn' Jr':=by
 cases r with
 | ex _=>exact h
 | stuck=>exact h
 | ok f=>cases f with
  | nx ρ=>exact h1 ρ h
  | rt w=>exact h2 w h
  | bk _=>exact h
  | ct _=>exact h
theorem mS {mg:W->Rho->Option Rho} {mb:Rho->R Fl} {Jr:W->Prop} (I:Nat->Rho->Prop):∀ (ws:List W) (k:Nat) (ρ:Rho),I k ρ ->
  (∀ (i:Nat) (w:W) (ρ:Rho),ws[i]?=some w->I (k+i) ρ->∃ ρ1,mg w ρ=some ρ1/\Po (mb ρ1) (I (k+i+1)) Jr)->Po (B7 mg mb ws ρ) (I (k+ws.length)) Jr:=by
 intro ws
 induction ws with
 | nil=>exact fun k ρ h _=>h
 | cons w ws ih=>
  intro k ρ h st
  obtain ⟨ρ1,e1,p⟩:=st 0 w ρ rfl h
  unfold B7
  rw [e1]
  show Po (mb ρ1>>=_) _ _
  revert p
  cases mb ρ1 with
  | ex _=>exact fun p=>p.elim
  | stuck=>exact fun p=>p.elim
  | ok f=>cases f with
   | bk _=>exact fun p=>p.elim
   | ct _=>exact fun p=>p.elim
   | rt w=>exact fun p=>p
   | nx ρ2=>
    intro p
    have:=ih (k+1) ρ2 p fun i w ρ hw hp=>by
     have:=st (i+1) w ρ hw (by rw [<- Nat.succ_add_eq_add_succ k i]; exact hp)
     rw [<- Nat.succ_add_eq_add_succ k i] at this
     exact this
    rw [List.length_cons,<- Nat.succ_add_eq_add_succ k ws.length]
    exact this
theorem aT {mg:W->Rho->Option Rho} {mb:Rho->R Fl} {ws:List W} {ρ:Rho} {Jn:Rho->Prop} {Jr:W->Prop} (I:Nat->Rho->Prop) (h0:I 0 ρ)
  (st:∀ (i:Nat) (w:W) (ρ:Rho),ws[i]?=some w->I i ρ->∃ ρ1,mg w ρ=some ρ1/\Po (mb ρ1) (I (i+1)) Jr) (hn:∀ ρ,I ws.length ρ->Jn ρ):Po (B7 mg mb ws ρ) Jn Jr:=by
 have:=mS (mg:=mg) (mb:=mb) (Jr:=Jr) I ws 0 ρ h0 fun i w ρ hw hp=>by rw [Nat.zero_add] at hp ⊢; exact st i w ρ hw hp
 rw [Nat.zero_add] at this
 exact this.mono hn fun _ h=>h
theorem v6 {mg:W->Rho->Option Rho} {mb n:Rho->R Fl} {ws:List W} {ρ:Rho} {Jn:Rho->Prop} {Jr:W->Prop} (I:Nat->Rho->Prop) (h0:I 0 ρ)
  (st:∀ (i:Nat) (w:W) (ρ:Rho),ws[i]?=some w->I i ρ->∃ ρ1,mg w ρ=some ρ1/\Po (mb ρ1) (I (i+1)) Jr) (hn:∀ ρ,I ws.length ρ->Po (n ρ) Jn Jr):Po (andThen (B7 mg mb ws ρ) n) Jn Jr:=Q6 (aT I h0 st hn)
theorem Y6 {c:Rho->R Bool} {b:Rho->R Fl} {Jn:Rho->Prop} {Jr:W->Prop} (I:Nat->Rho->Prop)
  (st:∀ m ρ,I m ρ->∃ t,c ρ=.ok t/\if t=true then Po (b ρ) (fun ρ'=>∃ m',m'<m/\I m' ρ') Jr else Jn ρ):∀ (m:Nat) (ρ:Rho),I m ρ->Po (G0 c b ρ) Jn Jr:=by
 have key:∀ (m:Nat) (ρ:Rho),I m ρ->∃ r,E1 c b (m+1) ρ=some r/\Po r Jn Jr:=by
  intro m
  induction m using Nat.strongRecOn with
  | ind m ih=>
   intro ρ h
   obtain ⟨t,e,q⟩:=st m ρ h
   unfold E1
   rw [e]
   cases t with
   | false=>rw [if_neg Bool.false_ne_true] at q; exact ⟨_,rfl,q⟩
   | true=>
    rw [if_pos rfl] at q
    dsimp only
    revert q
    cases b ρ with
    | ex _=>exact fun q=>q.elim
    | stuck=>exact fun q=>q.elim
    | ok f=>cases f with
     | bk _=>exact fun q=>q.elim
     | ct _=>exact fun q=>q.elim
     | rt w=>exact fun q=>⟨_,rfl,q⟩
     | nx ρ'=>
      intro ⟨m',hm,h'⟩
      obtain ⟨r,e',q'⟩:=ih m' hm ρ' h'
      exact ⟨r,Z3 (m'+1) ρ' r e' m (by omega),q'⟩
 intro m ρ h
 obtain ⟨r,e,q⟩:=key m ρ h
 rw [fG e]
 exact q
theorem qQ (i j:Int):eU i j=max i j:=by unfold eU; omega
theorem qP (i j:Int):zz i j=min i j:=by unfold zz; omega
def oW:Option Int->W
 | none=>.non
 | some i=>.int i
theorem oW_n:oW none=.non:=rfl
theorem oW_s (i:Int):oW (some i)=.int i:=rfl
theorem nv (o:Option Int):noL (oW o)=true:=by cases o <;> rfl
theorem Ar (o:Option Int):chk (oW o)=.ok (oW o):=O3 (nv o)
theorem cO {α:Type} (f:α->W) (h:∀ a,noL (f a)=true) (as:List α):m7 (as.map f)=true:=by
 induction as with
 | nil=>rfl
 | cons a as ih=>rw [List.map_cons]; simp only [m7,h,ih,Bool.and_self]
theorem eJ (cs:List (Option Int)):m7 (cs.map oW)=true:=cO oW nv cs
theorem Ao (c:Bool) (cs:List (Option Int)):chks c (cs.map oW)=.ok (.lst (cs.map oW)):=fh (eJ cs)
theorem Aw (c:Bool) (cs:List (Option Int)):S8 c (cs.map oW)=.ok (.tup (cs.map oW)):=ca (eJ cs)
theorem zg (o:Option Int):isN (oW o)=o.isNone:=by cases o <;> rfl
theorem pj (o:Option Int):K0 (oW o)=.val (oW o):=by cases o <;> rfl
theorem oK {α:Type} (f:α->W) {as:List α} {d:α} {i:Int} (h:0<=i/\i<as.length):L2.atI (as.map f) i=some (f (as.getD i.toNat d)):=by
 unfold L2.atI
 rw [List.length_map,bV h.1 h.2]
 show (as.map f)[i.toNat]?=_
 have hi:i.toNat<as.length:=by omega
 rw [List.getElem?_map,List.getD_eq_getElem?_getD]
 simp [hi]
theorem CA {cs:List (Option Int)} {i:Int} (h:0<=i/\i<cs.length):L2.atI (cs.map oW) i=some (oW (cs.getD i.toNat none)):=oK oW h
theorem appO (cs:List (Option Int)) (o:Option Int):cs.map oW ++ [oW o]=(cs ++ [o]).map oW:=by rw [List.map_append]; rfl
theorem pK {n i:Nat} {f:Nat->W} {w:W} (h:((List.range n).map f)[i]?=some w):i<n/\w=f i:=by
 rw [List.getElem?_map] at h
 cases q:(List.range n)[i]? with
 | none=>rw [q] at h; cases h
 | some k=>
  rw [q] at h
  obtain ⟨h1,h2⟩:=List.getElem?_eq_some_iff.mp q
  simp at h1 h2
  subst h2
  cases h
  exact ⟨h1,rfl⟩
theorem Q7 (ns:List Int):noL (tI ns)=true:=w8 ns
theorem hX (ss:List (List Int)):m7 (ss.map tI)=true:=cO tI Q7 ss
theorem An (c:Bool) (ss:List (List Int)):chks c (ss.map tI)=.ok (.lst (ss.map tI)):=fh (hX ss)
theorem Av (c:Bool) (ss:List (List Int)):S8 c (ss.map tI)=.ok (.tup (ss.map tI)):=ca (hX ss)
theorem Cz {ss:List (List Int)} {i:Int} (h:0<=i/\i<ss.length):L2.atI (ss.map tI) i=some (tI (ss.getD i.toNat [])):=oK tI h
theorem AX (ss:List (List Int)) (s:List Int):ss.map tI ++ [tI s]=(ss ++ [s]).map tI:=by rw [List.map_append]; rfl
def rz {α:Type} (xs:List α) (lo hi:Option Int):List α:=(xs.drop (HT.sIx xs.length 0 lo)).take (HT.sIx xs.length xs.length hi-HT.sIx xs.length 0 lo)
theorem rq {α:Type} (f:α->W) (as:List α) (lo hi:Option Int):E9 (as.map f) lo hi=(rz as lo hi).map f:=by
 unfold E9 rz
 rw [List.length_map,<- List.map_drop,<- List.map_take]
theorem Ak (ss:List (List Int)) (lo hi:Option Int):E9 (ss.map tI) lo hi=(rz ss lo hi).map tI:=rq tI ss lo hi
theorem Ay (ss ts:List (List Int)):ss.map tI++ts.map tI=(ss++ts).map tI:=by rw [List.map_append]
theorem Az (ss ts:List Int):ss.map W.int++ts.map W.int=(ss++ts).map W.int:=by rw [List.map_append]
theorem xn {lo hi:Int} (h:-1000000<=lo/\lo<=1000000 /\ -1000000<=hi/\hi<=1000000):K3 lo hi=.ok ((List.range (hi-lo).toNat).map fun k=>W.int (lo+(k:Nat))):=by
 unfold K3
 rw [if_pos h]
theorem eqv_refl:∀ w:W,PyData.eqv (pd w) (pd w)=true:=by
 intro w
 refine W.rec (motive_1:=fun w=>PyData.eqv (pd w) (pd w)=true) (motive_2:=fun ws=>PyData.eqvAll (pds ws) (pds ws)=true) ?_ ?_ ?_ ?_ ?_ ?_ ?_ ?_ ?_ ?_ ?_ ?_ w
 ·rfl
 ·intro b; cases b <;> rfl
 ·intro b; exact beq_self_eq_true b
 ·intro b; exact beq_self_eq_true b
 ·intro b; rfl
 ·exact fun ws h=>h
 ·exact fun ws h=>h
 ·exact fun ws h=>h
 ·intro b c; rfl
 ·intro b; rfl
 ·rfl
 ·intro w ws h1 h2; exact (Bool.and_eq_true _ _).mpr ⟨h1,h2⟩
theorem rd (w:W):eqW w w=true:=eqv_refl w
theorem cJ {α:Type} (f:α->W) (n:Nat) (h:∀ a,shp n (f a)=true) (as:List α):L6 n (as.map f)=true:=by
 induction as with
 | nil=>rfl
 | cons a as ih=>rw [List.map_cons]; simp only [L6,h,ih,Bool.and_self]
theorem W2 (n:Nat) (i:Int):shp n (.int i)=true:=by cases n <;> rfl
theorem mq (n:Nat) (b:Bool):shp n (.bl b)=true:=by cases n <;> rfl
theorem df (n:Nat) (ns:List Int):shp (n+1) (tI ns)=true:=cJ W.int n (W2 n) ns
theorem gu (n:Nat) (ns:List Int):shp (n+1) (lI ns)=true:=cJ W.int n (W2 n) ns
theorem gt (n:Nat) (ss:List (List Int)):shp (n+2) (.lst (ss.map tI))=true:=cJ tI (n+1) (df n) ss
theorem qY {neg:Bool} {w:W} (h:shp 8 w=true):fEq neg w w=.ok (.bl (!neg)):=by
 unfold fEq
 rw [h,rd]
 cases neg <;> rfl
theorem eqI:∀ (a b:List Int),PyData.eqvAll (pds (a.map W.int)) (pds (b.map W.int))=decide (a=b)
 | [],[]=>by simp [pds,PyData.eqvAll]
 | [],_::_=>by simp [pds,PyData.eqvAll]
 | _::_,[]=>by simp [pds,PyData.eqvAll]
 | x::a,y::b=>by
  simp only [List.map_cons,pds,pd,PyData.eqvAll,PyData.eqv,eqI a b]
  by_cases h:x=y <;> by_cases h':a=b <;> simp [h,h']
theorem zU (neg:Bool) (a b:List Int):fEq neg (tI a) (tI b)=.ok (.bl (if neg then !decide (a=b) else decide (a=b))):=by
 unfold fEq
 rw [df,df]
 have:eqW (tI a) (tI b)=decide (a=b):=eqI a b
 rw [this]; rfl
theorem zY (neg:Bool) (a b:List Int):fEq neg (lI a) (lI b)=.ok (.bl (if neg then !decide (a=b) else decide (a=b))):=by
 unfold fEq
 rw [gu,gu]
 have:eqW (lI a) (lI b)=decide (a=b):=eqI a b
 rw [this]; rfl
theorem Af:∀ (a b:List (List Int)),PyData.eqvAll (pds (a.map tI)) (pds (b.map tI))=decide (a=b)
 | [],[]=>by simp [pds,PyData.eqvAll]
 | [],_::_=>by simp [pds,PyData.eqvAll]
 | _::_,[]=>by simp [pds,PyData.eqvAll]
 | x::a,y::b=>by
  simp only [List.map_cons,pds,pd,PyData.eqvAll,PyData.eqv,Af a b,eqI]
  by_cases h:x=y <;> by_cases h':a=b <;> simp [h,h']
theorem zX (neg:Bool) (a b:List (List Int)):fEq neg (.lst (a.map tI)) (.lst (b.map tI))=.ok (.bl (if neg then !decide (a=b) else decide (a=b))):=by
 unfold fEq
 rw [gt,gt]
 have:eqW (.lst (a.map tI)) (.lst (b.map tI))=decide (a=b):=Af a b
 rw [this]; rfl
theorem X8 (neg:Bool) (i j:Int):fEq neg (.int i) (.int j)=.ok (.bl (if neg then !decide (i=j) else decide (i=j))):=by
 unfold fEq
 rw [W2,W2]
 have:eqW (.int i) (.int j)=decide (i=j):=by
  by_cases h:i=j <;> simp [eqW,pd,PyData.eqv,h]
 rw [this]; rfl
theorem Aa (neg:Bool) (i j:Bool):fEq neg (.bl i) (.bl j)=.ok (.bl (if neg then !decide (i=j) else decide (i=j))):=by
 unfold fEq
 rw [mq,mq]
 have:eqW (.bl i) (.bl j)=decide (i=j):=by cases i <;> cases j <;> rfl
 rw [this]; rfl
theorem zW (neg:Bool) (j:Int):fEq neg .non (.int j)=.ok (.bl neg):=by cases neg <;> rfl
theorem zZ (neg:Bool) (j:Int):fEq neg (.int j) .non=.ok (.bl neg):=by cases neg <;> rfl
theorem zV (neg:Bool):fEq neg .non .non=.ok (.bl (!neg)):=by cases neg <;> rfl
theorem qZ (g:List Bool->Bool) (bs:List Bool):bw g [.lst (bs.map W.bl)]=.ok (.bl (g bs)):=by
 show (toR (S9 (bs.map W.bl))>>=_)=_
 rw [vV]; rfl
theorem vA (g:List Int->Int) (ns:List Int):dM g [.lst (ns.map W.int)]=.ok (.int (g ns)):=by
 show (toR (v5 (ns.map W.int))>>=_)=_
 rw [ints_map]; rfl
theorem zQ (i:Int):zS [.int i]=.ok (.int i):=rfl
theorem zR (b:Bool):zS [.bl b]=.ok (.int (if b then 1 else 0)):=rfl
theorem Ac (i:Int):fAbs [.int i]=.ok (.int (if i<0 then -i else i)):=rfl
def Ae (o:Option Sl) (r:R W) (c:Bool) (i:Nat) (ρ:Rho):R Fl:=match o with
 | some (.own ws)=>r>>=fun w=>(match w with
  | .lst us=>if ws.length+us.length<=1000 then (if c||m7 us then .ok (.nx (ρ.set i (.own (ws++us)))) else .stuck) else .stuck
  | _=>.stuck)
 | _=>.stuck
theorem uY (i:Nat) (c:Bool) (m:Rho->R W) (ρ:Rho):mExt i c m ρ=Ae (ρ[i]?) (m ρ) c i ρ:=rfl
theorem Ad {ws us:List W} {c:Bool} {i:Nat} {ρ:Rho} (h:ws.length+us.length<=1000):Ae (some (.own ws)) (.ok (.lst us)) c i ρ=if c||m7 us then .ok (.nx (ρ.set i (.own (ws++us)))) else .stuck:=by
 show (if ws.length+us.length<=1000 then _ else _)=_
 rw [if_pos h]
def xr (o:Option Sl) (i:Nat) (ρ:Rho):R Fl:=match o with
 | some (.own ws)=>.ok (.nx (ρ.set i (.own ws.reverse)))
 | _=>.stuck
theorem uX (i:Nat) (ρ:Rho):mRev i ρ=xr (ρ[i]?) i ρ:=rfl
theorem tP (ws:List W) (i:Nat) (ρ:Rho):xr (some (.own ws)) i ρ=.ok (.nx (ρ.set i (.own ws.reverse))):=rfl
theorem mT {r:R Fl} {n:Rho->R Fl} {Jn:Rho->Prop} {Jr:W->Prop} (J:Rho->Prop) (h1:Po r J Jr) (h2:∀ ρ,J ρ->Po (n ρ) Jn Jr):Po (andThen r n) Jn Jr:=Q6 (h1.mono h2 fun _ h=>h)
theorem vt (i j:Int):x8 i j=.int (i+j):=rfl
theorem vp (i j:Int):TP.gSub i j=.int (i-j):=rfl
theorem zA (i j:Int):gLt i j=.bl (decide (i<j)):=rfl
theorem zB (i j:Int):gLe i j=.bl (decide (i<=j)):=rfl
theorem zC (i j:Int):gGt i j=.bl (decide (j<i)):=rfl
theorem zD (i j:Int):gGe i j=.bl (decide (j<=i)):=rfl
theorem vq (i:Int):M0 i=.int (-i):=rfl
theorem qR (i j:Int):sy i j=i+j:=rfl
theorem qO (i j:Int):BS i j=i-j:=rfl
theorem zK {i:Int} (h:0<=i/\i<1000):fStr [.int i]=.ok (.str (toString i)):=by
 show (if i.natAbs.log2<1920 then _ else _)=_
 rw [if_pos]
 refine Nat.lt_of_le_of_lt (Nat.log2_le_self _) ?_
 omega
theorem zP (neg:Bool) (u:W) (b:Bool):fIsB neg u (.bl b)=.ok (.bl (if neg then !U8 u b else U8 u b)):=rfl
theorem zn (i:Int) (b:Bool):U8 (.int i) b=false:=rfl
theorem zk (b:Bool):U8 .non b=false:=rfl
theorem zj (x:Str) (b:Bool):U8 (.str x) b=false:=rfl
theorem zh (x:List W) (b:Bool):U8 (.tup x) b=false:=rfl
theorem zl (x:List W) (b:Bool):U8 (.lst x) b=false:=rfl
theorem zo (a b:Bool):U8 (.bl a) b=(a == b):=rfl
def Rcu (c:Bool) (r:R (List W)) (f:List W->R W) (i:Nat) (ρ:Rho):R Fl:=if c then (r>>=fun ws=>f ws>>=fun w=>.ok (.nx (ρ.set i (.par w)))) else .stuck
theorem xb (i:Nat) (f:List W->R W) (ma:Rho->R (List W)) (ρ:Rho):sCU i f ma ρ=Rcu (noOwn ρ) (ma ρ) f i ρ:=rfl
def Bd (r:R W) (i:Nat) (ρ:Rho):R Fl:=r>>=fun w=>.ok (.nx (ρ.set i (.par w)))
theorem CF (ws:List W) (f:List W->R W) (i:Nat) (ρ:Rho):Rcu true (.ok ws) f i ρ=Bd (f ws) i ρ:=rfl
theorem wj (w:W) (i:Nat) (ρ:Rho):Bd (.ok w) i ρ=.ok (.nx (ρ.set i (.par w))):=rfl
theorem nu:noOwn []=true:=rfl
theorem uH (w:W) (ρ:Rho):noOwn (.val w::ρ)=noOwn ρ:=rfl
theorem uJ (w:W) (ρ:Rho):noOwn (.par w::ρ)=noOwn ρ:=rfl
theorem uI (ρ:Rho):noOwn (.un::ρ)=noOwn ρ:=rfl
theorem jZ {g:List Int->Int} {ns:List Int} (h:0<ns.length):U2 g [tI ns]=.ok (.int (g ns)):=by
 show (toR (v5 (ns.map W.int))>>=_)=_
 rw [ints_map]
 show (if 0<ns.length then _ else _)=_
 rw [if_pos h]
theorem ka {g:List Int->Int} {ns:List Int} (h:0<ns.length):U2 g [lI ns]=.ok (.int (g ns)):=by
 show (toR (v5 (ns.map W.int))>>=_)=_
 rw [ints_map]
 show (if 0<ns.length then _ else _)=_
 rw [if_pos h]
theorem xq (ws:List W):revW [.lst ws]=.ok ws.reverse:=rfl
def rp0:=Z1 (@qQ) (Z1 (@qP) (Z1 (@By) (Z1 (@Bx) (Z1 (@BL) (Z1 (@BK) (Z1 (@yD) (Z1 (@div_ii) (Z1 (@yi) (Z1 (@AZ) (Z1 (@uR) (Z1 (@uS) (Z1 (@Ab) (Z1 (@nW) (Z1 (@Cy) (Z1 (@BP) (Z1 (@xm) (Z1 (@Al) (Z1 (@wQ) (Z1 (@AY) (Z1 (@xt) (Z1 (@uW) (Z1 (@lB) (Z1 (@lA) (@lD))))))))))))))))))))))))
def rp1:=Z1 (@lC) (Z1 (@BN) (Z1 (@Cw) (Z1 (@Cv) (Z1 (@Bf) (Z1 (@Cu) (Z1 (@Ct) (Z1 (@Cs) (Z1 (@CC) (Z1 (@CD) (Z1 (@rM) (Z1 (@vY) (Z1 (@rG) (Z1 (@tw) (Z1 (@wC) (Z1 (@tu) (Z1 (@ua) (Z1 (@ub) (Z1 (@tZ) (Z1 (@xK) (Z1 (@xJ) (Z1 (@xL) (Z1 (@tV) (Z1 (@tf) (@wu))))))))))))))))))))))))
def rp2:=Z1 (@sY) (Z1 (@pP) (Z1 (@pQ) (Z1 (@pO) (Z1 (@tS) (Z1 (@tR) (Z1 (@tU) (Z1 (@pM) (Z1 (@wv) (Z1 (@tW) (Z1 (@tY) (Z1 (@tX) (Z1 (@lO) (Z1 (@oP) (Z1 (@sX) (Z1 (@sZ) (Z1 (@BF) (Z1 (@BE) (Z1 (@nc) (Z1 (@wq) (Z1 (@wd) (Z1 (@wc) (Z1 (@oY) (Z1 (@rN) (@wZ))))))))))))))))))))))))
def rp3:=Z1 (@xc) (Z1 (@xa) (Z1 (@pz) (Z1 (@rL) (Z1 (@tJ) (Z1 (@tQ) (Z1 (@px) (Z1 (@Bi) (Z1 (@Bj) (Z1 (@Bm) (Z1 (@we) (Z1 (@lZ) (Z1 (@lW) (Z1 (@mf) (Z1 (@pk) (Z1 (@lY) (Z1 (@lX) (Z1 (@Bl) (Z1 (@wm) (Z1 (@lT) (Z1 (@tL) (Z1 (@wg) (Z1 (@tK) (Z1 (@zF) (@qU))))))))))))))))))))))))
def rp4:=Z1 (@qS) (Z1 (@qT) (Z1 (@vv) (Z1 (@eO) (Z1 (@xw) (Z1 (@xu) (Z1 (@xv) (Z1 (@xx) (Z1 (@xy) (Z1 (@xB) (Z1 (@xz) (Z1 (@xA) (Z1 (@xC) (Z1 (@xD) (Z1 (@xE) (Z1 (@xF) (Z1 (@kT) (Z1 (@pH) (Z1 (@pF) (Z1 (@pG) (Z1 (@va) (Z1 (@uV) (Z1 (@tG) (Z1 (@mz) (@uZ))))))))))))))))))))))))
def rp5:=Z1 (@vZ) (Z1 (@yG) (Z1 (@zr) (Z1 (@zt) ((((((Z1 (@vK) (Z1 (@vL) (Z1 (@zT) (Z1 (@fU_i) (Z1 (@BW) (Z1 (@BU) (Z1 (@BV) (Z1 (@pe) (Z1 (@wA) (Z1 (@zN) (Z1 (@zL) (Z1 (@zM) (Z1 (@vy) (Z1 (@vx) (Z1 (@zJ) (@zH))))))))))))))))))))))))
def rp6:=Z1 (@Am) (Z1 (@Au) (Z1 (@Ap) (Z1 (@Ax) (Z1 (@vP) (Z1 (@As) (Z1 (@vM) (Z1 (@vN) (Z1 (@Aq) (Z1 (@BX) (Z1 (@wV) (Z1 (@wT) (Z1 (@wU) (Z1 (@xp) (Z1 (@xo) (Z1 (@gN_U) (Z1 (@gN_V) (Z1 (@gT_t) (Z1 (@qN) (Z1 (@vn) (Z1 (@vz) (Z1 (@yU) (Z1 (@yV) (Z1 (@yY) (@yP))))))))))))))))))))))))
def rp7:=Z1 (@zO) (Z1 (@w8) (Z1 (@vF) (Z1 (@vG) (Z1 (@vB) (Z1 (@vC) (Z1 (@vD) (@vE)))))))
def rp8:=Z1 (@oW_n) (Z1 (@oW_s) (Z1 (@Ar) (Z1 (@eJ) (Z1 (@Ao) (Z1 (@Aw) (Z1 (@zg) (Z1 (@pj) (Z1 (@CA) (@appO)))))))))
def rp9:=Z1 (@hX) (Z1 (@An) (Z1 (@Av) (Z1 (@Cz) (Z1 (@AX) (Z1 (@Ak) (Z1 (@Ay) (Z1 (@Az) (Z1 (@xn) (Z1 (@zU) (Z1 (@zY) (Z1 (@zX) (Z1 (@X8) (Z1 (@Aa) (Z1 (@zW) (Z1 (@zZ) (Z1 (@zV) ((Z1 (@qZ) (Z1 (@vA) (Z1 (@zQ) (Z1 (@zR) (Z1 (@Ac) (Z1 (@uY) (Z1 (@Ad) (Z1 (@uX) (@tP))))))))))))))))))))))))))
def rp10:=Z1 (@vt) (Z1 (@vp) (Z1 (@zA) (Z1 (@zB) (Z1 (@zC) (Z1 (@zD) (Z1 (@vq) (Z1 (@qR) (@qO))))))))
def rp11:=Z1 (@zK) (Z1 (@zP) (Z1 (@zn) (Z1 (@zk) (Z1 (@zj) (Z1 (@zh) (Z1 (@zl) (@zo)))))))
def rp12:=Z1 (@xb) (Z1 (@CF) (Z1 (@wj) (Z1 (@nu) (Z1 (@uH) (Z1 (@uJ) (@uI))))))
def rp13:=Z1 (@jZ) (Z1 (@ka) (@xq))
end TP
set_option maxHeartbeats 4000000
open PySem L2 TP
namespace K77
def ie:Rho->R Fl:=
 (d9 (B9 (bI L3 (aC (b8 .U 0) (aC (b8 .U 1) aN))) (gT 2 (l6 (gN .U 2) (l6 (gN .U 3) gsNil)))
   (mIf (g8 (b2 (fI0 gLt) (b8 .B 2) (b8 .B 3))) (h7 (mC (.bl false))) sNx))
  (h7 (mC (.bl true))))
abbrev R5:List W->R W:=i9 2 4 ie
def nC:Rho->R Fl:=
 (h7 (bA R5 (aC (b8 .B 0) (aC (b2 fIx (b8 .B 1) (mC (.int 0))) aN))))
abbrev dJ:List W->R W:=i9 2 2 nC
def ii:Rho->R Fl:=
 (h7 (bA (J2 true) (aC (k7 3 (bI L3 (aC (b2 fIx (b8 .B 0) (mC (.int 0))) (aC (b2 fIx (b8 .B 0) (mC (.int 1))) aN))) (gT 2 (l6 (gN .U 1) (l6 (gN .U 2) gsNil))) yes (b2 (fI0 gSub) (b8 .B 2) (b8 .B 1))) aN)))
abbrev Z8:List W->R W:=i9 1 1 ii
def jR:Rho->R Fl:=
 (d9 (mIf (M7 (g8 (bA dJ (aC (b8 .B 0) (aC (b8 .B 1) aN))))) mF sNx)
  (h7 (bA (J2 true) (aC (k7 4 (bI L3 (aC (b8 .B 0) (aC (bA Z8 (aC (b8 .B 1) aN)) aN))) (gT 2 (l6 (gN .U 2) (l6 (gN .U 3) gsNil))) yes (b2 (fI0 x8) (b8 .B 2) (b8 .B 3))) aN))))
abbrev eX:List W->R W:=i9 2 2 jR
def ba:Rho->R Fl:=
 (h7 (bA (J2 true) (aC (k7 5 (bI L3 (aC (b8 .B 0) (aC (b8 .B 1) aN))) (gT 2 (l6 (gN .U 3) (l6 (gN .U 4) gsNil))) yes (b2 (fI0 x8) (b8 .B 3) (b2 (fI CMulB k9) (b8 .B 2) (b8 .B 4)))) aN)))
abbrev O2:List W->R W:=i9 3 3 ba
def nB:Rho->R Fl:=
 (h7 (bA (J2 true) (aC (k7 3 (bI E4 (aC (b8 .B 1) aN)) (gN .U 2) yes (vIf (g8 (b2 (fEq false) (b8 .B 2) (b8 .B 0))) (mC (.int 1)) (mC (.int 0)))) aN)))
abbrev dI:List W->R W:=i9 2 2 nB
def aw:Rho->R Fl:=
 (d9 (sF 3 (k7 6 (bS (b8 .B 0)) (gN .U 5) yes (bA Z8 (aC (b8 .B 5) aN))))
  (d9 (sF 4 (k7 6 (bI E4 (aC (b8 .B 2) aN)) (gN .U 5) yes (b2 fCatT (bA (J2 true) (aC (k7 7 (bS (b8 .B 3)) (gN .U 6) yes (b1 (fU M0) (b2 fIx (b8 .B 6) (b8 .B 5)))) aN)) (bA dI (aC (b8 .B 5) (aC (b8 .B 2) aN))))))
  (d9 (R0 4 (b2 fCatT (bA (J2 true) (aC (k7 6 (bS (b8 .B 3)) (gN .U 5) yes (bF (b2 fIx (b8 .B 5) (b8 .B 1)))) aN)) (b2 fRepT (A4 (aC (mC (.int 0)) aN)) (b8 .C 2))))
  (D6 .F 4))))
abbrev G7:List W->R W:=i9 3 5 aw
def ig:Rho->R Fl:=
 (d9 (B9 (bI L1 (aC (b2 fIx (b8 .B 0) (b1 (fU M0) (mC (.int 1)))) aN)) (gT 2 (l6 (gN .U 1) (l6 (gN .U 2) gsNil)))
   (mIf (g8 (b2 (fI0 gGt) (b8 .B 2) (mC (.int 0)))) (D6 .F 1) sNx))
  (h7 (mC .non)))
abbrev R6:List W->R W:=i9 1 3 ig
def fD:Rho->R Fl:=
 (d9 (sF 3 (k7 5 (bI E4 (aC (bA fLen (aC (b8 .B 1) aN)) aN)) (gN .U 4) (g8 (b2 (fI0 gGt) (b2 fIx (b2 fIx (b8 .B 0) (b8 .B 4)) (b8 .B 2)) (mC (.int 0)))) (b8 .V 4)))
  (h7 (dQ 1 (aC (b8 .B 3) aN))))
abbrev bq:List W->R W:=i9 3 4 fD
def fE:Rho->R Fl:=
 (h7 (bA (J2 true) (aC (k7 6 (bI L3 (aC (b8 .B 0) (aC (b8 .B 1) aN))) (gT 2 (l6 (gN .U 4) (l6 (gN .U 5) gsNil))) yes (b2 (fI P6 V0) (b2 (fI0 gSub) (b2 (fI CMulB k9) (b8 .B 4) (b2 fIx (b8 .B 1) (b8 .B 2))) (b2 (fI CMulB k9) (b2 fIx (b8 .B 0) (b8 .B 2)) (b8 .B 5))) (b8 .B 3))) aN)))
abbrev br:List W->R W:=i9 4 4 fE
def fC:Rho->R Fl:=
 (d9 (sU 4 (b2 fIx (b8 .B 0) (b8 .B 1)))
  (h7 (k7 7 (bI L1 (aC (b8 .B 0) aN)) (gT 2 (l6 (gN .U 5) (l6 (gN .U 6) gsNil))) yes (vIf (g8 (b2 (fEq false) (b8 .B 5) (b8 .B 1))) (b8 .V 6) (bA br (aC (b8 .B 6) (aC (b8 .B 4) (aC (b8 .B 2) (aC (b8 .B 3) aN)))))))))
abbrev U1:List W->R W:=i9 4 5 fC
def O0:Rho->R Fl:=
 (d9 (G0 (g8 (b2 (n9 true) (b8 .B 1) (mC (.int 0)))) (d9 (sV 2 (b2 (fI C2 C7) (b8 .B 0) (b8 .B 1)))
   (d9 (sV 0 (b8 .V 1))
   (sV 1 (b8 .V 2)))))
  (D6 .F 0))
abbrev B4:List W->R W:=i9 2 3 O0
def N9:Rho->R Fl:=
 (d9 (sV 1 (mC (.int 0)))
  (d9 (B9 (bS (b8 .U 0)) (gN .U 2)
   (sF 1 (bA B4 (aC (b8 .B 1) (aC (b8 .B 2) aN)))))
  (h7 (bA (J2 true) (aC (k7 4 (bS (b8 .B 0)) (gN .U 3) yes (b2 (fI P6 V0) (b8 .B 3) (b8 .B 1))) aN)))))
abbrev x4:List W->R W:=i9 1 3 N9
def aZ:Rho->R Fl:=
 (d9 (sF 4 (k7 6 (bS (cG (b2 fIx (b8 .B 0) (b1 (fU M0) (mC (.int 1)))) (pS (b8 .B 3)) pN)) (gN .U 5) yes (b1 (fU M0) (b8 .B 5))))
  (h7 (bA x4 (aC (bA O2 (aC (b8 .B 4) (aC (bA dI (aC (b8 .B 1) (aC (bA fLen (aC (b8 .B 4) aN)) aN))) (aC (b8 .B 2) aN)))) aN))))
abbrev R3:List W->R W:=i9 4 5 aZ
def ij:Rho->R Fl:=
 (d9 (sF 5 (b2 (lg true) (D7 (aC (mC (.int 0)) aN)) (bA fLen (aC (b2 fIx (b8 .B 0) (mC (.int 0))) aN))))
  (d9 (Z0 5 (b8 .B 2) (b8 .V 3))
  (d9 (B9 (bI L1 (aC (b8 .U 1) aN)) (gT 2 (l6 (gN .U 6) (l6 (gN .U 7) gsNil)))
   (Z0 5 (b8 .B 7) (b1 (fU M0) (b2 fIx (b2 fIx (b8 .B 0) (b8 .B 6)) (b8 .B 2)))))
  (h7 (bA x4 (aC (vSl true (b8 .C 5) pN (pS (b8 .B 4))) aN))))))
abbrev cY:List W->R W:=i9 5 8 ij
def fF:Rho->R Fl:=
 (d9 (sF 3 (bA G7 (aC (b8 .B 0) (aC (b8 .B 1) (aC (b8 .B 2) aN)))))
  (d9 (sF 4 (k7 9 (bI E4 (aC (b8 .B 2) aN)) (gN .U 8) yes (b2 (fI0 x8) (bA fLen (aC (b8 .B 0) aN)) (b8 .B 8))))
  (d9 (sV 5 (mC (.int 1)))
  (d9 (sF 6 (bA R6 (aC (b8 .B 3) aN)))
  (d9 (G0 (g8 (b2 (S3 true) (b8 .B 6) (mC .non))) (d9 (sF 7 (bA bq (aC (b8 .B 3) (aC (b8 .B 4) (aC (b8 .B 6) aN)))))
   (d9 (mIf (g8 (b2 (S3 false) (b8 .B 7) (mC .non))) (h7 (A4 (aC (mC (.str "bag")) (aC (bA cY (aC (b8 .B 3) (aC (b8 .B 4) (aC (b8 .B 6) (aC (b8 .B 5) (aC (bA fLen (aC (b8 .B 0) aN)) aN)))))) aN)))) sNx)
   (d9 (sF 3 (bA U1 (aC (b8 .B 3) (aC (b8 .B 7) (aC (b8 .B 6) (aC (b8 .B 5) aN))))))
   (d9 (aM 6 (Z0 4 (b8 .B 7) (b8 .V 6)))
   (d9 (sV 5 (b2 fIx (b2 fIx (b8 .C 3) (b8 .C 7)) (b8 .C 6)))
   (sF 6 (bA R6 (aC (b8 .B 3) aN)))))))))
  (h7 (A4 (aC (mC (.str "weights")) (aC (bA R3 (aC (b8 .B 3) (aC (b8 .B 1) (aC (b8 .B 5) (aC (bA fLen (aC (b8 .B 0) aN)) aN))))) aN)))))))))
abbrev bu:List W->R W:=i9 3 8 fF
def jP:Rho->R Fl:=
 (d9 (sF 2 (b2 fRepT (A4 (aC (mC (.int 0)) aN)) (b8 .C 1)))
  (d9 (B9 (bI E4 (aC (b8 .B 1) aN)) (gN .U 3)
   (d9 (sF 4 (bA bu (aC (b8 .B 0) (aC (b8 .B 3) (aC (b8 .B 1) aN)))))
   (d9 (mIf (g8 (b2 (n9 false) (b2 fIx (b8 .B 4) (mC (.int 0))) (mC (.str "bag")))) (h7 (A4 (aC (mC (.str "bag")) (aC (b8 .V 3) (aC (b2 fIx (b8 .C 4) (mC (.int 1))) aN))))) sNx)
   (sF 2 (bA O2 (aC (b8 .B 2) (aC (b2 fIx (b8 .B 4) (mC (.int 1))) (aC (mC (.int 1)) aN))))))))
  (h7 (A4 (aC (mC (.str "weights")) (aC (bA x4 (aC (b8 .B 2) aN)) aN))))))
abbrev bW:List W->R W:=i9 2 5 jP
def dD:Rho->R Fl:=
 (d9 (sF 2 (D7 aN))
  (d9 (sV 3 (b8 .V 1))
  (d9 (G0 (g8 (b2 (S3 true) (b8 .B 3) (mC .non))) (d9 (R0 2 (b8 .V 3))
   (sU 3 (b2 fIx (b2 fIx (b8 .B 0) (b8 .B 3)) (mC (.int 1))))))
  (D6 .F 2))))
abbrev K8:List W->R W:=i9 2 4 dD
def sr:Rho->R Fl:=
 (h7 (bA dL (aC (bA K8 (aC (b8 .B 0) (aC (b8 .B 1) aN))) aN)))
abbrev lf:List W->R W:=i9 2 2 sr
def av:Rho->R Fl:=
 (d9 (sF 3 (bA lf (aC (b8 .B 0) (aC (b8 .B 2) aN))))
  (h7 (k7 5 (bS (vSl true (b8 .C 3) (pS (b2 (fI0 x8) (il (b8 .B 3) (b8 .B 1)) (mC (.int 1)))) pN)) (gN .U 4) yes (bF (b2 fIx (b2 fIx (b8 .B 0) (b8 .B 4)) (mC (.int 2)))))))
abbrev D2:List W->R W:=i9 3 4 av
def T8:Rho->R Fl:=
 (h7 (k7 4 (bI L1 (aC (b2 fIx (b8 .B 0) (mC (.int 1))) aN)) (gT 2 (l6 (gN .U 2) (l6 (gN .U 3) gsNil))) (g8 (bA dJ (aC (b8 .B 1) (aC (b8 .B 3) aN)))) (A4 (aC (bA eX (aC (b8 .B 1) (aC (b8 .B 3) aN))) (aC (b8 .V 2) aN)))))
abbrev K9:List W->R W:=i9 2 2 T8
def jQ:Rho->R Fl:=
 (d9 (sF 2 (D7 (aC (A4 (aC (bF (b2 fIx (b8 .B 0) (mC (.int 0)))) (aC (mC .non) (aC (mC .non) aN)))) aN)))
  (d9 (ga 3 (b2 fIx (b8 .B 0) (mC (.int 0))) (mC (.bl true)))
  (d9 (sV 4 (mC (.int 0)))
  (d9 (G0 (g8 (b2 (fI0 gLt) (b8 .B 4) (bA fLen (aC (b8 .B 2) aN)))) (d9 (sV 5 (b2 fIx (b2 fIx (b8 .C 2) (b8 .C 4)) (mC (.int 0))))
   (d9 (B9 (bS (bA K9 (aC (b8 .B 0) (aC (b8 .B 5) aN)))) (gT 2 (l6 (gN .U 6) (l6 (gN .U 7) gsNil)))
    (d9 (mIf (mIn false 3 (b8 .B 6)) sCt sNx)
    (d9 (mIf (g8 (b2 (n9 false) (bA fLen (aC (b8 .B 2) aN)) (b8 .B 1))) (aM 2 (h7 (A4 (aC (b8 .V 2) (aC (mC (.bl false)) aN))))) sNx)
    (d9 (dE 3 (b8 .B 6) (mC (.bl true)))
    (R0 2 (A4 (aC (b8 .V 6) (aC (b8 .V 4) (aC (b8 .V 7) aN)))))))))
   (io 4 sy (mC (.int 1))))))
  (aM 2 (h7 (A4 (aC (b8 .V 2) (aC (mC (.bl true)) aN)))))))))
abbrev bX:List W->R W:=i9 2 8 jQ
def cf:Rho->R Fl:=
 (h7 (k7 2 (bS (b8 .B 0)) (gN .U 1) yes (bF (b2 fIx (b8 .B 1) (mC (.int 0))))))
abbrev V1:List W->R W:=i9 1 1 cf
def ic:Rho->R Fl:=
 (h7 (bA D2 (aC (b8 .B 0) (aC (mC (.int 0)) (aC (b8 .B 1) aN)))))
abbrev cX:List W->R W:=i9 2 2 ic
def bc:Rho->R Fl:=
 (d9 (B9 (bI L1 (aC (b8 .U 0) aN)) (gT 2 (l6 (gN .U 1) (l6 (gN .U 2) gsNil)))
   (B9 (bS (vSl true (bA K8 (aC (b8 .B 0) (aC (b8 .B 1) aN))) (pS (mC (.int 1))) pN)) (gN .U 3)
    (mIf (g8 (bA R5 (aC (b2 fIx (b8 .B 2) (mC (.int 0))) (aC (b2 fIx (b2 fIx (b8 .B 0) (b8 .B 3)) (mC (.int 0))) aN)))) (h7 (A4 (aC (b8 .V 3) (aC (b8 .V 1) aN)))) sNx)))
  (h7 (mC .non)))
abbrev R4:List W->R W:=i9 1 4 bc
def O1:Rho->R Fl:=
 (d9 (sF 2 (bA bX (aC (b8 .B 0) (aC (b8 .B 1) aN))))
  (d9 (sV 3 (b2 fIx (b8 .C 2) (mC (.int 0))))
  (d9 (sF 4 (bA R4 (aC (b8 .B 3) aN)))
  (d9 (mIf (g8 (b2 (S3 true) (b8 .B 4) (mC .non))) (h7 (A4 (aC (mC (.str "lift")) (aC (bA cX (aC (b8 .B 3) (aC (b2 fIx (b8 .B 4) (mC (.int 0))) aN))) (aC (bA D2 (aC (b8 .B 3) (aC (b2 fIx (b8 .B 4) (mC (.int 0))) (aC (b2 fIx (b8 .B 4) (mC (.int 1))) aN)))) aN))))) sNx)
  (d9 (mIf (g8 (b2 fIx (b8 .B 2) (mC (.int 1)))) (h7 (A4 (aC (mC (.str "all")) (aC (bA V1 (aC (b8 .B 3) aN)) aN)))) sNx)
  (d9 (sF 5 (bA bW (aC (b2 fIx (b8 .B 0) (mC (.int 1))) (aC (bA fLen (aC (b2 fIx (b8 .B 0) (mC (.int 0))) aN)) aN))))
  (aM 5 (h7 (vIf (g8 (b2 (n9 false) (b2 fIx (b8 .B 5) (mC (.int 0))) (mC (.str "weights")))) (b8 .V 5) (A4 (aC (mC (.str "open")) aN)))))))))))
abbrev bv:List W->R W:=i9 2 6 O1
def L9:Rho->R Fl:=
 (d9 (mIf (g8 (b2 (fI0 gGt) (bA fLen (aC (b8 .B 0) aN)) (mC (.int 0)))) (h7 (bF (b2 fIx (b8 .B 0) (b2 (fI C2 C7) (b8 .B 1) (bA fLen (aC (b8 .B 0) aN)))))) sNx)
  (h7 (mC (.int 0))))
abbrev A0:List W->R W:=i9 2 2 L9
def ci:Rho->R Fl:=
 (h7 (b2 (fI C2 C7) (b2 (fI V5 V0) (b2 (fI C2 C7) (b2 (fI CMulB k9) (b2 (fI0 x8) (bA A0 (aC (b8 .B 0) (aC (b8 .B 1) aN))) (mC (.int 1))) (b2 (fI0 x8) (b2 (fI0 x8) (b2 (fI CMulB k9) (b8 .B 1) (b8 .B 1)) (b2 (fI CMulB k9) (mC (.int 7)) (b8 .B 1))) (mC (.int 48271)))) (mC (.int 99991))) (mC (.int 3))) (b8 .B 2)))
abbrev t4:List W->R W:=i9 3 3 ci
def X3:Rho->R Fl:=
 (d9 (sF 5 (D7 aN))
  (d9 (B9 (bI E4 (aC (b8 .B 2) aN)) (gN .U 6)
   (d9 (sU 7 (b2 fIx (b8 .B 3) (bA t4 (aC (b8 .B 0) (aC (b2 (fI0 x8) (b8 .B 1) (b8 .B 6)) (aC (bA fLen (aC (b8 .B 3) aN)) aN))))))
   (d9 (mIf (fW (g8 (b2 (n9 false) (b8 .B 4) (mC (.int 0)))) (g8 (b2 (fI0 gGt) (b8 .B 7) (mC (.int 0))))) (sV 7 (b2 (fI C2 C7) (b2 (fI CMulB k9) (b2 (fI0 x8) (bA A0 (aC (b8 .B 0) (aC (b2 (fI0 x8) (b8 .B 1) (b8 .B 6)) aN))) (b8 .B 6)) (mC (.int 48271))) (b2 (fI0 x8) (b2 (fI M6 Z7) (mC (.int 10)) (mC (.int 9))) (mC (.int 1))))) (sV 7 (b2 (fI CMulB k9) (b8 .B 7) (b8 .B 4))))
   (R0 5 (b8 .V 7)))))
  (h7 (bA (J2 true) (aC (b8 .C 5) aN)))))
abbrev t8:List W->R W:=i9 5 8 X3
def bh:Rho->R Fl:=
 (d9 (sF 1 (bA t4 (aC (b8 .B 0) (aC (mC (.int 2)) (aC (mC (.int 8)) aN)))))
  (d9 (mIf (g8 (b2 (n9 false) (b8 .B 1) (mC (.int 7)))) (h7 (mC (.int 0))) sNx)
  (d9 (mIf (g8 (b2 (fI0 gGt) (b8 .B 1) (mC (.int 4)))) (h7 (b2 (fI0 x8) (mC (.int 1)) (b2 (fI C2 C7) (b2 (fI CMulB k9) (bA A0 (aC (b8 .B 0) (aC (mC (.int 2)) aN))) (mC (.int 48271))) (b2 (fI M6 Z7) (mC (.int 10)) (mC (.int 8)))))) sNx)
  (h7 (mC (.int 1))))))
abbrev R8:List W->R W:=i9 1 2 bh
def cg:Rho->R Fl:=
 (d9 (sV 1 (b2 fIx (D7 (aC (mC (.int 2)) (aC (mC (.int 3)) (aC (mC (.int 1)) (aC (mC (.int 5)) (aC (mC (.int 3)) (aC (mC (.int 4)) (aC (mC (.int 2)) (aC (mC (.int 6)) aN))))))))) (bA t4 (aC (b8 .B 0) (aC (mC (.int 0)) (aC (mC (.int 8)) aN))))))
  (d9 (sF 2 (bA R8 (aC (b8 .B 0) aN)))
  (d9 (sF 3 (D7 aN))
  (d9 (B9 (bI E4 (aC (b2 fIx (D7 (aC (mC (.int 3)) (aC (mC (.int 2)) (aC (mC (.int 4)) (aC (mC (.int 1)) (aC (mC (.int 3)) (aC (mC (.int 5)) (aC (mC (.int 2)) (aC (mC (.int 8)) (aC (mC (.int 0)) (aC (mC (.int 6)) (aC (mC (.int 7)) aN)))))))))))) (bA t4 (aC (b8 .B 0) (aC (mC (.int 1)) (aC (mC (.int 11)) aN))))) aN)) (gN .U 4)
   (d9 (sV 5 (b2 (fI0 x8) (mC (.int 5)) (b2 (fI CMulB k9) (b8 .B 1) (b2 (fI0 x8) (b2 (fI CMulB k9) (mC (.int 2)) (b8 .B 4)) (mC (.int 1))))))
   (d9 (sF 6 (bA t8 (aC (b8 .B 0) (aC (b8 .B 5) (aC (b8 .B 1) (aC (D7 (aC (mC (.int 0)) (aC (mC (.int 1)) (aC (mC (.int 0)) (aC (mC (.int 2)) (aC (mC (.int 1)) (aC (mC (.int 0)) aN))))))) (aC (b8 .B 2) aN)))))))
   (d9 (sF 7 (bA t8 (aC (b8 .B 0) (aC (b2 (fI0 x8) (b8 .B 5) (b8 .B 1)) (aC (b8 .B 1) (aC (D7 (aC (mC (.int 1)) (aC (mC (.int 0)) (aC (mC (.int 0)) (aC (mC (.int 1)) (aC (mC (.int 2)) (aC (mC (.int 0)) aN))))))) (aC (b8 .B 2) aN)))))))
   (d9 (mIf (g8 (b2 (n9 false) (bA t4 (aC (b8 .B 0) (aC (mC (.int 3)) (aC (mC (.int 2)) aN)))) (mC (.int 0)))) (d9 (sF 8 (bA t4 (aC (b8 .B 0) (aC (b2 (fI0 x8) (b8 .B 5) (b8 .B 1)) (aC (b8 .B 1) aN)))))
    (sV 7 (b2 fCatT (cG (b8 .B 6) (pS (b8 .B 8)) pN) (cG (b8 .B 6) pN (pS (b8 .B 8)))))) sNx)
   (aM 7 (aM 6 (R0 3 (A4 (aC (b8 .V 6) (aC (b8 .V 7) aN)))))))))))
  (d9 (sV 9 (b2 fIx (D7 (aC (mC (.int 1)) (aC (mC (.int 1)) (aC (mC (.int 7)) (aC (b2 (fI M6 Z7) (mC (.int 10)) (mC (.int 6))) aN))))) (bA t4 (aC (b8 .B 0) (aC (mC (.int 4)) (aC (mC (.int 4)) aN))))))
  (d9 (sF 10 (bA t8 (aC (b8 .B 0) (aC (mC (.int 5)) (aC (b8 .B 1) (aC (D7 (aC (mC (.int 1)) (aC (mC (.int 0)) (aC (mC (.int 2)) (aC (mC (.int 1)) (aC (mC (.int 3)) (aC (mC (.int 0)) aN))))))) (aC (b8 .B 2) aN)))))))
  (h7 (A4 (aC (bA (J2 true) (aC (k7 12 (bS (b8 .B 10)) (gN .U 11) yes (b2 (fI CMulB k9) (b8 .B 11) (b8 .B 9))) aN)) (aC (bA (J2 true) (aC (b8 .C 3) aN)) aN))))))))))
abbrev V2:List W->R W:=i9 1 11 cg
def bf:Rho->R Fl:=
 (h7 (cH (bA fIsi (aC (b8 .B 0) (aC (mC (.ty "int")) aN))) (oX (bA fIsi (aC (b8 .B 0) (aC (mC (.ty "bool")) aN))))))
abbrev L0:List W->R W:=i9 1 1 bf
def ay:Rho->R Fl:=
 (h7 (cH (bA fIsi (aC (b8 .B 0) (aC (mC (.ty "list")) aN))) (bA (bw bp) (aC (k7 3 (bS (b8 .B 0)) (gN .U 2) yes (cH (bA L0 (aC (b8 .B 2) aN)) (gj (fI0 gLe) (fI0 gLt) (mC (.int 0)) (b8 .B 2) (b8 .B 1)))) aN))))
abbrev G9:List W->R W:=i9 2 2 ay
def U7:Rho->R Fl:=
 (d9 (sF 4 (k7 11 (bS (b8 .B 0)) (gN .U 10) yes (mC (.int 0))))
  (d9 (sF 5 (k7 11 (bS (b8 .B 0)) (gN .U 10) yes (mC (.int 0))))
  (d9 (B9 (bS (b8 .U 2)) (gN .U 6)
   (d9 (sG (gT 2 (l6 (gN .U 7) (l6 (gN .U 8) gsNil))) (b2 fIx (b8 .B 1) (b8 .B 6)))
   (B9 (bI E4 (aC (bA fLen (aC (b8 .B 0) aN)) aN)) (gN .U 9)
    (d9 (Z0 4 (b8 .B 9) (bA (f2 eU) (aC (b2 fIx (b8 .B 4) (b8 .B 9)) (aC (b2 (fI0 gSub) (b2 fIx (b8 .B 7) (b8 .B 9)) (b2 fIx (b8 .B 5) (b8 .B 9))) aN))))
    (Z0 5 (b8 .B 9) (b2 (fI0 gSub) (b2 (fI0 x8) (b2 fIx (b8 .B 5) (b8 .B 9)) (b2 fIx (b8 .B 8) (b8 .B 9))) (b2 fIx (b8 .B 7) (b8 .B 9))))))))
  (d9 (B9 (bI E4 (aC (bA fLen (aC (b8 .B 0) aN)) aN)) (gN .U 9)
   (mIf (g8 (b2 (fI0 gLt) (b2 fIx (b8 .B 0) (b8 .B 9)) (b2 (fI0 x8) (b2 fIx (b8 .B 4) (b8 .B 9)) (b2 (fI CMulB k9) (b2 (fI0 gSub) (b8 .B 3) (mC (.int 1))) (bA (f2 eU) (aC (b2 (fI0 gSub) (mC (.int 0)) (b2 fIx (b8 .B 5) (b8 .B 9))) (aC (mC (.int 0)) aN))))))) (h7 (mC .non)) sNx))
  (h7 (k7 11 (bI E4 (aC (bA fLen (aC (b8 .B 0) aN)) aN)) (gN .U 10) yes (b2 (fI0 x8) (b2 fIx (b8 .B 0) (b8 .B 10)) (b2 (fI CMulB k9) (b8 .B 3) (b2 fIx (b8 .B 5) (b8 .B 10))))))))))
abbrev N0:List W->R W:=i9 4 10 U7
def az:Rho->R Fl:=
 (d9 (sF 2 (D7 aN))
  (d9 (B9 (bI E4 (aC (bA fLen (aC (b8 .B 0) aN)) aN)) (gN .U 3)
   (d9 (mIf (g8 (b2 (fI0 gLt) (b2 fIx (b8 .B 0) (b8 .B 3)) (b2 fIx (b2 fIx (b8 .B 1) (mC (.int 0))) (b8 .B 3)))) (h7 (mC .non)) sNx)
   (R0 2 (b2 (fI0 x8) (b2 (fI0 gSub) (b2 fIx (b8 .B 0) (b8 .B 3)) (b2 fIx (b2 fIx (b8 .B 1) (mC (.int 0))) (b8 .B 3))) (b2 fIx (b2 fIx (b8 .B 1) (mC (.int 1))) (b8 .B 3))))))
  (h7 (bA (J2 true) (aC (b8 .C 2) aN)))))
abbrev D3:List W->R W:=i9 2 4 az
def ax:Rho->R Fl:=
 (d9 (sF 3 (D7 (aC (b8 .V 0) aN)))
  (d9 (B9 (bS (b8 .U 2)) (gN .U 4)
   (d9 (sF 5 (k7 7 (bS (b8 .B 1)) (gN .U 6) yes (bA D3 (aC (b2 fIx (b8 .B 3) (b1 (fU M0) (mC (.int 1)))) (aC (b8 .B 6) aN)))))
   (d9 (sF 5 (k7 7 (bS (b8 .B 5)) (gN .U 6) (g8 (b2 (S3 true) (b8 .B 6) (mC .non))) (b8 .V 6)))
   (mIf (g8 (b2 (fI0 gGt) (bA fLen (aC (b8 .B 5) aN)) (mC (.int 0)))) (R0 3 (b2 fIx (b8 .C 5) (b2 (fI C2 C7) (b2 (fI V5 V0) (b2 (fI C2 C7) (b2 (fI CMulB k9) (b8 .B 4) (mC (.int 48271))) (mC (.int 1000003))) (mC (.int 7))) (bA fLen (aC (b8 .B 5) aN))))) sNx))))
  (D6 .F 3)))
abbrev G8:List W->R W:=i9 3 6 ax
def bi:Rho->R Fl:=
 (d9 (mIf (Q3 (g8 (b2 (n9 true) (bA fLen (aC (b8 .B 2) aN)) (mC (.int 3)))) (Q3 (M7 (g8 (bA G9 (aC (b2 fIx (b8 .B 2) (mC (.int 1))) (aC (bA fLen (aC (b8 .B 1) aN)) aN))))) (M7 (g8 (bA G9 (aC (b2 fIx (b8 .B 2) (mC (.int 2))) (aC (bA fLen (aC (b8 .B 1) aN)) aN))))))) (h7 (mC (.bl false))) sNx)
  (d9 (sF 4 (bA N0 (aC (b8 .B 0) (aC (b8 .B 1) (aC (b2 fIx (b8 .B 2) (mC (.int 1))) (aC (mC (.int 1)) aN))))))
  (d9 (mIf (g8 (b2 (S3 false) (b8 .B 4) (mC .non))) (h7 (mC (.bl false))) sNx)
  (d9 (sF 5 (bA N0 (aC (b8 .B 4) (aC (b8 .B 1) (aC (b2 fIx (b8 .B 2) (mC (.int 2))) (aC (b2 (fI0 x8) (mC (.int 1)) (b8 .B 3)) aN))))))
  (d9 (mIf (g8 (b2 (S3 false) (b8 .B 5) (mC .non))) (h7 (mC (.bl false))) sNx)
  (d9 (sF 6 (k7 8 (bI E4 (aC (bA fLen (aC (b8 .B 4) aN)) aN)) (gN .U 7) yes (b2 (fI0 gSub) (b2 fIx (b8 .B 5) (b8 .B 7)) (b2 fIx (b8 .B 4) (b8 .B 7)))))
  (h7 (cH (b2 (fI0 gGe) (bA (U2 U6) (aC (b8 .B 6) aN)) (mC (.int 0))) (b2 (fI0 gGe) (bA (dM bj) (aC (b8 .B 6) aN)) (b2 (fI0 x8) (mC (.int 1)) (b8 .B 3)))))))))))
abbrev R9:List W->R W:=i9 4 7 bi
def X4:Rho->R Fl:=
 (d9 (mIf (Q3 (g8 (b2 (n9 true) (bA fLen (aC (b8 .B 2) aN)) (mC (.int 2)))) (Q3 (M7 (g8 (bA fIsi (aC (b2 fIx (b8 .B 2) (mC (.int 1))) (aC (mC (.ty "list")) aN))))) (g8 (b2 (fIn true) (b8 .B 0) (b2 fIx (b8 .B 2) (mC (.int 1))))))) (h7 (mC (.bl false))) sNx)
  (d9 (B9 (bS (b2 fIx (b8 .B 2) (mC (.int 1)))) (gN .U 4)
   (d9 (mIf (Q3 (M7 (g8 (bA fIsi (aC (b8 .B 4) (aC (mC (.ty "tuple")) aN))))) (g8 (b2 (n9 true) (bA fLen (aC (b8 .B 4) aN)) (bA fLen (aC (b8 .B 0) aN))))) (h7 (mC (.bl false))) sNx)
   (B9 (bS (b8 .U 1)) (gN .U 5)
    (d9 (sF 6 (bA D3 (aC (b8 .B 4) (aC (b8 .B 5) aN))))
    (mIf (fW (g8 (b2 (S3 true) (b8 .B 6) (mC .non))) (g8 (b2 (fIn true) (b8 .B 6) (b2 fIx (b8 .B 2) (mC (.int 1)))))) (h7 (mC (.bl false))) sNx)))))
  (h7 (bA (bw bp) (aC (k7 8 (bS (b8 .B 3)) (gN .U 7) yes (b2 (fIn false) (b8 .B 7) (b2 fIx (b8 .B 2) (mC (.int 1))))) aN)))))
abbrev M3:List W->R W:=i9 4 7 X4
def bg:Rho->R Fl:=
 (d9 (mIf (Q3 (g8 (b2 (n9 true) (bA fLen (aC (b8 .B 2) aN)) (mC (.int 2)))) (Q3 (M7 (g8 (bA fIsi (aC (b2 fIx (b8 .B 2) (mC (.int 1))) (aC (mC (.ty "tuple")) aN))))) (g8 (b2 (n9 true) (bA fLen (aC (b2 fIx (b8 .B 2) (mC (.int 1))) aN)) (bA fLen (aC (b8 .B 0) aN)))))) (h7 (mC (.bl false))) sNx)
  (d9 (mIf (M7 (g8 (bA (bw bp) (aC (k7 7 (bS (b2 fIx (b8 .B 2) (mC (.int 1)))) (gN .U 6) yes (cH (bA L0 (aC (b8 .B 6) aN)) (b2 (fI0 gGt) (b8 .B 6) (mC (.int 0))))) aN)))) (h7 (mC (.bl false))) sNx)
  (d9 (sF 4 (bA (dM bj) (aC (k7 7 (bI E4 (aC (bA fLen (aC (b8 .B 0) aN)) aN)) (gN .U 6) yes (b2 (fI CMulB k9) (b2 fIx (b2 fIx (b8 .B 2) (mC (.int 1))) (b8 .B 6)) (b2 fIx (b8 .B 0) (b8 .B 6)))) aN)))
  (d9 (B9 (bS (b8 .U 3)) (gN .U 5)
   (mIf (Q3 (g8 (b2 (fI0 gGt) (bA (dM bj) (aC (k7 7 (bI E4 (aC (bA fLen (aC (b8 .B 0) aN)) aN)) (gN .U 6) yes (b2 (fI CMulB k9) (b2 fIx (b2 fIx (b8 .B 2) (mC (.int 1))) (b8 .B 6)) (b2 fIx (b8 .B 5) (b8 .B 6)))) aN)) (b8 .B 4))) (g8 (b2 (fI0 gGt) (bA (U2 Q8) (aC (b8 .B 5) aN)) (b8 .B 4)))) (h7 (mC (.bl false))) sNx))
  (h7 (mC (.bl true)))))))
abbrev R7:List W->R W:=i9 4 6 bg
def sv:Rho->R Fl:=
 (d9 (sG (gT 2 (l6 (gN .U 1) (l6 (gN .U 2) gsNil))) (bA V2 (aC (b8 .B 0) aN)))
  (d9 (sV 3 (mC (.int 30)))
  (d9 (mIf (g8 (b2 (n9 false) (bA t4 (aC (b8 .B 0) (aC (mC (.int 40)) (aC (mC (.int 2)) aN)))) (mC (.int 1)))) (sV 3 (b2 (fI0 x8) (mC (.int 1)) (bA t4 (aC (b8 .B 0) (aC (mC (.int 41)) (aC (mC (.int 30)) aN)))))) sNx)
  (d9 (sV 4 (bA bv (aC (A4 (aC (b8 .U 1) (aC (b8 .U 2) aN))) (aC (b8 .B 3) aN))))
  (d9 (mIf (Q3 (M7 (g8 (bA fIsi (aC (b8 .B 4) (aC (mC (.ty "tuple")) aN))))) (g8 (b2 (fI0 gLt) (bA fLen (aC (b8 .B 4) aN)) (mC (.int 1))))) (h7 (mC (.bl false))) sNx)
  (d9 (mIf (g8 (b2 (n9 false) (b2 fIx (b8 .B 4) (mC (.int 0))) (mC (.str "lift")))) (h7 (bA R9 (aC (b8 .B 1) (aC (b8 .B 2) (aC (b8 .B 4) (aC (b2 (fI C2 C7) (b2 (fI CMulB k9) (bA A0 (aC (b8 .B 0) (aC (mC (.int 42)) aN))) (mC (.int 982451653))) (b2 (fI M6 Z7) (mC (.int 10)) (mC (.int 60)))) aN)))))) sNx)
  (d9 (mIf (g8 (b2 (n9 false) (b2 fIx (b8 .B 4) (mC (.int 0))) (mC (.str "all")))) (h7 (bA M3 (aC (b8 .B 1) (aC (b8 .B 2) (aC (b8 .B 4) (aC (bA G8 (aC (b8 .B 1) (aC (b8 .B 2) (aC (vSl false (b8 .B 0) pN (pS (mC (.int 200)))) aN)))) aN)))))) sNx)
  (d9 (mIf (g8 (b2 (n9 false) (b2 fIx (b8 .B 4) (mC (.int 0))) (mC (.str "weights")))) (h7 (bA R7 (aC (b8 .B 1) (aC (b8 .B 2) (aC (b8 .B 4) (aC (bA G8 (aC (b8 .B 1) (aC (b8 .B 2) (aC (vSl false (b8 .B 0) pN (pS (mC (.int 200)))) aN)))) aN)))))) sNx)
  (h7 (b2 (fEq false) (b8 .B 4) (A4 (aC (mC (.str "open")) aN))))))))))))
abbrev gc:List W->R W:=i9 1 5 sv
end K77
set_option maxHeartbeats 4000000
open PySem L2 TP
namespace K77
--RPX: jS, nR, ny, X2, X1, jY, jT, oO, jt, sO, iW, nD, jX, nE, nS, im, da, jw, jx, jv
def rp14:=Z1 (@zf) (Z1 (@ze) (Z1 (@zd) (Z1 (@zc) (Z1 (@yO) (Z1 (@yZ) (Z1 (@yW) (Z1 (@yX) (Z1 (@yS) (Z1 (@yT) (Z1 (@za) (Z1 (@zb) (Z1 (@yQ) (@yR)))))))))))))
def rp15:=Z1 (@Bool.not_true) (Z1 (@Bool.not_false) (Z1 (@Bool.true_or) (Z1 (@Bool.or_true) (Z1 (@Bool.false_or) (Z1 (@Bool.or_false) (Z1 (@Bool.true_and) (Z1 (@Bool.and_true) (Z1 (@Bool.false_and) (Z1 (@Bool.and_false) (Z1 (@Int.sub_zero) (Z1 (@Int.zero_add) (Z1 (@Int.toNat_natCast) (Z1 (@Bool.false_eq_true) (Z1 (@Bool.true_eq_false) (Z1 (@and_true) (Z1 (@true_and) (Z1 (@or_true) (Z1 (@true_or) (@and_self)))))))))))))))))))
def rp18:=Z1 (@List.length_cons.{0}) (Z1 (@List.length_nil.{0}) (Z1 (@List.length_map.{0,0}) (Z1 (@List.length_append.{0}) (Z1 (@List.length_set.{0}) (@List.length_range)))))
def rp16:=Z1 rp14 (Z1 rp15 (Z1 rp13 (Z1 rp12 (Z1 rp11 (Z1 rp10 (Z1 rp9 (Z1 rp8 (Z1 rp0 (Z1 rp1 (Z1 rp2 (Z1 rp3 (Z1 rp4 (Z1 rp5 (Z1 rp6 rp7))))))))))))))
def rp17:=Z1 (@List.map_cons.{0,0}) (Z1 (@List.map_nil.{0,0}) (Z1 (@List.replicate_succ.{0}) (Z1 (@List.replicate_zero.{0}) (Z1 (@List.cons_append.{0}) (Z1 (@List.nil_append.{0}) (Z1 (@List.append_nil.{0}) (Z1 (@R.ok_bind) (Z1 (@R.stuck_bind) (@R.ex_bind)))))))))
def rp19:=Z1 (@beq_self_eq_true.{0}) (Z1 (@Option.isNone_none.{0}) (Z1 (@Option.isNone_some.{0}) (Z1 (@Option.bind_some.{0,0}) (Z1 (@if_true.{1}) (Z1 (@if_false.{1}) (Z1 (@decide_true) (@decide_false)))))))
def aE (r:R Fl):R Fl:=match r with
 | .ok (.ct ρ)=>.ok (.nx ρ)
 | r=>r
theorem jw (ρ:Rho):aE (.ok (.nx ρ))=.ok (.nx ρ):=rfl
theorem jx (ρ:Rho):aE (.ok (.ct ρ))=.ok (.nx ρ):=rfl
theorem jv (w:W):aE (.ok (.rt w))=.ok (.rt w):=rfl
theorem dv {mg:W->Rho->Option Rho} {mb:Rho->R Fl} {Jr:W->Prop} (I:Nat->Rho->Prop):∀ (ws:List W) (k:Nat) (ρ:Rho),I k ρ ->
  (∀ (i:Nat) (w:W) (ρ:Rho),ws[i]?=some w->I (k+i) ρ->∃ ρ1,mg w ρ=some ρ1/\Po (aE (mb ρ1)) (I (k+i+1)) Jr)->Po (B7 mg mb ws ρ) (I (k+ws.length)) Jr
 | [],k,ρ,h,_=>h
 | w::ws,k,ρ,h,st=>by
  obtain ⟨ρ1,e1,p⟩:=st 0 w ρ rfl h
  unfold B7
  rw [e1]
  show Po (mb ρ1>>=_) _ _
  have go:∀ ρ2,I (k+0+1) ρ2->Po (B7 mg mb ws ρ2) (I (k+(w::ws).length)) Jr:=fun ρ2 p=>by
   have:=dv (mg:=mg) (mb:=mb) I ws (k+1) ρ2 p fun i w ρ hw hp=>by
    have:=st (i+1) w ρ (by simpa using hw) (by rw [show k+(i+1)=k+1+i by omega]; exact hp)
    rw [show k+(i+1)+1=k+1+i+1 by omega] at this
    exact this
   rw [List.length_cons,show k+(ws.length+1)=k+1+ws.length by omega]
   exact this
  revert p
  cases mb ρ1 with
  | ex _=>exact fun p=>p.elim
  | stuck=>exact fun p=>p.elim
  | ok f=>cases f with
   | bk _=>exact fun p=>p.elim
   | ct ρ2=>exact fun p=>go ρ2 p
   | rt w=>exact fun p=>p
   | nx ρ2=>exact fun p=>go ρ2 p
theorem pY {mg:W->Rho->Option Rho} {mb n:Rho->R Fl} {ws:List W} {ρ:Rho} {Jn:Rho->Prop} {Jr:W->Prop} (I:Nat->Rho->Prop) (h0:I 0 ρ)
  (st:∀ (i:Nat) (w:W) (ρ:Rho),ws[i]?=some w->I i ρ->∃ ρ1,mg w ρ=some ρ1/\Po (aE (mb ρ1)) (I (i+1)) Jr) (hn:∀ ρ,I ws.length ρ->Po (n ρ) Jn Jr):Po (andThen (B7 mg mb ws ρ) n) Jn Jr:=by
 have:=dv (mg:=mg) (mb:=mb) (Jr:=Jr) I ws 0 ρ h0 fun i w ρ hw hp=>by rw [Nat.zero_add] at hp ⊢; exact st i w ρ hw hp
 rw [Nat.zero_add] at this
 exact Q6 (this.mono hn fun _ h=>h)
theorem jG {b:Bool} {m n:Rho->R Fl} {ρ:Rho} {k:Rho->R Fl} {Jn:Rho->Prop} {Jr:W->Prop} (h1:b=true->Po (aE (andThen (m ρ) k)) Jn Jr) (h2:b=false->Po (aE (andThen (n ρ) k)) Jn Jr):Po (aE (andThen (ifS (.ok b) m n ρ) k)) Jn Jr:=by
 cases b with
 | true=>exact h1 rfl
 | false=>exact h2 rfl
theorem sO (ns:List Int) (l u:Option Int):Rst (.ok (.tup (ns.map W.int))) (.ok l) (.ok u)=.ok (.tup (E9 (ns.map W.int) l u)):=Ba (w8 ns) l u
def zq (o:Option Sl) (r:R W) (i:Nat) (ρ:Rho):R Fl:=match o with
 | some (.own ws)=>r>>=fun w=>if ws.length<1000 then .ok (.nx (ρ.set i (.own (w::ws)))) else .stuck
 | _=>.stuck
theorem jS (i:Nat) (m:Rho->R W) (ρ:Rho):mIns i m ρ=zq (ρ[i]?) (m ρ) i ρ:=rfl
theorem nR {ws:List W} {w:W} {i:Nat} {ρ:Rho} (h:ws.length<1000):zq (some (.own ws)) (.ok w) i ρ=.ok (.nx (ρ.set i (.own (w::ws)))):=if_pos h
def rpZ:=Z1 rp19 (Z1 rp16 (Z1 rp17 (Z1 rp18 (Z1 @jS (Z1 @nR (Z1 @ny (Z1 @X2 (Z1 @X1 (Z1 @jY (Z1 @jT (Z1 @oO (Z1 @jt (Z1 @sO (Z1 @iW (Z1 @nD (Z1 @jX (Z1 @nE (Z1 @nS (Z1 @im (Z1 @da (Z1 @jw (Z1 @jx (Z1 @jv (@decide_eq_true_eq))))))))))))))))))))))))
def rpB:=Z1 (@xk) (Z1 (@xj) (Z1 (@xi) (Z1 (@xh) (@xg))))
local macro_rules | `(tactic| exists $[$es],*)=>`(tactic| simp (disch:=first | with_reducible assumption | omega | (simp only [rp18]; omega)) only [List.getElem?_cons_zero,List.getElem?_cons_succ,List.set_cons_succ,List.set_cons_zero,tyW,isN,simprocAttr,rpZ,$[$es:term],*])
abbrev Mv:=List Int×List Int
abbrev mW (m:Mv):W:=.tup [tI m.1,tI m.2]
abbrev lS (ss:List (List Int)):W:=.lst (ss.map tI)
abbrev tM_ (ms:List Mv):W:=.tup (ms.map mW)
theorem yB (m:Mv):noL (mW m)=true:=by simp [noL,m7,w8]
theorem yA (ms:List Mv):m7 (ms.map mW)=true:=cO mW yB ms
theorem uT {ms:List Mv} {i:Nat} {w:W} (h:(ms.map mW)[i]?=some w):∃ m,m∈ms/\ms[i]?=some m/\w=mW m:=by
 rw [List.getElem?_map] at h
 cases q:ms[i]? with
 | none=>rw [q] at h; cases h
 | some m=>rw [q] at h; cases h; exact ⟨m,List.mem_of_getElem? q,rfl,rfl⟩
theorem memD {ns:List Int} {P:Int->Prop} (h:∀ x∈ns,P x) {i:Nat} (hi:i<ns.length):P (ns.getD i 0):=mem_getD h hi
def nn (xs:List Int):Prop:=∀ x∈xs,0<=x
def okN (n:Nat) (m:Mv):Prop:=m.1.length=n/\m.2.length=n/\nn m.1/\nn m.2
theorem P4 {xs:List Int} (h:nn xs) (k:Nat):0<=xs.getD k 0:=by
 by_cases hk:k<xs.length
 ·exact memD h hk
 ·rw [List.getD_eq_getElem?_getD]; simp [hk]
theorem getM {n:Nat} {ms:List Mv} {i:Nat} (hm:∀ m∈ms,okN n m) (h1:i<ms.length):okN n (ms.getD i ([],[])):=by
 refine hm _ ?_
 rw [List.getD_eq_getElem?_getD]; simp [h1]
def n4 (a b:List Int):Bool:=(List.range a.length).all fun k=>decide (b.getD k 0<=a.getD k 0)
theorem sM {a b:List Int} {i:Nat} (hi:i<a.length) (h:a.getD i 0<b.getD i 0):n4 a b=false:=by
 unfold n4
 rw [List.all_eq_false]
 exact ⟨i,by simpa using hi,fun h'=>by have:=of_decide_eq_true h'; omega⟩
theorem sL {a b:List Int} (h:∀ k,k<a.length->b.getD k 0<=a.getD k 0):n4 a b=true:=by
 unfold n4
 rw [List.all_eq_true]
 exact fun k hk=>decide_eq_true (h k (by simpa using hk))
theorem fK {a b:List Int} (hl:b.length=a.length):R5 [tI a,tI b]=.ok (.bl (n4 a b)):=by
 have fin:Ok (R5 [tI a,tI b]) fun v=>v=.bl (n4 a b):=by
  have hz:=V6 (tI a) (tI b) _ _ rfl rfl
  rw [P7 hl] at hz
  exists rpB,ie,hz
  refine t7 (v6 (fun i ρ=>∃ u v,ρ = [.par (tI a),.par (tI b),u,v]/\∀ k,k<i->b.getD k 0<=a.getD k 0) ⟨_,_,rfl,fun k hk=>absurd hk (Nat.not_lt_zero _)⟩ ?_ ?_)
  ·rintro i u ρ hu ⟨_,_,rfl,hall⟩
   obtain ⟨hi,rfl⟩:=pK hu
   refine ⟨_,rfl,?_⟩
   exists rp18
   refine bP (fun h=>?_) (fun h=>?_)
   ·exists rp18
    rw [sM hi (by simpa using h)]
   ·exists rp18
    refine ⟨_,_,rfl,fun k hk=>?_⟩
    by_cases e:k=i
    ·subst e; simpa using h
    ·exact hall k (by omega)
  ·rintro ρ ⟨_,_,rfl,hall⟩
   rw [List.length_map,List.length_range] at hall
   exists rp18
   rw [sL hall]
 obtain ⟨v,e,rfl⟩:=fin
 exact e
theorem kq {s:List Int} {m:Mv} (h:m.1.length=s.length):dJ [tI s,mW m]=.ok (.bl (n4 s m.1)):=by
 have a0:L2.atI [tI m.1,tI m.2] 0=some (tI m.1):=rfl
 have k:=fK (a:=s) (b:=m.1) h
 exists rpB,nC,a0,k
theorem fM {n:Nat} {m:Mv} (h6:n<=6) (h:okN n m):Z8 [mW m]=.ok (tI ((List.range n).map fun k=>m.2.getD k 0-m.1.getD k 0)):=by
 have a0:L2.atI [tI m.1,tI m.2] 0=some (tI m.1):=rfl
 have a1:L2.atI [tI m.1,tI m.2] 1=some (tI m.2):=rfl
 have hz:=V6 (tI m.1) (tI m.2) _ _ rfl rfl
 rw [P7 (by rw [h.1,h.2.1]),h.1] at hz
 exists rpB,ii,a0,a1,hz
 have e:∀ N mg me ρ (h:∀ k,k<n->∃ ρ1,mg (.tup [.int (m.1.getD k 0),.int (m.2.getD k 0)]) (ρ++List.replicate (N-ρ.length) Sl.un)=some ρ1/\me ρ1=.ok (.int (m.2.getD k 0-m.1.getD k 0))),j8 N mg yes me ((List.range n).map fun k=>W.tup [.int (m.1.getD k 0),.int (m.2.getD k 0)]) ρ=.ok (lI ((List.range n).map fun k=>m.2.getD k 0-m.1.getD k 0)):=fun N mg me ρ h=>by
  rw [j0 (fun k=>.int (m.2.getD k 0-m.1.getD k 0)) _ _ ρ (by simpa using (by omega:n<=1000)) (fun k hk=>h k (by simpa using hk)),E7]
 rw [e]
 ·exists rp18
 ·intro k hk
  refine ⟨_,rfl,?_⟩
  exists rp18
theorem AW (s:List Int):(List.range s.length).map (fun k=>s.getD k 0)=s:=by
 apply List.ext_getElem
 ·simp
 ·intro i h1 h2; simp [h2]
theorem oN {n:Nat} {s:List Int} {m:Mv} (h6:n<=6) (h:okN n m) (hs:s.length=n) (hc:n4 s m.1=true):eX [tI s,mW m]=.ok (tI ((List.range n).map fun k=>s.getD k 0+(m.2.getD k 0-m.1.getD k 0))):=by
 have k1:=kq (s:=s) (m:=m) (by rw [hs,h.1])
 rw [hc] at k1
 have k2:=fM h6 h
 have hz:=V6 (tI s) (tI ((List.range n).map fun k=>m.2.getD k 0-m.1.getD k 0)) _ _ rfl rfl
 rw [P7 (by simp [hs]),hs] at hz
 exists rpB,jR,k1,k2,hz
 have e:∀ N mg me ρ (h:∀ k,k<n->∃ ρ1,mg (.tup [.int (s.getD k 0),.int (((List.range n).map fun k=>m.2.getD k 0-m.1.getD k 0).getD k 0)]) (ρ++List.replicate (N-ρ.length) Sl.un)=some ρ1/\me ρ1=.ok (.int (s.getD k 0+(m.2.getD k 0-m.1.getD k 0)))),j8 N mg yes me ((List.range n).map fun k=>W.tup [.int (s.getD k 0),.int (((List.range n).map fun k=>m.2.getD k 0-m.1.getD k 0).getD k 0)]) ρ=.ok (lI ((List.range n).map fun k=>s.getD k 0+(m.2.getD k 0-m.1.getD k 0))):=fun N mg me ρ h=>by
  rw [j0 (fun k=>.int (s.getD k 0+(m.2.getD k 0-m.1.getD k 0))) _ _ ρ (by simpa using (by omega:n<=1000)) (fun k hk=>h k (by simpa using hk)),E7]
 rw [e]
 ·exists rp18
 ·intro k hk
  refine ⟨_,rfl,?_⟩
  exists rp18
  rw [g9 hk]
def r9 (s:List Int) (m:Mv):List Int:=(List.range s.length).map fun k=>s.getD k 0+(m.2.getD k 0-m.1.getD k 0)
theorem iU (s:List Int) (m:Mv):(r9 s m).length=s.length:=by simp [r9]
abbrev Ent:=List Int×Nat×Nat
abbrev eW (e:Ent):W:=.tup [tI e.1,.int (e.2.1:Int),.int (e.2.2:Int)]
abbrev r0 (b:List Int):W:=.tup [tI b,.non,.non]
abbrev n6 (b:List Int) (es:List Ent):List W:=r0 b::es.map eW
def stS (b:List Int) (es:List Ent):List (List Int):=b::es.map (·.1)
def cd (e:Ent):Nat:=e.2.1*8+e.2.2
def mvN (ms:List Mv) (k:Nat):Mv:=ms.getD k ([],[])
def sA (b:List Int) (es:List Ent) (a:Nat):List Int:=(stS b es).getD a []
theorem V9 (b:List Int) (es:List Ent):(stS b es).length=es.length+1:=by simp [stS]
theorem jC {b:List Int} {es:List Ent} {e:Ent} {a:Nat} (h:a<es.length+1):sA b (es ++ [e]) a=sA b es a:=by
 unfold sA stS
 rw [List.map_append,<- List.cons_append,List.getD_eq_getElem?_getD,List.getD_eq_getElem?_getD,List.getElem?_append_left (by simpa using h)]
theorem mH {b:List Int} {es:List Ent} {a:Nat} (h:a<es.length+1):sA b es a∈stS b es:=by
 unfold sA
 rw [List.getD_eq_getElem?_getD,List.getElem?_eq_getElem (by rw [V9]; exact h)]
 exact List.getElem_mem _
def abN (b:List Int) (ms:List Mv) (es:List Ent) (a k:Nat):Bool:=n4 (sA b es a) (mvN ms k).1
def bhN (b:List Int) (ms:List Mv) (es:List Ent) (a k:Nat):List Int:=r9 (sA b es a) (mvN ms k)
structure FlK (b:List Int) (ms:List Mv) (es:List Ent) (A:Nat) (T:List Nat):Prop where
 len:∀ e∈es,e.1.length=b.length
 k8:∀ e∈es,e.2.2<ms.length
 lt:∀ e∈es,e.2.1<A\/(e.2.1=A/\e.2.2∈T)
 inc:es.Pairwise fun x y=>cd x<cd y
 par:∀ (i:Nat) (e:Ent),es[i]?=some e->e.2.1<=i
 beh:∀ e∈es,abN b ms es e.2.1 e.2.2=true/\e.1=bhN b ms es e.2.1 e.2.2
 nod:(stS b es).Nodup
 cl:∀ t∈T,∀ k,k<t->abN b ms es A k=true->k∈T
 set:∀ a k,a<A\/(a=A/\k∈T)->k<ms.length->abN b ms es a k=true->(∃ e∈es,e.2=(a,k))\/bhN b ms es a k=b\/∃ e∈es,cd e<a*8+k/\e.1=bhN b ms es a k
theorem FlK.start (b:List Int) (ms:List Mv):FlK b ms [] 0 [] where
 len:=by simp
 k8:=by simp
 lt:=by simp
 inc:=List.Pairwise.nil
 par:=by simp
 beh:=by simp
 nod:=by simp [stS]
 cl:=by simp
 set:=fun a k h=>by simp at h
section
variable {b:List Int} {ms:List Mv} {es:List Ent} {A:Nat} {T:List Nat}
theorem FlK.below (h:FlK b ms es A T) (h8:ms.length<=8) {k:Nat} (hT:∀ t∈T,t<k):∀ e∈es,cd e<A*8+k:=fun e he=>by
 have:=h.k8 e he
 unfold cd
 rcases h.lt e he with q | ⟨q,q'⟩
 ·omega
 ·have:=hT _ q'; omega
theorem FlK.known (h:FlK b ms es A T) (h8:ms.length<=8) {k:Nat} (hT:∀ t∈T,t<k) (hcl:∀ j,j<k->abN b ms es A j=true->j∈T) (hin:bhN b ms es A k∈stS b es):FlK b ms es A (T ++ [k]) where
 len:=h.len
 k8:=h.k8
 lt:=fun e he=>by
  rcases h.lt e he with q | ⟨q,q'⟩
  ·exact .inl q
  ·exact .inr ⟨q,List.mem_append_left _ q'⟩
 inc:=h.inc
 par:=h.par
 beh:=h.beh
 nod:=h.nod
 cl:=fun t ht j hj hab=>by
  rcases List.mem_append.mp ht with q | q
  ·exact List.mem_append_left _ (h.cl t q j hj hab)
  ·rw [List.mem_singleton.mp q] at hj
   exact List.mem_append_left _ (hcl j hj hab)
 set:=fun a j hj hjm hab=>by
  rcases hj with q | ⟨q,q'⟩
  ·exact h.set a j (.inl q) hjm hab
  ·rcases List.mem_append.mp q' with q2 | q2
   ·exact h.set a j (.inr ⟨q,q2⟩) hjm hab
   ·have ek:=List.mem_singleton.mp q2
    subst q ek
    unfold stS at hin
    rcases List.mem_cons.mp hin with e | e
    ·exact .inr (.inl e)
    ·obtain ⟨x,hx,ex⟩:=List.mem_map.mp e
     exact .inr (.inr ⟨x,hx,h.below h8 hT x hx,ex⟩)
theorem FlK.snoc (h:FlK b ms es A T) (h8:ms.length<=8) (hA:A<es.length+1) {k:Nat} (hk:k<ms.length) (hT:∀ t∈T,t<k) (hcl:∀ j,j<k->abN b ms es A j=true->j∈T) (hab:abN b ms es A k=true) (hln:(bhN b ms es A k).length=b.length) (hnin:bhN b ms es A k∉stS b es):FlK b ms (es ++ [(bhN b ms es A k,A,k)]) A (T ++ [k]):=by
 have hS:∀ a j,a<es.length+1->abN b ms (es ++ [(bhN b ms es A k,A,k)]) a j=abN b ms es a j/\bhN b ms (es ++ [(bhN b ms es A k,A,k)]) a j=bhN b ms es a j:=fun a j ha=>by
  unfold abN bhN
  rw [jC ha]
  exact ⟨rfl,rfl⟩
 have hpar:∀ e∈es,e.2.1<es.length+1:=fun e he=>by
  obtain ⟨i,hi,ei⟩:=List.mem_iff_getElem.mp he
  have:=h.par i e (by rw [List.getElem?_eq_getElem hi,ei])
  omega
 refine ⟨fun e he=>?_,fun e he=>?_,fun e he=>?_,?_,fun i e he=>?_,fun e he=>?_,?_,fun t ht j hj hab'=>?_,fun a j hj hjm hab'=>?_⟩
 ·rcases List.mem_append.mp he with q | q
  ·exact h.len e q
  ·rw [List.mem_singleton.mp q]; exact hln
 ·rcases List.mem_append.mp he with q | q
  ·exact h.k8 e q
  ·rw [List.mem_singleton.mp q]; exact hk
 ·rcases List.mem_append.mp he with q | q
  ·rcases h.lt e q with q1 | ⟨q1,q2⟩
   ·exact .inl q1
   ·exact .inr ⟨q1,List.mem_append_left _ q2⟩
  ·rw [List.mem_singleton.mp q]; exact .inr ⟨rfl,by simp⟩
 ·refine List.pairwise_append.mpr ⟨h.inc,List.pairwise_singleton _ _,fun x hx y hy=>?_⟩
  rw [List.mem_singleton.mp hy]
  exact h.below h8 hT x hx
 ·by_cases hi:i<es.length
  ·rw [List.getElem?_append_left hi] at he
   exact h.par i e he
  ·have hi':=(List.getElem?_eq_some_iff.mp he).1
   rw [List.length_append,List.length_singleton] at hi'
   have:i=es.length:=by omega
   subst this
   rw [List.getElem?_append_right (Nat.le_refl _),Nat.sub_self] at he
   cases he
   show A<=es.length
   omega
 ·rcases List.mem_append.mp he with q | q
  ·rw [(hS _ _ (hpar e q)).1,(hS _ _ (hpar e q)).2]; exact h.beh e q
  ·rw [List.mem_singleton.mp q]
   rw [(hS A k hA).1,(hS A k hA).2]
   exact ⟨hab,rfl⟩
 ·unfold stS
  rw [List.map_append,<- List.cons_append]
  refine List.nodup_append.mpr ⟨h.nod,by simp,fun x hx y hy=>?_⟩
  rw [List.map_singleton,List.mem_singleton] at hy
  subst hy
  intro e
  have e:x=bhN b ms es A k:=e
  rw [e] at hx
  exact hnin hx
 ·rw [(hS A j hA).1] at hab'
  rcases List.mem_append.mp ht with q | q
  ·exact List.mem_append_left _ (h.cl t q j hj hab')
  ·rw [List.mem_singleton.mp q] at hj
   exact List.mem_append_left _ (hcl j hj hab')
 ·have ha:a<es.length+1:=by
   rcases hj with q | ⟨q,_⟩
   ·omega
   ·omega
  rw [(hS a j ha).1] at hab'
  rw [(hS a j ha).2]
  have old:(a<A\/(a=A/\j∈T))->(∃ e∈es ++ [(bhN b ms es A k,A,k)],e.2=(a,j))\/bhN b ms es a j=b\/∃ e∈es ++ [(bhN b ms es A k,A,k)],cd e<a*8+j/\e.1=bhN b ms es a j:=fun hj=>by
   rcases h.set a j hj hjm hab' with ⟨e,he,q⟩ | q | ⟨e,he,q⟩
   ·exact .inl ⟨e,List.mem_append_left _ he,q⟩
   ·exact .inr (.inl q)
   ·exact .inr (.inr ⟨e,List.mem_append_left _ he,q⟩)
  rcases hj with q | ⟨q,q'⟩
  ·exact old (.inl q)
  ·rcases List.mem_append.mp q' with q2 | q2
   ·exact old (.inr ⟨q,q2⟩)
   ·have ek:=List.mem_singleton.mp q2
    subst q ek
    exact .inl ⟨_,List.mem_append_right _ (List.mem_singleton_self _),rfl⟩
theorem FlK.next (h:FlK b ms es A T) (hT:∀ k,k<ms.length->abN b ms es A k=true->k∈T):FlK b ms es (A+1) [] where
 len:=h.len
 k8:=h.k8
 lt:=fun e he=>by
  rcases h.lt e he with q | ⟨q,q'⟩
  ·exact .inl (by omega)
  ·exact .inl (by omega)
 inc:=h.inc
 par:=h.par
 beh:=h.beh
 nod:=h.nod
 cl:=by simp
 set:=fun a k hj hk hab=>by
  rcases hj with q | ⟨_,q⟩
  ·by_cases e:a=A
   ·subst e; exact h.set a k (.inr ⟨rfl,hT k hk hab⟩) hk hab
   ·exact h.set a k (.inl (by omega)) hk hab
  ·simp at q
end
def fsN (ms:List Mv) (s:List Int):List Nat:=(List.range ms.length).filter fun k=>n4 s (mvN ms k).1
theorem nV (ms:List Mv) (s:List Int):(fsN ms s).Pairwise (·<·):=List.Pairwise.filter _ List.pairwise_lt_range
theorem fs_mem {ms:List Mv} {s:List Int} {k:Nat}:k∈fsN ms s↔k<ms.length/\n4 s (mvN ms k).1=true:=by
 unfold fsN
 rw [List.mem_filter,List.mem_range]
theorem tq {l:List Nat} (h:l.Pairwise (·<·)) {i:Nat} (hi:i<l.length):∀ t∈l.take i,t<l[i]:=fun t ht=>by
 obtain ⟨j,hj,e⟩:=List.mem_iff_getElem.mp ht
 rw [List.length_take] at hj
 rw [List.getElem_take] at e
 subst e
 exact List.pairwise_iff_getElem.mp h j i (by omega) hi (by omega)
theorem vc {l:List Nat} (h:l.Pairwise (·<·)) {i:Nat} (hi:i<l.length) {t:Nat} (ht:t∈l) (hlt:t<l[i]):t∈l.take i:=by
 obtain ⟨j,hj,e⟩:=List.mem_iff_getElem.mp ht
 subst e
 have hji:j<i:=by
  rcases Nat.lt_trichotomy j i with q | q | q
  ·exact q
  ·subst q; omega
  ·have:=List.pairwise_iff_getElem.mp h i j hi hj q; omega
 exact List.mem_iff_getElem.mpr ⟨j,by rw [List.length_take]; omega,by rw [List.getElem_take]⟩
theorem vJ (ms:List Mv):((ms.map mW).mapIdx fun i x=>W.tup [.int (i:Int),x])=(List.range ms.length).map fun (k:Nat)=>W.tup [.int (k:Int),mW (mvN ms k)]:=by
 apply List.ext_getElem
 ·simp
 ·intro i h1 h2
  have hi:i<ms.length:=by simpa using h1
  simp [mvN,List.getD_eq_getElem?_getD,List.getElem?_eq_getElem hi]
theorem vX {b s:List Int} {ms:List Mv} (h6:s.length<=6) (hm:∀ m∈ms,okN s.length m) (hl:ms.length<=8):K9 [.tup [tI b,tM_ ms],tI s]=.ok (.lst ((fsN ms s).map fun (k:Nat)=>W.tup [tI (r9 s (mvN ms k)),.int (k:Int)])):=by
 have a1:L2.atI [tI b,tM_ ms] 1=some (tM_ ms):=rfl
 have he:L1 [tM_ ms]=.ok ((List.range ms.length).map fun (k:Nat)=>W.tup [.int (k:Int),mW (mvN ms k)]):=by rw [<- vJ]; rfl
 exists rpB,T8,a1,he
 have e:∀ N mg mc me ρ,(∀ k,k<ms.length->∃ ρ1,mg (.tup [.int (k:Int),mW (mvN ms k)]) (ρ++List.replicate (N-ρ.length) Sl.un)=some ρ1/\mc ρ1=.ok (n4 s (mvN ms k).1)/\(n4 s (mvN ms k).1=true->me ρ1=.ok (.tup [tI (r9 s (mvN ms k)),.int (k:Int)]))) ->
   j8 N mg mc me ((List.range ms.length).map fun (k:Nat)=>W.tup [.int (k:Int),mW (mvN ms k)]) ρ=.ok (.lst ((fsN ms s).map fun (k:Nat)=>W.tup [tI (r9 s (mvN ms k)),.int (k:Int)])):=fun N mg mc me ρ h=>
  Q9 (N':=N) (mg:=mg) (mc:=mc) (me:=me) (fun k=>W.tup [tI (r9 s (mvN ms k)),.int (k:Int)]) (fun k=>W.tup [.int (k:Int),mW (mvN ms k)]) (fun k=>n4 s (mvN ms k).1) (List.range ms.length) ρ (by rw [List.length_range]; omega) fun k hk=>h k (List.mem_range.mp hk)
 rw [e]
 ·exists rp18
 ·intro k hk
  have hmk:okN s.length (mvN ms k):=getM hm hk
  generalize mvN ms k=m at hmk
  have k1:=kq (s:=s) (m:=m) (by rw [hmk.1])
  refine ⟨_,rfl,?_,fun hc=>?_⟩
  ·exists k1
  ·have k2:=oN h6 hmk rfl hc
   have k3:(List.range s.length).map (fun k=>s.getD k 0+(m.2.getD k 0-m.1.getD k 0))=r9 s m:=rfl
   rw [k3] at k2
   exists k2,O3 (Q7 (r9 s m))
def CI (b:List Int) (ms:List Mv) (most:Nat) (es:List Ent) (wh:Bool):Prop:=
 es.length+1<=most/\((wh=true/\FlK b ms es (es.length+1) []) \/
  (wh=false/\es.length+1=most/\∃ A T k,FlK b ms es A T/\A<es.length+1/\k<ms.length/\(∀ t∈T,t<k)/\abN b ms es A k=true/\bhN b ms es A k∉stS b es))
theorem rK {ks:List (List Int)} {k:List Int} (h:k∉ks):iZ ks k=ks ++ [k]:=if_neg h
theorem eg {b:List Int} {es:List Ent} {a:Nat} (h:a<es.length+1):∃ x y:W,L2.atI (n6 b es) (a:Int)=some (.tup [tI (sA b es a),x,y]):=by
 cases a with
 | zero=>exact ⟨.non,.non,C3 (k:=0) rfl⟩
 | succ a=>
  have ha:a<es.length:=by omega
  have e1:(n6 b es)[a+1]?=some (eW es[a]):=by simp [ha]
  have e2:sA b es (a+1)=es[a].1:=by
   unfold sA stS
   simp [List.getD_eq_getElem?_getD,ha]
  rw [e2]
  exact ⟨_,_,C3 (k:=a+1) e1⟩
theorem qW {b:List Int} {ms:List Mv} {most:Nat} (h6:b.length<=6) (hm:∀ m∈ms,okN b.length m) (hl:ms.length<=8) (h1:1<=most) (h30:most<=100):Ok (bX [.tup [tI b,tM_ ms],.int (most:Int)]) fun w=>∃ (es:List Ent) (wh:Bool),w=.tup [.lst (n6 b es),.bl wh]/\CI b ms most es wh:=by
 have a0:L2.atI [tI b,tM_ ms] 0=some (tI b):=rfl
 have nw:=jN
 exists rpB,jQ,a0,O3 (Q7 b),qx,jN
 refine t7 (Q6 ?_)
 refine Y6 (fun m ρ=>∃ (es:List Ent) (at_:Nat) (a5 a6 a7:Sl),ρ = [.par (.tup [tI b,tM_ ms]),.par (.int (most:Int)),.own (n6 b es),.dic (stS b es),.val (.int (at_:Int)),a5,a6,a7]/\Z4 a5=false/\Z4 a6=false/\Z4 a7=false/\FlK b ms es at_ []/\at_<=es.length+1/\es.length+1<=most/\m+at_=102) ?_ 102 _ ⟨[],0,.un,.un,.un,rfl,rfl,rfl,rfl,FlK.start b ms,by omega,by simpa using h1,rfl⟩
 rintro m ρ ⟨es,at_,a5,a6,a7,rfl,d5,d6,d7,hK,hat,hmo,hmm⟩
 by_cases hlt:at_<es.length+1
 ·refine ⟨true,?_,?_⟩
  ·exists rp18
   rw [show decide ((at_:Int)<((es.length+1:Nat):Int))=true from decide_eq_true (by omega)]
  rw [if_pos rfl]
  obtain ⟨x,y,er⟩:=eg (b:=b) (es:=es) hlt
  have hsl:(sA b es at_).length=b.length:=by
   have:=mH (b:=b) (es:=es) hlt
   unfold stS at this
   rcases List.mem_cons.mp this with e | e
   ·rw [e]
   ·obtain ⟨z,hz,ez⟩:=List.mem_map.mp e
    rw [<- ez]; exact hK.len z hz
  have kb:=vX (b:=b) (s:=sA b es at_) (by omega) (by rw [hsl]; exact hm) hl
  have a0':L2.atI [tI (sA b es at_),x,y] 0=some (tI (sA b es at_)):=rfl
  exists er,a0',kb
  generalize hs:sA b es at_=s at *
  have hfl:(fsN ms s).length<=8:=by
   have:=List.length_filter_le (fun k=>n4 s (mvN ms k).1) (List.range ms.length)
   rw [List.length_range] at this
   unfold fsN; omega
  refine pY (fun i ρ=>∃ (es':List Ent) (a6 a7:Sl),ρ = [.par (.tup [tI b,tM_ ms]),.par (.int (most:Int)),.own (n6 b es'),.dic (stS b es'),.val (.int (at_:Int)),.val (tI s),a6,a7]/\Z4 a6=false/\Z4 a7=false/\FlK b ms es' at_ ((fsN ms s).take i)/\at_<es'.length+1/\es'.length+1<=most/\sA b es' at_=s) ⟨es,a6,a7,rfl,d6,d7,hK,hlt,hmo,hs⟩ ?_ ?_
  ·rintro i u ρ hu ⟨es',a6,a7,rfl,d6,d7,hK',hlt',hmo',hs'⟩
   rw [List.getElem?_map] at hu
   cases hq:(fsN ms s)[i]? with
   | none=>rw [hq] at hu; cases hu
   | some k=>
    rw [hq] at hu
    cases hu
    obtain ⟨hi,hki⟩:=List.getElem?_eq_some_iff.mp hq
    have hkm:=fs_mem.mp (List.mem_of_getElem? hq)
    have htk:(fsN ms s).take (i+1)=(fsN ms s).take i ++ [k]:=by rw [List.take_succ,hq]; rfl
    have hT:∀ t∈(fsN ms s).take i,t<k:=fun t ht=>by rw [<- hki]; exact tq (nV ms s) hi t ht
    have hcl:∀ j,j<k->abN b ms es' at_ j=true->j∈(fsN ms s).take i:=fun j hj hab=>by
     unfold abN at hab
     rw [hs'] at hab
     exact vc (nV ms s) hi (fs_mem.mpr ⟨by omega,hab⟩) (by rw [hki]; exact hj)
    have hab:abN b ms es' at_ k=true:=by unfold abN; rw [hs']; exact hkm.2
    have hbh:bhN b ms es' at_ k=r9 s (mvN ms k):=by unfold bhN; rw [hs']
    have hbl:(r9 s (mvN ms k)).length=b.length:=by rw [iU]; exact hsl
    have hput:=da (stS b es') (.bl true) (r9 s (mvN ms k)) 3 [.par (.tup [tI b,tM_ ms]),.par (.int (most:Int)),.own (n6 b es'),.dic (stS b es'),.val (.int (at_:Int)),.val (tI s),.par (tI (r9 s (mvN ms k))),.par (.int (k:Int))] rfl (by rw [V9]; omega)
    dsimp only
    generalize hB:r9 s (mvN ms k)=B at *
    refine ⟨_,rfl,?_⟩
    exists rp18
    refine jG (fun h=>?_) (fun h=>?_)
    ·have h:=of_decide_eq_true h
     exists rp18
     exact ⟨es',_,_,rfl,rfl,rfl,by rw [htk]; exact hK'.known hl hT hcl (by rw [hbh]; exact h),hlt',hmo',hs'⟩
    ·have h:=of_decide_eq_false h
     rw [rK h] at hput
     exists rp18
     refine jG (fun h2=>?_) (fun h2=>?_)
     ·have h2:=of_decide_eq_true h2
      exists rp18
      exact ⟨es',false,rfl,hmo',.inr ⟨rfl,by omega,at_,_,k,hK',hlt',hkm.1,hT,hab,by rw [hbh]; exact h⟩⟩
     ·have h2:=of_decide_eq_false h2
      exists hput,O3 (Q7 B)
      refine ⟨es' ++ [(B,at_,k)],.par (tI B),.par (.int (k:Int)),?_,rfl,rfl,?_,?_,?_,?_⟩
      ·simp [n6,stS]
      ·rw [htk,<- hbh]
       exact hK'.snoc hl hlt' hkm.1 hT hcl hab (by rw [hbh]; exact hbl) (by rw [hbh]; exact h)
      ·rw [List.length_append]; omega
      ·rw [List.length_append,List.length_singleton]; omega
      ·rw [jC hlt']; exact hs'
  ·rintro ρ ⟨es',a6,a7,rfl,d6,d7,hK',hlt',hmo',hs'⟩
   rw [List.length_map,List.take_length] at hK'
   exists rp18
   refine ⟨m-1,by omega,es',at_+1,_,_,_,rfl,rfl,d6,d7,hK'.next fun k hk hab=>fs_mem.mpr ⟨hk,?_⟩,by omega,hmo',by omega⟩
   unfold abN at hab
   rw [hs'] at hab
   exact hab
 ·refine ⟨false,?_,?_⟩
  ·exists rp18
   rw [show decide ((at_:Int)<((es.length+1:Nat):Int))=false from decide_eq_false (by omega)]
  ·rw [if_neg Bool.false_ne_true]
   have e:at_=es.length+1:=by omega
   subst e
   exists rp18
   exact ⟨es,true,rfl,hmo,.inl ⟨rfl,hK⟩⟩
def kG (b:List Int):Option Ent->W
 | none=>r0 b
 | some e=>eW e
def stO (b:List Int):Option Ent->List Int
 | none=>b
 | some e=>e.1
theorem xl (b:List Int) (es:List Ent):n6 b es=(none::es.map some).map (kG b):=by
 rw [List.map_cons,List.map_map]; rfl
theorem st_O (b:List Int) (es:List Ent):(none::es.map some).map (stO b)=stS b es:=by
 rw [List.map_cons,List.map_map]; rfl
inductive Pt (es:List Ent):Nat->List Int->List Int->Prop where
 | zero:Pt es 0 [0] []
 | succ {i:Nat} {e:Ent} {l r:List Int}:es[i]?=some e->Pt es e.2.1 l r->Pt es (i+1) (((i+1:Nat):Int)::l) (r ++ [(e.2.2:Int)])
theorem Pt.ex {es:List Ent} (hp:∀ (i:Nat) (e:Ent),es[i]?=some e->e.2.1<=i):∀ n,n<=es.length->∃ l r,Pt es n l r:=by
 intro n
 induction n using Nat.strongRecOn with
 | _ n ih=>
  intro hn
  cases n with
  | zero=>exact ⟨_,_,.zero⟩
  | succ i=>
   have hi:es[i]?=some es[i]:=List.getElem?_eq_getElem (by omega)
   have:=hp i _ hi
   obtain ⟨l,r,p⟩:=ih es[i].2.1 (by omega) (by omega)
   exact ⟨_,_,.succ hi p⟩
theorem Pt.len {es:List Ent} (hp:∀ (i:Nat) (e:Ent),es[i]?=some e->e.2.1<=i):∀ {n:Nat} {l r:List Int},Pt es n l r->l.length=r.length+1/\r.length<=n
 | _,_,_,.zero=>⟨rfl,Nat.le_refl _⟩
 | _,_,_,.succ h p=>by
  have:=Pt.len hp p
  have:=hp _ _ h
  rw [List.length_cons,List.length_append,List.length_singleton]
  omega
def ru (ms:List Mv) (b r:List Int):List Int:=r.foldl (fun s k=>r9 s (mvN ms k.toNat)) b
theorem jD {b:List Int} {es:List Ent} {i:Nat} {e:Ent} (h:es[i]?=some e):L2.atI (n6 b es) ((i+1:Nat):Int)=some (eW e):=C3 (k:=i+1) (by show (es.map eW)[i]?=_; rw [List.getElem?_map,h]; rfl)
theorem jr {b:List Int} {es:List Ent} {n:Nat} {l r:List Int} (hp:∀ (i:Nat) (e:Ent),es[i]?=some e->e.2.1<=i) (hl:es.length<=100) (hn:n<=es.length) (p:Pt es n l r):K8 [.lst (n6 b es),.int (n:Int)]=.ok (lI l):=by
 have fin:Ok (K8 [.lst (n6 b es),.int (n:Int)]) fun v=>v=lI l:=by
  have hll:=(Pt.len hp p).1
  have hlr:=(Pt.len hp p).2
  exists rpB,dD
  refine t7 (Q6 ?_)
  refine Y6 (fun m ρ=>∃ (xs l':List Int) (w:W) (a3:Sl),ρ = [.par (.lst (n6 b es)),.par (.int (n:Int)),.own (xs.map W.int),a3]/\(a3=.val w\/a3=.par w)/\xs++l'=l/\((w=.non/\l' = [])\/∃ (n':Nat) (r':List Int),w=.int (n':Int)/\Pt es n' l' r'/\n'<m)) ?_ (n+1) _ ⟨[],l,.int (n:Int),.val (.int (n:Int)),rfl,.inl rfl,rfl,.inr ⟨n,r,rfl,p,Nat.lt_succ_self n⟩⟩
  rintro m ρ ⟨xs,l',w,a3,rfl,ha,hx,hc⟩
  rcases hc with ⟨rfl,rfl⟩ | ⟨n',r',rfl,p',hm⟩
  ·refine ⟨false,?_,?_⟩
   ·rcases ha with rfl | rfl
    ·exists rp18
    ·exists rp18
   ·rw [if_neg Bool.false_ne_true]
    rw [List.append_nil] at hx
    subst hx
    exists rp18
  ·refine ⟨true,?_,?_⟩
   ·rcases ha with rfl | rfl
    ·exists rp18
    ·exists rp18
   ·rw [if_pos rfl]
    have hxl:xs.length<=l.length:=by rw [<- hx,List.length_append]; omega
    cases p' with
    | zero=>
     have r00:L2.atI (n6 b es) (((0:Nat)):Int)=some (r0 b):=C3 (k:=0) rfl
     have r01:L2.atI (n6 b es) 0=some (r0 b):=r00
     have b1:L2.atI [tI b,W.non,W.non] 1=some W.non:=rfl
     rcases ha with rfl | rfl
     ·exists r00,r01,b1
      exact ⟨0,by omega,xs ++ [0],[],.non,_,by rw [List.map_append],.inr rfl,by simpa using hx,.inl ⟨rfl,rfl⟩⟩
     ·exists r00,r01,b1
      exact ⟨0,by omega,xs ++ [0],[],.non,_,by rw [List.map_append],.inr rfl,by simpa using hx,.inl ⟨rfl,rfl⟩⟩
    | @succ i e l2 r2 h p2=>
     have r1:=jD (b:=b) h
     have b1:L2.atI [tI e.1,.int (e.2.1:Int),.int (e.2.2:Int)] 1=some (.int (e.2.1:Int)):=rfl
     have hpi:=hp i e h
     have hx2:(xs ++ [((i+1:Nat):Int)])++l2=l:=by rw [<- hx]; simp
     rcases ha with rfl | rfl
     ·exists r1,b1
      exact ⟨i+1,by omega,xs ++ [((i+1:Nat):Int)],l2,.int (e.2.1:Int),_,by rw [List.map_append],.inr rfl,hx2,.inr ⟨e.2.1,r2,rfl,p2,by omega⟩⟩
     ·exists r1,b1
      exact ⟨i+1,by omega,xs ++ [((i+1:Nat):Int)],l2,.int (e.2.1:Int),_,by rw [List.map_append],.inr rfl,hx2,.inr ⟨e.2.1,r2,rfl,p2,by omega⟩⟩
 obtain ⟨v,e,rfl⟩:=fin
 exact e
def v8:Nat->(Nat->Int)->Int
 | 0,_=>0
 | n+1,f=>f n-v8 n f
theorem ai {f g:Nat->Int}:∀ {n:Nat},(∀ k,k<n->f k=g k)->v8 n f=v8 n g
 | 0,_=>rfl
 | n+1,h=>by
  show f n-v8 n f=g n-v8 n g
  rw [h n (Nat.lt_succ_self n),ai fun k hk=>h k (Nat.lt_succ_of_lt hk)]
theorem iY (a b:Int) (f g:Nat->Int):∀ n:Nat,v8 n (fun k=>a*f k+b*g k)=a*v8 n f+b*v8 n g
 | 0=>by simp [v8]
 | n+1=>by
  show (a*f n+b*g n)-v8 n (fun k=>a*f k+b*g k)=a*(f n-v8 n f)+b*(g n-v8 n g)
  rw [iY a b f g n,Int.mul_sub,Int.mul_sub]
  omega
theorem bG {f:Nat->Int}:∀ {n:Nat},(∀ k,k<n->f k=0)->v8 n f=0
 | 0,_=>rfl
 | n+1,h=>by
  show f n-v8 n f=0
  rw [h n (Nat.lt_succ_self n),bG fun k hk=>h k (Nat.lt_succ_of_lt hk)]; rfl
theorem iX {f:Nat->Int} {i:Nat}:∀ {n:Nat},i+1<n->(∀ k,k<n->k≠i->k≠i+1->f k=0)->f i=f (i+1)->v8 n f=0
 | 0,h,_,_=>absurd h (Nat.not_lt_zero _)
 | n+1,h,hz,he=>by
  show f n-v8 n f=0
  by_cases e:n=i+1
  ·subst e
   show f (i+1)-(f i-v8 i f)=0
   rw [bG fun k hk=>hz k (by omega) (by omega) (by omega),he]
   omega
  ·rw [hz n (Nat.lt_succ_self n) (by omega) e,iX (n:=n) (by omega) (fun k hk=>hz k (by omega)) he]; rfl
def skp (k i:Nat):Nat:=if i<k then i else i+1
def det:Nat->(Nat->Nat->Int)->Int
 | 0,_=>1
 | n+1,v=>v8 (n+1) fun k=>v k n*det n fun i=>v (skp k i)
theorem mj {k i n:Nat} (h:i<n):skp k i<n+1:=by unfold skp; split <;> omega
theorem wP (k i:Nat):skp k i≠k:=by unfold skp; split <;> omega
theorem J9:∀ {n:Nat} {v w:Nat->Nat->Int},(∀ i,i<n->∀ p,p<n->v i p=w i p)->det n v=det n w
 | 0,_,_,_=>rfl
 | n+1,v,w,h=>ai fun k hk=>by
  rw [h k hk n (Nat.lt_succ_self n),J9 (n:=n) fun i hi p hp=>h (skp k i) (mj hi) p (Nat.lt_succ_of_lt hp)]
def upv (v:Nat->Nat->Int) (i:Nat) (x:Nat->Int):Nat->Nat->Int:=fun j=>if j=i then x else v j
theorem N3 (v:Nat->Nat->Int) (i:Nat) (x:Nat->Int):upv v i x i=x:=if_pos rfl
theorem F7 {v:Nat->Nat->Int} {i j:Nat} {x:Nat->Int} (h:j≠i):upv v i x j=v j:=if_neg h
theorem dU {v:Nat->Nat->Int} {i k:Nat} {x:Nat->Int} (h:k≠i):(fun j=>upv v i x (skp k j))=upv (fun j=>v (skp k j)) (if i<k then i else i-1) x:=by
 funext j
 unfold upv
 by_cases e:skp k j=i
 ·rw [if_pos e]
  have:j=if i<k then i else i-1:=by
   unfold skp at e
   split at e <;> split <;> omega
  rw [if_pos this]
 ·rw [if_neg e]
  have:j≠if i<k then i else i-1:=by
   unfold skp at e
   intro q
   apply e
   split at q <;> split <;> omega
  rw [if_neg this]
theorem Q2 {v:Nat->Nat->Int} {i:Nat} {x:Nat->Int}:(fun j=>upv v i x (skp i j))=fun j=>v (skp i j):=by
 funext j
 exact F7 (wP i j)
theorem J8 (a b:Int) (x y:Nat->Int):∀ (n:Nat) (v:Nat->Nat->Int) (i:Nat),i<n->det n (upv v i fun p=>a*x p+b*y p)=a*det n (upv v i x)+b*det n (upv v i y)
 | 0,_,_,h=>absurd h (Nat.not_lt_zero _)
 | n+1,v,i,h=>by
  show v8 (n+1) _=a*v8 (n+1) _+b*v8 (n+1) _
  rw [<- iY]
  refine ai fun k hk=>?_
  by_cases e:k=i
  ·subst e
   rw [N3,N3,N3,Q2,Q2,Q2,Int.add_mul,Int.mul_assoc,Int.mul_assoc]
  ·rw [F7 e,F7 e,F7 e,dU e,dU e,dU e,J8 a b x y n _ _ (by split <;> omega),Int.mul_add,<- Int.mul_assoc,<- Int.mul_assoc,<- Int.mul_assoc,<- Int.mul_assoc,Int.mul_comm (v k n) a,Int.mul_comm (v k n) b]
theorem bZ:∀ (n:Nat) (v:Nat->Nat->Int) (i:Nat),i+1<n->v i=v (i+1)->det n v=0
 | 0,_,_,h,_=>absurd h (Nat.not_lt_zero _)
 | n+1,v,i,h,e=>by
  refine iX (i:=i) h (fun k hk h1 h2=>?_) ?_
  ·have:det n (fun j=>v (skp k j))=0:=by
    by_cases q:k<i
    ·refine bZ n _ (i-1) (by omega) ?_
     show v (skp k (i-1))=v (skp k (i-1+1))
     unfold skp
     rw [if_neg (by omega),if_neg (by omega),show i-1+1=i by omega]
     exact e
    ·refine bZ n _ i (by omega) ?_
     show v (skp k i)=v (skp k (i+1))
     unfold skp
     rw [if_pos (by omega),if_pos (by omega)]
     exact e
   rw [this,Int.mul_zero]
  ·have:(fun j=>v (skp i j))=fun j=>v (skp (i+1) j):=by
    funext j
    unfold skp
    by_cases q:j<i
    ·rw [if_pos q,if_pos (by omega)]
    ·by_cases q2:j=i
     ·subst q2
      rw [if_neg (by omega),if_pos (by omega)]; exact e.symm
     ·rw [if_neg q,if_neg (by omega)]
   show v i n*det n (fun j=>v (skp i j))=v (i+1) n*det n (fun j=>v (skp (i+1) j))
   rw [this,e]
theorem E3 {v:Nat->Nat->Int} {i j:Nat} {x y:Nat->Int} (h:i≠j):upv (upv v i x) j y=upv (upv v j y) i x:=by
 funext k
 unfold upv
 by_cases q:k=j
 ·rw [if_pos q,if_neg (by omega),if_pos q]
 ·rw [if_neg q]
  by_cases q2:k=i
  ·rw [if_pos q2,if_pos q2]
  ·rw [if_neg q2,if_neg q2,if_neg q]
theorem L5 (v:Nat->Nat->Int) (i:Nat):upv v i (v i)=v:=by
 funext k
 unfold upv
 by_cases q:k=i
 ·rw [if_pos q,q]
 ·rw [if_neg q]
theorem tj (v:Nat->Nat->Int) (i:Nat) (x y:Nat->Int):upv (upv v i x) i y=upv v i y:=by
 funext k
 unfold upv
 by_cases q:k=i
 ·rw [if_pos q,if_pos q]
 ·rw [if_neg q,if_neg q,if_neg q]
theorem iF {n i j:Nat} (hi:i<n) (hj:j<n) (hij:i≠j) (h0:∀ (v:Nat->Nat->Int) (x:Nat->Int),det n (upv (upv v i x) j x)=0) (v:Nat->Nat->Int) (x y:Nat->Int):det n (upv (upv v i x) j y) =-det n (upv (upv v i y) j x):=by
 have h:=h0 v fun p=>1*x p+1*y p
 rw [J8 1 1 x y n _ j hj,E3 hij,J8 1 1 x y n _ i hi,E3 (i:=i) (j:=j) hij (x:=fun p=>1*x p+1*y p) (y:=y),J8 1 1 x y n _ i hi] at h
 have h1:=h0 v x
 have h2:=h0 v y
 rw [E3 hij] at h1 h2
 rw [E3 hij (x:=x) (y:=y),E3 hij (x:=y) (y:=x)]
 omega
theorem eZ {n:Nat}:∀ (d i:Nat),i+d+1<n->∀ (v:Nat->Nat->Int) (x:Nat->Int),det n (upv (upv v i x) (i+d+1) x)=0
 | 0,i,h,v,x=>bZ n _ i h (by rw [N3,F7 (by omega),N3])
 | d+1,i,h,v,x=>by
  have key:=iF (n:=n) (i:=i+d+1) (j:=i+d+1+1) (by omega) h (by omega) (fun v x=>bZ n _ (i+d+1) h (by rw [N3,F7 (by omega),N3])) (upv v i x) (v (i+d+1)) x
  have e1:upv (upv (upv v i x) (i+d+1) (v (i+d+1))) (i+d+1+1) x=upv (upv v i x) (i+(d+1)+1) x:=by
   have:upv (upv v i x) (i+d+1) (v (i+d+1))=upv v i x:=by
    have h2:=L5 (upv v i x) (i+d+1)
    rwa [F7 (show i+d+1≠i by omega)] at h2
   rw [this,show i+(d+1)+1=i+d+1+1 by omega]
  rw [e1] at key
  rw [key,E3 (i:=i+d+1) (j:=i+d+1+1) (by omega),E3 (i:=i) (j:=i+d+1+1) (by omega),eZ d i (by omega)]
  rfl
theorem kg {n i j:Nat} (hi:i<n) (hj:j<n) (hij:i≠j) (v:Nat->Nat->Int) (x:Nat->Int):det n (upv (upv v i x) j x)=0:=by
 rcases Nat.lt_or_gt_of_ne hij with q | q
 ·have:=eZ (n:=n) (j-i-1) i (by omega) v x
  rwa [show i+(j-i-1)+1=j by omega] at this
 ·have:=eZ (n:=n) (i-j-1) j (by omega) v x
  rw [show j+(i-j-1)+1=i by omega] at this
  rw [E3 hij]; exact this
theorem eY {n i k:Nat} (hi:i<n) (hk:k<n) (hik:k≠i) (v:Nat->Nat->Int):det n (upv v i (v k))=0:=by
 have:=kg hk hi hik v (v k)
 rwa [L5] at this
theorem rp {n i r:Nat} (hi:i<n) (hr:r<n) (hir:r≠i) (v:Nat->Nat->Int) (c:Nat->Int):det n (upv (upv v r c) i (v r)) =-det n (upv v i c):=by
 rw [iF hr hi hir (kg hr hi hir) v c (v r),L5]
theorem dR {f:Nat->Int} {B:Int}:∀ {n:Nat},(∀ k,k<n->-B<=f k/\f k<=B)->-((n:Int)*B)<=v8 n f/\v8 n f<=(n:Int)*B
 | 0,_=>by simp [v8]
 | n+1,h=>by
  have h1:=h n (Nat.lt_succ_self n)
  have h2:=dR (n:=n) fun k hk=>h k (Nat.lt_succ_of_lt hk)
  show -(((n+1:Nat):Int)*B)<=f n-v8 n f/\f n-v8 n f<=((n+1:Nat):Int)*B
  have e:((n+1:Nat):Int)*B=(n:Int)*B+B:=by
   rw [show ((n+1:Nat):Int)=(n:Int)+1 by omega,Int.add_mul,Int.one_mul]
  rw [e]
  omega
theorem iE:∀ n:Nat,det n (fun i p=>if i=p then 1 else 0)=1
 | 0=>rfl
 | n+1=>by
  show (if n=n then (1:Int) else 0)*det n (fun i p=>if skp n i=p then 1 else 0)-v8 n (fun k=>(if k=n then (1:Int) else 0)*det n (fun i p=>if skp k i=p then 1 else 0))=1
  have h1:det n (fun i p=>if skp n i=p then (1:Int) else 0)=1:=by
   refine (J9 fun i hi p hp=>?_).trans (iE n)
   unfold skp
   rw [if_pos hi]
  rw [if_pos rfl,h1,bG]
  ·rfl
  ·intro k hk
   rw [if_neg (by omega),Int.zero_mul]
def c6:Nat->(Nat->Int)->Int
 | 0,_=>0
 | n+1,f=>c6 n f+f n
theorem i5 {f g:Nat->Int}:∀ {n:Nat},(∀ k,k<n->f k=g k)->c6 n f=c6 n g
 | 0,_=>rfl
 | n+1,h=>by
  show c6 n f+f n=c6 n g+g n
  rw [h n (Nat.lt_succ_self n),i5 fun k hk=>h k (Nat.lt_succ_of_lt hk)]
theorem m5 (a:Int) (f:Nat->Int):∀ n:Nat,c6 n (fun k=>a*f k)=a*c6 n f
 | 0=>by simp [c6]
 | n+1=>by
  show c6 n (fun k=>a*f k)+a*f n=a*(c6 n f+f n)
  rw [m5 a f n,Int.mul_add]
theorem C6 (f g:Nat->Int):∀ n:Nat,c6 n (fun k=>f k+g k)=c6 n f+c6 n g
 | 0=>rfl
 | n+1=>by
  show c6 n (fun k=>f k+g k)+(f n+g n)=c6 n f+f n+(c6 n g+g n)
  rw [C6 f g n]; omega
theorem w6 {f:Nat->Int}:∀ {n:Nat},(∀ k,k<n->f k=0)->c6 n f=0
 | 0,_=>rfl
 | n+1,h=>by
  show c6 n f+f n=0
  rw [h n (Nat.lt_succ_self n),w6 fun k hk=>h k (Nat.lt_succ_of_lt hk)]; rfl
theorem P8 {f g:Nat->Int} {r:Nat}:∀ {n:Nat},r<n->(∀ k,k<n->k≠r->f k=g k)->c6 n f=c6 n g+(f r-g r)
 | 0,h,_=>absurd h (Nat.not_lt_zero _)
 | n+1,h,e=>by
  show c6 n f+f n=c6 n g+g n+(f r-g r)
  by_cases q:r=n
  ·subst q
   rw [i5 fun k hk=>e k (by omega) (by omega)]; omega
  ·rw [P8 (n:=n) (by omega) fun k hk=>e k (by omega),e n (Nat.lt_succ_self n) (by omega)]; omega
theorem C5 {f:Nat->Int} {r n:Nat} (h:r<n) (e:∀ k,k<n->k≠r->f k=0):c6 n f=f r:=by
 rw [P8 (g:=fun _=>0) h e,w6 fun _ _=>rfl]; omega
theorem T4 (f:Nat->Nat->Int) (m:Nat):∀ n:Nat,c6 n (fun i=>c6 m fun j=>f i j)=c6 m fun j=>c6 n fun i=>f i j
 | 0=>(w6 fun _ _=>rfl).symm
 | n+1=>by
  show c6 n (fun i=>c6 m fun j=>f i j)+c6 m (fun j=>f n j)=c6 m fun j=>(c6 n fun i=>f i j)+f n j
  rw [T4 f m n,C6]
theorem U5 {f:Nat->Int}:∀ {n:Nat},(∀ k,k<n->f k<=0)->c6 n f<=0
 | 0,_=>Int.le_refl 0
 | n+1,h=>by
  have h1:=h n (Nat.lt_succ_self n)
  have h2:=U5 (n:=n) fun k hk=>h k (Nat.lt_succ_of_lt hk)
  show c6 n f+f n<=0
  omega
theorem ph {f:Nat->Int} {r n:Nat} (hr:r<n) (h:∀ k,k<n->f k<=0) (hn:f r<0):c6 n f<0:=by
 have h1:=P8 (f:=f) (g:=fun k=>if k=r then 0 else f k) hr fun k _ q=>by rw [if_neg q]
 have h2:c6 n (fun k=>if k=r then 0 else f k)<=0:=U5 fun k hk=>by
  show (if k=r then 0 else f k)<=0
  split
  ·exact Int.le_refl 0
  ·exact h k hk
 rw [h1]
 simp only [if_pos]
 omega
theorem bY {m i:Nat} (hi:i<m) (v:Nat->Nat->Int) (a:Nat->Int) (x:Nat->Nat->Int):∀ n:Nat,det m (upv v i fun p=>c6 n fun k=>a k*x k p)=c6 n fun k=>a k*det m (upv v i (x k))
 | 0=>by
  show det m (upv v i fun _=>0)=0
  have:=J8 0 0 (fun _=>0) (fun _=>0) m v i hi
  simp only [Int.zero_mul,Int.add_zero] at this
  exact this
 | n+1=>by
  show det m (upv v i fun p=>(c6 n fun k=>a k*x k p)+a n*x n p)=(c6 n fun k=>a k*det m (upv v i (x k)))+a n*det m (upv v i (x n))
  rw [<- bY hi v a x n]
  have:=J8 1 (a n) (fun p=>c6 n fun k=>a k*x k p) (x n) m v i hi
  simp only [Int.one_mul] at this
  exact this
structure Tab (m n:Nat) (A:Nat->Nat->Int) (c:Nat->Int) (h:Nat->Nat) (t:Nat->Nat->Int) (o:Nat->Int) (d:Int):Prop where
 dp:0<d
 hn:∀ i,i<m->h i<n
 dd:d=det m fun i=>A (h i)
 tt:∀ i,i<m->∀ j,j<n->t i j=det m (upv (fun i=>A (h i)) i (A j))
 cr:∀ j,j<n->∀ p,p<m->d*A j p=c6 m fun i=>t i j*A (h i) p
 oo:∀ j,j<n->o j=d*c j-c6 m fun i=>c (h i)*t i j
def hup (h:Nat->Nat) (r s:Nat):Nat->Nat:=fun i=>if i=r then s else h i
section
variable {m n:Nat} {A:Nat->Nat->Int} {c:Nat->Int} {h:Nat->Nat} {t:Nat->Nat->Int} {o:Nat->Int} {d:Int}
theorem Tab.unit (T:Tab m n A c h t o d) {i k:Nat} (hi:i<m) (hk:k<m):t i (h k)=if i=k then d else 0:=by
 rw [T.tt i hi _ (T.hn k hk)]
 by_cases e:i=k
 ·subst e
  rw [if_pos rfl,T.dd]
  exact congrArg (det m) (L5 (fun i=>A (h i)) i)
 ·rw [if_neg e]
  exact eY hi hk (fun q=>e q.symm) fun i=>A (h i)
theorem Tab.ozero (T:Tab m n A c h t o d) {k:Nat} (hk:k<m):o (h k)=0:=by
 rw [T.oo _ (T.hn k hk),C5 (r:=k) hk fun i hi q=>by rw [T.unit hi hk,if_neg q,Int.mul_zero],T.unit hk hk,if_pos rfl,Int.mul_comm]
 omega
theorem kX {r s:Nat}:(fun i=>A (hup h r s i))=upv (fun i=>A (h i)) r (A s):=by
 funext i
 unfold hup upv
 by_cases e:i=r
 ·rw [if_pos e,if_pos e]
 ·rw [if_neg e,if_neg e]
theorem Tab.step (T:Tab m n A c h t o d) {r s:Nat} (hr:r<m) (hs:s<n) {i j:Nat} (hi:i<m) (hj:j<n) (hir:i≠r):d*det m (upv (fun i=>A (hup h r s i)) i (A j))=t i j*t r s-t i s*t r j:=by
 rw [kX]
 obtain ⟨v,hv⟩:∃ v:Nat->Nat->Int,v=fun i=>A (h i):=⟨_,rfl⟩
 have e1:d*det m (upv (upv v r (A s)) i (A j))=det m (upv (upv v r (A s)) i fun p=>d*A j p):=by
  have:=J8 d 0 (A j) (A j) m (upv v r (A s)) i hi
  simp only [Int.zero_mul,Int.add_zero] at this
  exact this.symm
 have e2:det m (upv (upv v r (A s)) i fun p=>d*A j p)=det m (upv (upv v r (A s)) i fun p=>c6 m fun k=>t k j*v k p):=by
  refine J9 fun a ha p hp=>?_
  unfold upv
  by_cases q:a=i
  ·rw [if_pos q,if_pos q,T.cr j hj p hp,hv]
  ·rw [if_neg q,if_neg q]
 rw [<- hv,e1,e2,bY hi]
 have hd:det m (upv (upv v r (A s)) i (v i))=t r s:=by
  have:upv (upv v r (A s)) i (v i)=upv v r (A s):=by
   have:=L5 (upv v r (A s)) i
   rwa [F7 hir] at this
  rw [this,T.tt r hr s hs,hv]
 have hrr:det m (upv (upv v r (A s)) i (v r)) =-t i s:=by
  rw [rp hi hr (fun q=>hir q.symm),T.tt i hi s hs,hv]
 rw [P8 (r:=i) (g:=fun k=>if k=r then t r j*(- t i s) else 0) hi fun k hk q=>by
  show t k j*det m (upv (upv v r (A s)) i (v k))=if k=r then t r j*(- t i s) else 0
  by_cases q2:k=r
  ·rw [if_pos q2,q2,hrr]
  ·rw [if_neg q2]
   have:=eY hi hk q (upv v r (A s))
   rw [F7 q2] at this
   rw [this,Int.mul_zero]]
 rw [C5 (r:=r) hr fun k _ q=>if_neg q,hd]
 simp only [if_pos,if_neg hir]
 rw [Int.mul_neg,Int.mul_comm (t r j)]
 omega
theorem Tab.inj (T:Tab m n A c h t o d) {i k:Nat} (hi:i<m) (hk:k<m) (e:h i=h k):i=k:=by
 have h1:=T.unit hi hk
 rw [<- e,T.unit hi hi,if_pos rfl] at h1
 have:=T.dp
 by_cases q:i=k
 ·exact q
 ·rw [if_neg q] at h1; omega
theorem Tab.pivot (T:Tab m n A c h t o d) {r s:Nat} (hr:r<m) (hs:s<n) (hp:0<t r s) {t':Nat->Nat->Int} {o':Nat->Int} (h1:∀ j,j<n->t' r j=t r j) (h2:∀ i,i<m->i≠r->∀ j,j<n->d*t' i j=t i j*t r s-t i s*t r j) (h3:∀ j,j<n->d*o' j=o j*t r s-o s*t r j):Tab m n A c (hup h r s) t' o' (t r s):=by
 have hd:=T.dp
 have can:∀ {x y:Int},d*x=d*y->x=y:=fun e=>Int.eq_of_mul_eq_mul_left (by omega) e
 have hne:∀ i,i≠r->hup h r s i=h i:=fun i q=>if_neg q
 have hrr:hup h r s r=s:=if_pos rfl
 -- sums over the new lines, times d
 have key:∀ (j:Nat),j<n->∀ g:Nat->Int,d*c6 m (fun i=>g (hup h r s i)*t' i j)=t r s*c6 m (fun i=>g (h i)*t i j)-t r j*c6 m (fun i=>g (h i)*t i s)+d*(g s*t r j):=fun j hj g=>by
  rw [<- m5,P8 (r:=r) (g:=fun i=>t r s*(g (h i)*t i j)+(- t r j)*(g (h i)*t i s)) hr fun i hi q=>by
   show d*(g (hup h r s i)*t' i j)=t r s*(g (h i)*t i j)+(- t r j)*(g (h i)*t i s)
   rw [hne i q,show d*(g (h i)*t' i j)=g (h i)*(d*t' i j) by rw [<- Int.mul_assoc,Int.mul_comm d,Int.mul_assoc],h2 i hi q j hj,Int.mul_sub,Int.neg_mul,show t r s*(g (h i)*t i j)=g (h i)*(t i j*t r s) by rw [Int.mul_comm (t r s),Int.mul_assoc],show t r j*(g (h i)*t i s)=g (h i)*(t i s*t r j) by rw [Int.mul_comm (t r j),Int.mul_assoc]]
   omega]
  rw [C6,m5,m5,hrr,h1 j hj,Int.neg_mul,Int.neg_mul,show t r s*(g (h r)*t r j)=t r j*(g (h r)*t r s) by rw [Int.mul_comm (g (h r)) (t r j),<- Int.mul_assoc,Int.mul_comm (t r s),Int.mul_assoc,Int.mul_comm (t r s)]]
  omega
 exact {
  dp:=hp
  hn:=fun i hi=>by
   by_cases q:i=r
   ·rw [q,hrr]; exact hs
   ·rw [hne i q]; exact T.hn i hi
  dd:=by rw [kX]; exact T.tt r hr s hs
  tt:=fun i hi j hj=>by
   by_cases q:i=r
   ·subst q
    rw [h1 j hj,kX,tj]; exact T.tt i hi j hj
   ·refine can ?_
    rw [h2 i hi q j hj,T.step hr hs hi hj q]
  cr:=fun j hj p hp=>by
   refine can ?_
   have e1:=key j hj fun a=>A a p
   have e2:c6 m (fun i=>A (h i) p*t i j)=d*A j p:=by
    rw [T.cr j hj p hp]; exact i5 fun i _=>Int.mul_comm _ _
   have e3:c6 m (fun i=>A (h i) p*t i s)=d*A s p:=by
    rw [T.cr s hs p hp]; exact i5 fun i _=>Int.mul_comm _ _
   have e4:c6 m (fun i=>t' i j*A (hup h r s i) p)=c6 m (fun i=>A (hup h r s i) p*t' i j):=i5 fun i _=>Int.mul_comm _ _
   rw [e4,e1,e2,e3,show t r j*(d*A s p)=d*(A s p*t r j) by rw [Int.mul_comm (t r j),Int.mul_assoc],show d*(t r s*A j p)=t r s*(d*A j p) by rw [<- Int.mul_assoc,Int.mul_comm d,Int.mul_assoc]]
   omega
  oo:=fun j hj=>by
   refine can ?_
   have e1:=key j hj c
   have e2:c6 m (fun i=>c (h i)*t i j)=d*c j-o j:=by rw [T.oo j hj]; omega
   have e3:c6 m (fun i=>c (h i)*t i s)=d*c s-o s:=by rw [T.oo s hs]; omega
   rw [h3 j hj,Int.mul_sub,e1,e2,e3,Int.mul_sub,Int.mul_sub,show t r j*(d*c s)=d*(c s*t r j) by rw [Int.mul_comm (t r j),Int.mul_assoc],show d*(t r s*c j)=t r s*(d*c j) by rw [<- Int.mul_assoc,Int.mul_comm d,Int.mul_assoc],Int.mul_comm (o j),Int.mul_comm (o s)]
   omega }
theorem Tab.ker (T:Tab m n A c h t o d) {y:Nat->Int} (hy:∀ p,p<m->c6 n (fun j=>y j*A j p)=0):c6 n (fun j=>o j*y j)=d*c6 n (fun j=>c j*y j):=by
 have hz:∀ i,i<m->c6 n (fun j=>y j*t i j)=0:=fun i hi=>by
  have e:c6 n (fun j=>y j*t i j)=c6 n (fun j=>y j*det m (upv (fun i=>A (h i)) i (A j))):=i5 fun j hj=>by rw [T.tt i hi j hj]
  rw [e,<- bY hi]
  have e2:det m (upv (fun i=>A (h i)) i fun p=>c6 n fun k=>y k*A k p)=det m (upv (fun i=>A (h i)) i fun p=>0*(0:Int)+0*0):=J9 fun a _ p hp=>by
   unfold upv
   by_cases q:a=i
   ·rw [if_pos q,if_pos q,hy p hp]; rfl
   ·rw [if_neg q,if_neg q]
  rw [e2,J8 0 0 (fun _=>0) (fun _=>0) m _ i hi,Int.zero_mul]; rfl
 have e:c6 n (fun j=>o j*y j)=c6 n (fun j=>d*(c j*y j)+(-1)*c6 m (fun i=>c (h i)*(y j*t i j))):=i5 fun j hj=>by
  show o j*y j=_
  rw [T.oo j hj,Int.sub_mul,Int.mul_assoc,Int.mul_comm (c6 m _),<- m5,show c6 m (fun k=>y j*(c (h k)*t k j))=c6 m (fun i=>c (h i)*(y j*t i j)) from i5 fun i _=>by rw [<- Int.mul_assoc,Int.mul_comm (y j),Int.mul_assoc]]
  omega
 have e3:c6 m (fun i=>c6 n fun j=>c (h i)*(y j*t i j))=0:=w6 fun i hi=>by
  show c6 n (fun j=>c (h i)*(y j*t i j))=0
  rw [m5,hz i hi,Int.mul_zero]
 rw [e,C6,m5,m5,T4,e3]
 omega
def n0 (m:Nat) (h:Nat->Nat) (t:Nat->Nat->Int) (d:Int) (s j:Nat):Int:=(if j=s then d else 0)+(-1)*c6 m fun i=>if h i=j then t i s else 0
theorem Tab.dirSum (T:Tab m n A c h t o d) {s:Nat} (hs:s<n) (g:Nat->Int):c6 n (fun j=>g j*n0 m h t d s j)=g s*d-c6 m fun i=>g (h i)*t i s:=by
 have e:c6 n (fun j=>g j*n0 m h t d s j)=c6 n (fun j=>g j*(if j=s then d else 0)+(-1)*c6 m fun i=>g j*(if h i=j then t i s else 0)):=i5 fun j _=>by
  unfold n0
  rw [Int.mul_add,m5,<- Int.mul_assoc,Int.mul_comm (g j) (-1),Int.mul_assoc]
 rw [e,C6,m5,T4,C5 (r:=s) hs fun j _ q=>by rw [if_neg q,Int.mul_zero],if_pos rfl]
 have e2:c6 m (fun i=>c6 n fun j=>g j*(if h i=j then t i s else 0))=c6 m fun i=>g (h i)*t i s:=i5 fun i hi=>by
  rw [C5 (r:=h i) (T.hn i hi) fun j _ q=>by rw [if_neg (fun z=>q z.symm),Int.mul_zero],if_pos rfl]
 rw [e2]
 omega
theorem Tab.dirKer (T:Tab m n A c h t o d) {s:Nat} (hs:s<n):∀ p,p<m->c6 n (fun j=>n0 m h t d s j*A j p)=0:=fun p hp=>by
 have e:c6 n (fun j=>n0 m h t d s j*A j p)=c6 n (fun j=>A j p*n0 m h t d s j):=i5 fun j _=>Int.mul_comm _ _
 rw [e,T.dirSum hs fun j=>A j p,Int.mul_comm,T.cr s hs p hp,i5 (g:=fun i=>t i s*A (h i) p) fun i _=>Int.mul_comm _ _]
 omega
theorem Tab.dirO (T:Tab m n A c h t o d) {s:Nat} (hs:s<n):c6 n (fun j=>c j*n0 m h t d s j)=o s:=by
 rw [T.dirSum hs c,T.oo s hs,Int.mul_comm]
theorem Tab.dirB (T:Tab m n A c h t o d) {s i:Nat} (hi:i<m) (hsi:h i≠s):n0 m h t d s (h i) =-t i s:=by
 unfold n0
 rw [if_neg hsi,C5 (r:=i) hi fun k hk q=>if_neg fun e=>q (T.inj hk hi e),if_pos rfl]
 omega
theorem Tab.dirN {s j:Nat} (hj:∀ i,i<m->h i≠j) (hjs:j≠s):n0 m h t d s j=0:=by
 unfold n0
 rw [if_neg hjs,w6 fun i hi=>if_neg (hj i hi)]; rfl
theorem Tab.dirS {s:Nat} (hj:∀ i,i<m->h i≠s):n0 m h t d s s=d:=by
 unfold n0
 rw [if_pos rfl,w6 fun i hi=>if_neg (hj i hi)]
 omega
end
structure TB (m n:Nat) (A:Nat->Nat->Int) (c:Nat->Int) where
 h:Nat->Nat
 t:Nat->Nat->Int
 o:Nat->Int
 d:Int
 ok:Tab m n A c h t o d
def Bas {m n:Nat} {A:Nat->Nat->Int} {c:Nat->Int} (S:TB m n A c) (j:Nat):Prop:=∃ i,i<m/\S.h i=j
structure Mv_ {m n:Nat} {A:Nat->Nat->Int} {c:Nat->Int} (S S':TB m n A c) (e l:Nat):Prop where
 en:e<n
 eo:0<S.o e
 el:∀ j,j<e->S.o j<=0
 lv:∃ r,r<m/\S.h r=l/\0<S.t r e/\(∀ i,i<m->0<S.t i e->l<=S.h i)/\S'.h=hup S.h r e
section
variable {m n:Nat} {A:Nat->Nat->Int} {c:Nat->Int}
theorem Mv_.nb {S S':TB m n A c} {e l:Nat} (M:Mv_ S S' e l):¬ Bas S e:=fun zz101=>by
 obtain ⟨i,hi,q⟩:=zz101
 have:=S.ok.ozero hi
 rw [q] at this
 have:=M.eo
 omega
theorem Mv_.lb {S S':TB m n A c} {e l:Nat} (M:Mv_ S S' e l):Bas S l:=by
 obtain ⟨r,hr,q,_⟩:=M.lv
 exact ⟨r,hr,q⟩
theorem Mv_.bas {S S':TB m n A c} {e l:Nat} (M:Mv_ S S' e l) (j:Nat):Bas S' j↔j=e\/(Bas S j/\j≠l):=by
 obtain ⟨r,hr,q,_,_,hh⟩:=M.lv
 constructor
 ·rintro ⟨i,hi,e1⟩
  rw [hh] at e1
  unfold hup at e1
  by_cases z:i=r
  ·rw [if_pos z] at e1; exact .inl e1.symm
  ·rw [if_neg z] at e1
   refine .inr ⟨⟨i,hi,e1⟩,fun w=>z (S.ok.inj hi hr (by rw [e1,q,w]))⟩
 ·rintro (e1 | ⟨⟨i,hi,e1⟩,e2⟩)
  ·exact ⟨r,hr,by rw [hh,e1]; exact if_pos rfl⟩
  ·refine ⟨i,hi,?_⟩
   rw [hh]
   unfold hup
   rw [if_neg (fun z=>e2 (by rw [<- e1,z,q]))]; exact e1
theorem Cr {S1 S1' S2 S2':TB m n A c} {q l1 s:Nat} (M1:Mv_ S1 S1' q l1) (M2:Mv_ S2 S2' s q) (hsq:s<q) (hup:∀ j,q<j->j<n->Bas S2 j->Bas S1 j):False:=by
 obtain ⟨r,hr,hrq,hrt,hmin,_⟩:=M2.lv
 have hs:=M2.en
 have nb:=M2.nb
 have hq:=M1.en
 have k1:=S1.ok.ker (S2.ok.dirKer hs)
 rw [S2.ok.dirO hs] at k1
 have hpos:0<S1.d*S2.o s:=Int.mul_pos S1.ok.dp M2.eo
 have hneg:c6 n (fun j=>S1.o j*n0 m S2.h S2.t S2.d s j)<0:=by
  have hyq:n0 m S2.h S2.t S2.d s q =-S2.t r s:=by
   have:=S2.ok.dirB (s:=s) hr (by omega)
   rwa [hrq] at this
  refine ph hq (fun j hj=>?_) ?_
  ·show S1.o j*n0 m S2.h S2.t S2.d s j<=0
   by_cases j1:j=s
   ·subst j1
    rw [Tab.dirS fun i hi e=>nb ⟨i,hi,e⟩]
    exact Int.mul_nonpos_of_nonpos_of_nonneg (M1.el j hsq) (by have:=S2.ok.dp; omega)
   ·by_cases j2:Bas S2 j
    ·obtain ⟨i,hi,ei⟩:=j2
     have hy:=S2.ok.dirB (s:=s) hi (by omega)
     rw [ei] at hy
     rcases Nat.lt_trichotomy j q with z | z | z
     ·have h1:=M1.el j z
      have h2:¬ 0<S2.t i s:=fun w=>by have:=hmin i hi w; omega
      rw [hy]
      exact Int.mul_nonpos_of_nonpos_of_nonneg h1 (by omega)
     ·subst z
      rw [hyq]
      exact Int.mul_nonpos_of_nonneg_of_nonpos (by have:=M1.eo; omega) (by omega)
     ·obtain ⟨i1,hi1,e1⟩:=hup j z hj ⟨i,hi,ei⟩
      rw [<- e1,S1.ok.ozero hi1,Int.zero_mul]
      exact Int.le_refl 0
    ·rw [Tab.dirN (fun i hi e=>j2 ⟨i,hi,e⟩) j1,Int.mul_zero]
     exact Int.le_refl 0
  ·show S1.o q*n0 m S2.h S2.t S2.d s q<0
   rw [hyq,Int.mul_neg]
   have:=Int.mul_pos M1.eo hrt
   omega
 omega
theorem yj (q:Nat):2^(q+1)=2*2^q:=by rw [Nat.pow_succ,Nat.mul_comm]
theorem bL (S:Nat->TB m n A c) (e l:Nat->Nat):∀ (q a b:Nat),a<=b->(∀ i,a<=i->i<b->Mv_ (S i) (S (i+1)) (e i) (l i)/\e i<q/\l i<q)->b-a<2^q
 | 0,a,b,hab,h=>by
  by_cases z:a<b
  ·have:=(h a (Nat.le_refl a) z).2.1
   omega
  ·simp
   omega
 | q+1,a,b,hab,h=>by
  -- what stands above q stays
  have stay:∀ j,q<j->∀ k,a<=k->k<=b->(Bas (S k) j↔Bas (S a) j):=fun j hj k=>by
   induction k with
   | zero=>
    intro h1 _
    have:a=0:=by omega
    rw [this]
   | succ k ih=>
    intro h1 h2
    by_cases z:a=k+1
    ·rw [z]
    ·obtain ⟨M,m1,m2⟩:=h k (by omega) (by omega)
     rw [M.bas j,<- ih (by omega) (by omega)]
     constructor
     ·rintro (w | w)
      ·omega
      ·exact w.1
     ·exact fun w=>.inr ⟨w,by omega⟩
  have noboth:∀ i k,a<=i->i<b->a<=k->k<b->e i=q->l k=q->False:=fun i k i1 i2 k1 k2 hi hk=>by
   obtain ⟨Mi,_,_⟩:=h i i1 i2
   obtain ⟨Mk,mk,_⟩:=h k k1 k2
   rw [hi] at Mi
   rw [hk] at Mk
   have hne:e k≠q:=fun w=>Mk.nb (by rw [w]; exact Mk.lb)
   exact Cr Mi Mk (by omega) fun j hj _ hb=>(stay j hj i i1 (by omega)).mpr ((stay j hj k k1 (by omega)).mp hb)
  by_cases hex:∃ i,a<=i/\i<b/\(e i=q\/l i=q)
  ·have two:∀ i k,a<=i->i<k->k<b->(e i=q\/l i=q)->(e k=q\/l k=q)->False:=fun i k i1 ik kb hi hk=>by
    obtain ⟨Mi,_,_⟩:=h i i1 (by omega)
    obtain ⟨Mk,_,_⟩:=h k (by omega) kb
    rcases hi with hi | hi
    ·have nol:∀ x,a<=x->x<b->l x≠q:=fun x x1 x2 w=>noboth i x i1 (by omega) x1 x2 hi w
     have pers:∀ x,i+1<=x->x<=b->Bas (S x) q:=fun x=>by
      induction x with
      | zero=>intro w; omega
      | succ x ih=>
       intro x1 x2
       obtain ⟨M,_,_⟩:=h x (by omega) (by omega)
       by_cases z:x=i
       ·subst z
        exact (M.bas q).mpr (.inl hi.symm)
       ·exact (M.bas q).mpr (.inr ⟨ih (by omega) (by omega),fun w=>nol x (by omega) (by omega) w.symm⟩)
     rcases hk with hk | hk
     ·exact Mk.nb (by rw [hk]; exact pers k (by omega) (by omega))
     ·exact nol k (by omega) kb hk
    ·have noe:∀ x,a<=x->x<b->e x≠q:=fun x x1 x2 w=>noboth x i x1 x2 i1 (by omega) w hi
     have pers:∀ x,i+1<=x->x<=b->¬ Bas (S x) q:=fun x=>by
      induction x with
      | zero=>intro w; omega
      | succ x ih=>
       intro x1 x2 hb
       obtain ⟨M,_,_⟩:=h x (by omega) (by omega)
       rcases (M.bas q).mp hb with w | w
       ·exact noe x (by omega) (by omega) w.symm
       ·by_cases z:x=i
        ·subst z
         exact w.2 hi.symm
        ·exact ih (by omega) (by omega) w.1
     rcases hk with hk | hk
     ·exact noe k (by omega) kb hk
     ·exact pers k (by omega) (by omega) (by rw [<- hk]; exact Mk.lb)
   obtain ⟨i,i1,i2,hi⟩:=hex
   have h1:=bL S e l q a i i1 fun x x1 x2=>⟨(h x x1 (by omega)).1,by
    have:=(h x x1 (by omega)).2.1
    have:e x≠q:=fun w=>two x i x1 x2 i2 (.inl w) hi
    omega,by
    have:=(h x x1 (by omega)).2.2
    have:l x≠q:=fun w=>two x i x1 x2 i2 (.inr w) hi
    omega⟩
   have h2:=bL S e l q (i+1) b (by omega) fun x x1 x2=>⟨(h x (by omega) x2).1,by
    have:=(h x (by omega) x2).2.1
    have:e x≠q:=fun w=>two i x i1 (by omega) x2 hi (.inl w)
    omega,by
    have:=(h x (by omega) x2).2.2
    have:l x≠q:=fun w=>two i x i1 (by omega) x2 hi (.inr w)
    omega⟩
   rw [yj]
   omega
  ·have:=bL S e l q a b hab fun i i1 i2=>⟨(h i i1 i2).1,by
    have:=(h i i1 i2).2.1
    have:e i≠q:=fun w=>hex ⟨i,i1,i2,.inl w⟩
    omega,by
    have:=(h i i1 i2).2.2
    have:l i≠q:=fun w=>hex ⟨i,i1,i2,.inr w⟩
    omega⟩
   rw [yj]
   omega
theorem pA (S:Nat->TB m n A c) (e l:Nat->Nat) (L:Nat) (h:∀ i,i<L->Mv_ (S i) (S (i+1)) (e i) (l i)):L<2^n:=by
 have:=bL S e l n 0 L (Nat.zero_le _) fun i _ hi=>⟨h i hi,(h i hi).en,by
  obtain ⟨r,hr,q,_⟩:=(h i hi).lv
  rw [<- q]; exact (S i).ok.hn r hr⟩
 omega
end
theorem Y1 (f:Nat->Int) (k:Nat):∀ m:Nat,c6 (k+m) f=c6 k f+c6 m fun q=>f (k+q)
 | 0=>by show c6 k f=c6 k f+0; omega
 | m+1=>by
  show c6 (k+m) f+f (k+m)=c6 k f+((c6 m fun q=>f (k+q))+f (k+m))
  rw [Y1 f k m]; omega
structure Cols (k m pl:Nat) (st:Nat->Nat->Int) (A:Nat->Nat->Int) (c:Nat->Int):Prop where
 am:∀ j,j<k->∀ p,p<m->A j p =-st j p
 au:∀ q,q<m->∀ p,p<m->A (k+q) p=if q=p then 1 else 0
 cm:∀ j,j<k->c j=st j pl
 cu:∀ q,q<m->c (k+q)=0
section
variable {k m pl:Nat} {st A:Nat->Nat->Int} {c:Nat->Int} {h:Nat->Nat} {t:Nat->Nat->Int} {o:Nat->Int} {d:Int}
theorem Cols.comb (C:Cols k m pl st A c) (x:Nat->Int) {p:Nat} (hp:p<m):x p=c6 m fun q=>x q*A (k+q) p:=by
 rw [C5 (r:=p) hp fun q hq z=>by rw [C.au q hq p hp,if_neg z,Int.mul_zero],C.au p hp p hp,if_pos rfl,Int.mul_one]
theorem Cols.detc (C:Cols k m pl st A c) {i:Nat} (hi:i<m) (v:Nat->Nat->Int) (x:Nat->Int):det m (upv v i x)=c6 m fun q=>x q*det m (upv v i (A (k+q))):=by
 rw [<- bY hi v x fun q=>A (k+q)]
 refine J9 fun a _ p hp=>?_
 unfold upv
 by_cases z:a=i
 ·rw [if_pos z,if_pos z]; exact C.comb x hp
 ·rw [if_neg z,if_neg z]
theorem Cols.det1 (C:Cols k m pl st A c):det m (fun i=>A (k+i))=1:=(J9 fun i hi p hp=>C.au i hi p hp).trans (iE m)
theorem Cols.first (C:Cols k m pl st A c):Tab m (k+m) A c (fun i=>k+i) (fun i j=>A j i) c 1 where
 dp:=by decide
 hn i hi:=by omega
 dd:=C.det1.symm
 tt i hi j hj:=by
  rw [C.detc hi,C5 (r:=i) hi fun q hq z=>by
   have:=eY hi hq z fun i=>A (k+i)
   rw [this,Int.mul_zero]]
  have:=L5 (fun i=>A (k+i)) i
  have e:upv (fun i=>A (k+i)) i (A (k+i))=fun i=>A (k+i):=this
  rw [e,C.det1,Int.mul_one]
 cr j hj p hp:=by rw [Int.one_mul]; exact C.comb (A j) hp
 oo j hj:=by
  rw [Int.one_mul,w6 fun i hi=>by rw [C.cu i hi,Int.zero_mul]]; omega
theorem Cols.weights (C:Cols k m pl st A c) (T:Tab m (k+m) A c h t o d) (hpl:pl<m) {j:Nat} (hj:j<k):c6 m (fun p=>(- o (k+p)+d*(if p=pl then 1 else 0))*st j p)=o j:=by
 have ho:∀ q,q<m ->-o (k+q)=c6 m fun i=>c (h i)*t i (k+q):=fun q hq=>by
  rw [T.oo (k+q) (by omega),C.cu q hq,Int.mul_zero]; omega
 have ht:∀ i,i<m->t i j=c6 m fun q=>(- st j q)*t i (k+q):=fun i hi=>by
  rw [T.tt i hi j (by omega),C.detc hi]
  exact i5 fun q hq=>by rw [C.am j hj q hq,T.tt i hi (k+q) (by omega)]
 have e1:c6 m (fun p=>(- o (k+p)+d*(if p=pl then 1 else 0))*st j p)=c6 m (fun p=>st j p*(c6 m fun i=>c (h i)*t i (k+p))+d*((if p=pl then 1 else 0)*st j p)):=i5 fun p hp=>by
  rw [ho p hp,Int.add_mul,Int.mul_comm (c6 m _),Int.mul_assoc]
 have e2:c6 m (fun p=>st j p*(c6 m fun i=>c (h i)*t i (k+p))) =-c6 m (fun i=>c (h i)*t i j):=by
  have:c6 m (fun i=>c (h i)*t i j)=c6 m (fun i=>c6 m fun p=>(-1)*(st j p*(c (h i)*t i (k+p)))):=i5 fun i hi=>by
   rw [ht i hi,<- m5]
   exact i5 fun q _=>by
    rw [Int.neg_mul,Int.mul_neg,Int.neg_mul,Int.one_mul,<- Int.mul_assoc,<- Int.mul_assoc,Int.mul_comm (c (h i))]
  rw [this,T4]
  have:c6 m (fun p=>c6 m fun i=>(-1)*(st j p*(c (h i)*t i (k+p))))=c6 m (fun p=>(-1)*(st j p*c6 m fun i=>c (h i)*t i (k+p))):=i5 fun p _=>by
   rw [m5,m5]
  rw [this,m5]
  omega
 have e3:c6 m (fun p=>(if p=pl then 1 else 0)*st j p)=st j pl:=by
  rw [C5 (r:=pl) hpl fun p _ z=>by rw [if_neg z,Int.zero_mul],if_pos rfl,Int.one_mul]
 rw [e1,C6,m5,e2,e3,T.oo j (by omega),C.cm j hj]
 omega
theorem Cols.bag (C:Cols k m pl st A c) (T:Tab m (k+m) A c h t o d) {s:Nat} (hs:s<k+m):(∀ p,p<m->c6 k (fun j=>n0 m h t d s j*st j p)=n0 m h t d s (k+p))/\c6 k (fun j=>n0 m h t d s j*st j pl)=o s:=by
 refine ⟨fun p hp=>?_,?_⟩
 ·have e:=T.dirKer hs p hp
  rw [Y1,C5 (r:=p) hp fun q hq z=>by rw [C.au q hq p hp,if_neg z,Int.mul_zero],C.au p hp p hp,if_pos rfl,Int.mul_one] at e
  have e2:c6 k (fun j=>n0 m h t d s j*A j p)=(-1)*c6 k (fun j=>n0 m h t d s j*st j p):=by
   rw [<- m5]
   exact i5 fun j hj=>by rw [C.am j hj p hp,Int.mul_neg,Int.neg_mul,Int.one_mul]
  rw [e2] at e
  omega
 ·have e:=T.dirO hs
  rw [Y1,w6 (n:=m) fun q hq=>by rw [C.cu q hq,Int.zero_mul]] at e
  rw [<- e,Int.add_zero]
  exact i5 fun j hj=>by rw [C.cm j hj,Int.mul_comm]
theorem Tab.dirP {m n:Nat} {A:Nat->Nat->Int} {c:Nat->Int} (T:Tab m n A c h t o d) {s:Nat} (ho:0<o s) (hn:∀ i,i<m->t i s<=0) (j:Nat):0<=n0 m h t d s j:=by
 have nb:∀ i,i<m->h i≠s:=fun i hi e=>by
  have:=T.ozero hi
  rw [e] at this
  omega
 by_cases js:j=s
 ·subst js
  rw [Tab.dirS nb]
  have:=T.dp
  omega
 ·by_cases jb:∃ i,i<m/\h i=j
  ·obtain ⟨i,hi,e⟩:=jb
   have:=T.dirB (s:=s) hi (nb i hi)
   rw [e] at this
   have:=hn i hi
   omega
  ·rw [Tab.dirN (fun i hi e=>jb ⟨i,hi,e⟩) js]
   exact Int.le_refl 0
end
def dB (M:Int):Nat->Int
 | 0=>1
 | n+1=>((n+1:Nat):Int)*(M*dB M n)
theorem fq {a b A B:Int} (h1:-A<=a/\a<=A) (h2:-B<=b/\b<=B):-(A*B)<=a*b/\a*b<=A*B:=by
 have hA:a.natAbs<=A.natAbs:=by omega
 have hB:b.natAbs<=B.natAbs:=by omega
 have h:=Nat.mul_le_mul hA hB
 rw [<- Int.natAbs_mul,<- Int.natAbs_mul] at h
 have hp:0<=A*B:=Int.mul_nonneg (by omega) (by omega)
 omega
theorem bB {M:Int} (hM:0<=M):∀ (n:Nat) (v:Nat->Nat->Int),(∀ i,i<n->∀ p,p<n->-M<=v i p/\v i p<=M)->-dB M n<=det n v/\det n v<=dB M n
 | 0,_,_=>by show -(1:Int)<=1/\(1:Int)<=1; omega
 | n+1,v,h=>by
  have:=dR (B:=M*dB M n) (n:=n+1) (f:=fun k=>v k n*det n fun i=>v (skp k i)) fun k hk=>fq (h k hk n (Nat.lt_succ_self n)) (bB hM n _ fun i hi p hp=>h (skp k i) (mj hi) p (by omega))
  exact this
theorem dc {f:Nat->Int} {B:Int}:∀ {n:Nat},(∀ k,k<n->-B<=f k/\f k<=B)->-((n:Int)*B)<=c6 n f/\c6 n f<=(n:Int)*B
 | 0,_=>by show -(((0:Nat):Int)*B)<=0/\(0:Int)<=((0:Nat):Int)*B; simp
 | n+1,h=>by
  have ih:=dc fun k hk=>h k (Nat.lt_succ_of_lt hk)
  have h1:=h n (Nat.lt_succ_self n)
  have e:((n+1:Nat):Int)*B=(n:Int)*B+B:=by rw [Int.natCast_succ,Int.add_mul,Int.one_mul]
  have e2:c6 (n+1) f=c6 n f+f n:=rfl
  rw [e,e2]
  omega
abbrev mM:Int:=2000000000
theorem dB6 {m:Nat} (h:m<=6):dB mM m<=2^197:=by
 have:m=0\/m=1\/m=2\/m=3\/m=4\/m=5\/m=6:=by omega
 rcases this with rfl | rfl | rfl | rfl | rfl | rfl | rfl <;> decide
section
variable {m n:Nat} {A:Nat->Nat->Int} {c:Nat->Int} {h:Nat->Nat} {t:Nat->Nat->Int} {o:Nat->Int} {d:Int}
theorem Tab.bt (T:Tab m n A c h t o d) (hm:m<=6) (hA:∀ j,j<n->∀ p,p<m->-mM<=A j p/\A j p<=mM):∀ i,i<m->∀ j,j<n->-(2^197)<=t i j/\t i j<=2^197:=fun i hi j hj=>by
 have:=bB (M:=mM) (by decide) m (upv (fun i=>A (h i)) i (A j)) fun k hk p hp=>by
  by_cases e:k=i
  ·subst e; rw [N3]; exact hA j hj p hp
  ·rw [F7 e]; exact hA _ (T.hn k hk) p hp
 rw [<- T.tt i hi j hj] at this
 have:=dB6 hm
 omega
theorem Tab.bd (T:Tab m n A c h t o d) (hm:m<=6) (hA:∀ j,j<n->∀ p,p<m->-mM<=A j p/\A j p<=mM):d<=2^197:=by
 have:=bB (M:=mM) (by decide) m (fun i=>A (h i)) fun k hk p hp=>hA _ (T.hn k hk) p hp
 rw [<- T.dd] at this
 have:=dB6 hm
 omega
theorem Tab.bo (T:Tab m n A c h t o d) (hm:m<=6) (hA:∀ j,j<n->∀ p,p<m->-mM<=A j p/\A j p<=mM) (hc:∀ j,j<n->-mM<=c j/\c j<=mM):∀ j,j<n->-(2^240)<=o j/\o j<=2^240:=fun j hj=>by
 have b1:=fq (a:=d) (A:=2^197) ⟨by have:=T.dp; omega,T.bd hm hA⟩ (hc j hj)
 have b2:=dc (f:=fun i=>c (h i)*t i j) (B:=mM*2^197) (n:=m) fun i hi=>fq (hc _ (T.hn i hi)) (T.bt hm hA i hi j hj)
 have e:(m:Int)*(mM*2^197)<=6*(mM*2^197):=Int.mul_le_mul_of_nonneg_right (by omega) (by decide)
 rw [T.oo j hj]
 have k1:(2:Int)^197*mM+6*(mM*2^197)<=2^240:=by decide
 omega
end
structure Lv (m:Nat) (h:Nat->Nat) (t:Nat->Nat->Int) (s r:Nat):Prop where
 lt:r<m
 pos:0<t r s
 least:∀ i,i<m->0<t i s->h r<=h i
inductive Run {m n:Nat} {A:Nat->Nat->Int} {c:Nat->Int} (S0:TB m n A c):Nat->TB m n A c->Prop where
 | zero:Run S0 0 S0
 | succ {L:Nat} {S S':TB m n A c} {e l:Nat}:Run S0 L S->Mv_ S S' e l->Run S0 (L+1) S'
theorem Run.seq {m n:Nat} {A:Nat->Nat->Int} {c:Nat->Int} {S0:TB m n A c}:∀ {L:Nat} {S:TB m n A c},Run S0 L S->∃ (F:Nat->TB m n A c) (e l:Nat->Nat),F L=S/\∀ i,i<L->Mv_ (F i) (F (i+1)) (e i) (l i)
 | _,_,.zero=>⟨fun _=>S0,fun _=>0,fun _=>0,rfl,fun i hi=>absurd hi (Nat.not_lt_zero _)⟩
 | _,_,.succ (L:=L) (S:=S) (S':=S') (e:=e) (l:=l) r mv=>by
  obtain ⟨F,es,ls,eF,hF⟩:=r.seq
  refine ⟨fun i=>if i<=L then F i else S',fun i=>if i<L then es i else e,fun i=>if i<L then ls i else l,if_neg (by omega),fun i hi=>?_⟩
  by_cases q:i<L
  ·dsimp only
   rw [if_pos (by omega),if_pos (by omega),if_pos q,if_pos q]
   exact hF i q
  ·have:i=L:=by omega
   subst this
   dsimp only
   rw [if_pos (Nat.le_refl _),if_neg (by omega),if_neg (Nat.lt_irrefl _),if_neg (Nat.lt_irrefl _),eF]
   exact mv
theorem Run.lt {m n:Nat} {A:Nat->Nat->Int} {c:Nat->Int} {S0:TB m n A c} {L:Nat} {S:TB m n A c} (r:Run S0 L S):L<2^n:=by
 obtain ⟨F,e,l,_,h⟩:=r.seq
 exact pA F e l L h
abbrev vec (n:Nat) (f:Nat->Int):List Int:=(List.range n).map f
theorem i4 (n:Nat) (f:Nat->Int):(vec n f).length=n:=by simp [vec]
theorem bJ (k m:Nat) (f:Nat->Int):vec (k+m) f=vec k f++vec m fun q=>f (k+q):=by
 unfold vec
 rw [List.range_add,List.map_append,List.map_map]; rfl
abbrev t9 (m n:Nat) (t:Nat->Nat->Int) (o:Nat->Int):List (List Int):=(List.range m).map (fun i=>vec n (t i)) ++ [vec n o]
theorem pC (m n:Nat) (t:Nat->Nat->Int) (o:Nat->Int):(t9 m n t o).length=m+1:=by simp
theorem aO {m n:Nat} {t:Nat->Nat->Int} {o:Nat->Int} {i:Nat} (h:i<m):L2.atI ((t9 m n t o).map tI) (i:Int)=some (tI (vec n (t i))):=C3 (by
 rw [List.getElem?_map,List.getElem?_append_left (by simpa using h),List.getElem?_map,List.getElem?_range h]; rfl)
theorem fy (m n:Nat) (t:Nat->Nat->Int) (o:Nat->Int):L2.atI ((t9 m n t o).map tI) (-1)=some (tI (vec n o)):=by
 unfold L2.atI
 have:L2.ixN ((t9 m n t o).map tI).length (-1)=some m:=by
  unfold L2.ixN
  rw [List.length_map,pC]
  simp
  omega
 rw [this]
 show ((t9 m n t o).map tI)[m]?=_
 simp
theorem ju {p m:Nat} (hm:m<=6):dI [.int (p:Int),.int (m:Int)]=.ok (tI (vec m fun q=>if q=p then 1 else 0)):=by
 have e:∀ N mg me ρ (h:∀ k∈List.range m,∃ ρ1,mg (.int (k:Nat)) (ρ++List.replicate (N-ρ.length) Sl.un)=some ρ1/\me ρ1=.ok (.int (if k=p then 1 else 0))),j8 N mg yes me ((List.range m).map fun k=>W.int (k:Nat)) ρ=.ok (lI (vec m fun q=>if q=p then 1 else 0)):=fun N mg me ρ h=>by
  rw [j0 (fun k=>W.int (if k=p then 1 else 0)) _ _ ρ (by simp; omega) h,E7]
 exists rpB,nB
 rw [e]
 ·exists rp18
 ·intro k hk
  refine ⟨_,rfl,?_⟩
  by_cases q:k=p
  ·have d1:decide ((k:Int)=(p:Int))=true:=decide_eq_true (by omega)
   exists X8,d1
   rw [if_pos q]
  ·have d1:decide ((k:Int)=(p:Int))=false:=decide_eq_false (by omega)
   exists X8,d1
   rw [if_neg q]
def stM (ms:List Mv) (j p:Nat):Int:=(ms.getD j ([],[])).2.getD p 0-(ms.getD j ([],[])).1.getD p 0
def cA (ms:List Mv) (j p:Nat):Int:=if j<ms.length then-stM ms j p else if j-ms.length=p then 1 else 0
def cC (ms:List Mv) (pl j:Nat):Int:=if j<ms.length then stM ms j pl else 0
theorem BZ (ms:List Mv) (m pl:Nat):Cols ms.length m pl (stM ms) (cA ms) (cC ms pl) where
 am j hj p _:=if_pos hj
 au q _ p _:=by
  unfold cA
  rw [if_neg (by omega),Nat.add_sub_cancel_left]
 cm j hj:=if_pos hj
 cu q _:=if_neg (by omega)
theorem iz {xs ys:List Int} (h:xs.length+ys.length<=1000):fCatT (tI xs) (tI ys)=.ok (tI (xs++ys)):=by
 show (if _ then _ else _)=_
 rw [if_pos ⟨by simpa using h,w8 xs,w8 ys⟩,<- List.map_append]
theorem yC (ms:List Mv) (f:Mv->List Int):ms.map f=(List.range ms.length).map fun j=>f (ms.getD j ([],[])):=by
 apply List.ext_getElem
 ·simp
 ·intro i h1 h2
  have:i<ms.length:=by simpa using h1
  simp [List.getD_eq_getElem?_getD,this]
theorem qX {ms:List Mv} {m pl:Nat} (h1:1<=m) (h6:m<=6) (hms:∀ x∈ms,okN m x) (h8:ms.length<=8) (hpl:pl<m):G7 [tM_ ms,.int (pl:Int),.int (m:Int)]=.ok (lS (t9 m (ms.length+m) (fun i j=>cA ms j i) (cC ms pl))):=by
 generalize hk:ms.length=k at h8
 have e1:∀ N mg me ρ (h:∀ x∈ms,∃ ρ1,mg (mW x) (ρ++List.replicate (N-ρ.length) Sl.un)=some ρ1/\me ρ1=.ok (tI (vec m fun p=>x.2.getD p 0-x.1.getD p 0))),j8 N mg yes me (ms.map mW) ρ=.ok (.lst ((List.range k).map fun j=>tI (vec m (stM ms j)))):=fun N mg me ρ h=>by
  rw [j0 (fun x=>tI (vec m fun p=>x.2.getD p 0-x.1.getD p 0)) _ _ ρ (by omega) h]
  have:=yC ms fun x=>vec m fun p=>x.2.getD p 0-x.1.getD p 0
  rw [show (ms.map fun x=>tI (vec m fun p=>x.2.getD p 0-x.1.getD p 0))=(ms.map fun x=>vec m fun p=>x.2.getD p 0-x.1.getD p 0).map tI by rw [List.map_map]; rfl,this,List.map_map,hk]; rfl
 have e2:∀ N mg me ρ (f:Nat->List Int) (h:∀ i∈List.range m,∃ ρ1,mg (.int (i:Nat)) (ρ++List.replicate (N-ρ.length) Sl.un)=some ρ1/\me ρ1=.ok (tI (f i))),j8 N mg yes me ((List.range m).map fun i=>W.int (i:Nat)) ρ=.ok (.lst ((List.range m).map fun i=>tI (f i))):=fun N mg me ρ f h=>j0 (fun i=>tI (f i)) _ _ ρ (by simp; omega) h
 have e3:∀ N mg me ρ (f:Nat->Int) (h:∀ j∈List.range k,∃ ρ1,mg (tI (vec m (stM ms j))) (ρ++List.replicate (N-ρ.length) Sl.un)=some ρ1/\me ρ1=.ok (.int (f j))),j8 N mg yes me ((List.range k).map fun j=>tI (vec m (stM ms j))) ρ=.ok (lI (vec k f)):=fun N mg me ρ f h=>by
  rw [j0 (fun j=>W.int (f j)) _ _ ρ (by simp; omega) h,E7]
 have fr:fRepT (.tup [.int 0]) (.int (m:Int))=.ok (tI (vec m fun _=>0)):=by
  show (if _ then _ else _)=_
  rw [if_pos ⟨by simp,by simp; omega,by omega,by omega⟩,Int.toNat_natCast]
  have:(List.replicate m [W.int 0]).flatten=(vec m fun _=>0).map W.int:=by
   clear hpl h1 h6 hms e1 e2 e3
   induction m with
   | zero=>rfl
   | succ m ih=>
    rw [List.replicate_succ,List.flatten_cons,ih]
    unfold vec
    rw [List.range_succ_eq_map,List.map_cons,List.map_cons,List.map_map,List.map_map,List.map_map]; rfl
  rw [this]
 exists rpB,aw
 rw [e1]
 rotate_left
 ·intro x hx
  have k1:=fM h6 (hms x hx)
  refine ⟨_,rfl,?_⟩
  exists k1
 exists rp18
 rw [e2 _ _ _ _ fun i=>vec (k+m) fun j=>cA ms j i]
 rotate_left
 ·intro i hi
  have hi:i<m:=by simpa using hi
  have ku:=ju (p:=i) h6
  have kc:=iz (xs:=vec k fun j =>-stM ms j i) (ys:=vec m fun q=>if q=i then 1 else 0) (by simp; omega)
  have ev:(vec k fun j =>-stM ms j i)++(vec m fun q=>if q=i then 1 else 0)=vec (k+m) fun j=>cA ms j i:=by
   rw [bJ]
   congr 1
   ·refine List.map_congr_left fun j hj=>?_
    have:j<k:=by simpa using hj
    unfold cA
    rw [hk,if_pos this]
   ·refine List.map_congr_left fun q _=>?_
    unfold cA
    rw [hk,if_neg (show ¬ (k+q<k) by omega),Nat.add_sub_cancel_left]
  rw [ev] at kc
  refine ⟨_,rfl,?_⟩
  exists rp18
  rw [e3 _ _ _ _ fun j =>-stM ms j i]
  ·exists ku,kc
  ·intro j hj
   have a1:L2.atI ((vec m (stM ms j)).map W.int) (i:Int)=some (.int (stM ms j i)):=by
    have:=C3 (ws:=(vec m (stM ms j)).map W.int) (k:=i) (w:=.int (stM ms j i)) (by rw [List.getElem?_map,List.getElem?_map,List.getElem?_range hi]; rfl)
    exact this
   refine ⟨_,rfl,?_⟩
   exists a1
 exists rp18
 rw [e3 _ _ _ _ fun j=>stM ms j pl]
 rotate_left
 ·intro j hj
  have a1:L2.atI ((vec m (stM ms j)).map W.int) (pl:Int)=some (.int (stM ms j pl)):=by
   have:=C3 (ws:=(vec m (stM ms j)).map W.int) (k:=pl) (w:=.int (stM ms j pl)) (by rw [List.getElem?_map,List.getElem?_map,List.getElem?_range hpl]; rfl)
   exact this
  refine ⟨_,rfl,?_⟩
  exists a1
 have kc:=iz (xs:=vec k fun j=>stM ms j pl) (ys:=vec m fun _=>0) (by simp; omega)
 have ev:(vec k fun j=>stM ms j pl)++(vec m fun _=>0)=vec (k+m) (cC ms pl):=by
  rw [bJ]
  congr 1
  ·refine List.map_congr_left fun j hj=>?_
   have:j<k:=by simpa using hj
   unfold cC
   rw [hk,if_pos this]
  ·refine List.map_congr_left fun q _=>?_
   unfold cC
   rw [hk,if_neg (by omega)]
 rw [ev] at kc
 exists fr,kc,O3 (Q7 (vec (k+m) (cC ms pl)))
 show _=R.ok (W.lst ((t9 m (k+m) (fun i j=>cA ms j i) (cC ms pl)).map tI))
 rw [List.map_append,List.map_map]; rfl
theorem kd {xs:List Int} {i:Nat} {w:W} (h:((xs.map W.int).mapIdx fun i x=>W.tup [.int (i:Int),x])[i]?=some w):i<xs.length/\w=.tup [.int (i:Int),.int (xs.getD i 0)]:=by
 rw [List.getElem?_mapIdx,List.getElem?_map] at h
 by_cases hi:i<xs.length
 ·rw [List.getElem?_eq_getElem hi] at h
  cases h
  exact ⟨hi,by rw [List.getD_eq_getElem?_getD,List.getElem?_eq_getElem hi]; rfl⟩
 ·rw [List.getElem?_eq_none (by omega)] at h; cases h
inductive Com (n:Nat) (o:Nat->Int):W->Prop where
 | none:(∀ j,j<n->o j<=0)->Com n o .non
 | some {j:Nat}:j<n->0<o j->(∀ i,i<j->o i<=0)->Com n o (.int (j:Int))
theorem ou {m n:Nat} {t:Nat->Nat->Int} {o:Nat->Int} (hm:m<=6) (hn:n<=100):Ok (R6 [lS (t9 m n t o)]) (Com n o):=by
 have a1:=fy m n t o
 have hl:=i4 n o
 exists rpB,ig,a1
 refine t7 (v6 (fun i ρ=>∃ (x y:Sl),ρ = [.par (lS (t9 m n t o)),x,y]/\∀ j,j<i->o j<=0) ⟨_,_,rfl,fun j hj=>absurd hj (Nat.not_lt_zero _)⟩ ?_ ?_)
 ·rintro i u ρ hu ⟨x,y,rfl,hall⟩
  obtain ⟨hi,rfl⟩:=kd hu
  have hi:i<n:=by rw [<- hl]; exact hi
  have ev:(vec n o).getD i 0=o i:=g9 hi
  rw [ev]
  refine ⟨_,rfl,?_⟩
  exists rp18
  refine bP (fun h=>?_) (fun h=>?_)
  ·have h:=of_decide_eq_true h
   exists rp18
   exact .some hi h hall
  ·have h:=of_decide_eq_false h
   exists rp18
   refine ⟨_,_,rfl,fun j hj=>?_⟩
   by_cases e:j=i
   ·subst e; omega
   ·exact hall j (by omega)
 ·rintro ρ ⟨x,y,rfl,hall⟩
  have hall:∀ j,j<n->o j<=0:=fun j hj=>hall j (by rw [List.length_mapIdx,List.length_map,hl]; exact hj)
  exists rp18
  exact .none hall
theorem iA (key:Nat->Int):∀ L:List Nat,L ≠ []->∃ i∈L,∀ j∈L,key i<=key j
 | [],h=>absurd rfl h
 | [a],_=>⟨a,List.mem_cons_self,fun j hj=>by rw [List.mem_singleton.mp hj]; exact Int.le_refl _⟩
 | a::b::L,_=>by
  obtain ⟨i,hi,hm⟩:=iA key (b::L) (by simp)
  by_cases q:key a<=key i
  ·refine ⟨a,List.mem_cons_self,fun j hj=>?_⟩
   rcases List.mem_cons.mp hj with rfl | hj
   ·exact Int.le_refl _
   ·have:=hm j hj; omega
  ·refine ⟨i,List.mem_cons_of_mem _ hi,fun j hj=>?_⟩
   rcases List.mem_cons.mp hj with rfl | hj
   ·omega
   ·exact hm j hj
inductive Lea (m:Nat) (h:Nat->Nat) (t:Nat->Nat->Int) (s:Nat):W->Prop where
 | none:(∀ i,i<m->t i s<=0)->Lea m h t s .non
 | some {r:Nat}:Lv m h t s r->Lea m h t s (.int (r:Int))
theorem kU {m n s:Nat} {t:Nat->Nat->Int} {o:Nat->Int} {h:Nat->Nat} (hm:m<=6) (hn:n<=100) (hs:s<n):Ok (bq [lS (t9 m n t o),lI (vec m fun i=>(h i:Int)),.int (s:Int)]) (Lea m h t s):=by
 have e1:∀ N mg mc me ρ (q:∀ i∈List.range m,∃ ρ1,mg (.int (i:Nat)) (ρ++List.replicate (N-ρ.length) Sl.un)=some ρ1/\mc ρ1=.ok (decide (0<t i s))/\me ρ1=.ok (.int (i:Nat))),j8 N mg mc me ((List.range m).map fun i=>W.int (i:Nat)) ρ=.ok (lI (((List.range m).filter fun i=>decide (0<t i s)).map fun (i:Nat)=>(i:Int))):=fun N mg mc me ρ q=>by
  rw [Q9 (fun i=>W.int (i:Nat)) _ (fun i=>decide (0<t i s)) _ ρ (by simp; omega) fun i hi=>by
   obtain ⟨ρ1,a1,a2,a3⟩:=q i hi
   exact ⟨ρ1,a1,a2,fun _=>a3⟩,E7]
 have hl:=i4 m fun i=>(h i:Int)
 exists rpB,fD
 rw [e1]
 rotate_left
 ·intro i hi
  have hi:i<m:=by simpa using hi
  have a1:=aO (n:=n) (t:=t) (o:=o) hi
  have a2:L2.atI ((vec n (t i)).map W.int) (s:Int)=some (.int (t i s)):=by
   have:=C3 (ws:=(vec n (t i)).map W.int) (k:=s) (w:=.int (t i s)) (by rw [List.getElem?_map,List.getElem?_map,List.getElem?_range hs]; rfl)
   exact this
  refine ⟨_,rfl,?_,?_⟩
  ·exists a1,a2
  ·exists rp18
 generalize hL:(List.range m).filter (fun i=>decide (0<t i s))=L
 have hLm:∀ i,i∈L↔i<m/\0<t i s:=fun i=>by rw [<- hL,List.mem_filter,List.mem_range,decide_eq_true_iff]
 have hmr:cS (L.map fun (i:Nat)=>(i:Int)) (vec m fun i=>(h i:Int))=.ok (vW (Y9 (fun i=>(vec m fun i=>(h i:Int)).getD i.toNat 0) (L.map fun (i:Nat)=>(i:Int)))):=by
  unfold cS
  rw [if_pos]
  rw [List.all_eq_true]
  intro x hx
  obtain ⟨i,hi,rfl⟩:=List.mem_map.mp hx
  have:=(hLm i).mp hi
  rw [Bool.and_eq_true,decide_eq_true_iff,decide_eq_true_iff,hl]
  omega
 exists hmr
 unfold Y9
 cases q:(L.map fun (i:Nat)=>(i:Int)).find? (fun i=>(L.map fun (i:Nat)=>(i:Int)).all fun x=>decide ((vec m fun i=>(h i:Int)).getD i.toNat 0<=(vec m fun i=>(h i:Int)).getD x.toNat 0)) with
 | none=>
  have hnil:L = []:=Classical.byContradiction fun ne=>by
   obtain ⟨i,hi,hmi⟩:=iA (fun i=>(h i:Int)) L ne
   have:=List.find?_eq_none.mp q (i:Int) (List.mem_map.mpr ⟨i,hi,rfl⟩)
   refine this (List.all_eq_true.mpr fun x hx=>?_)
   obtain ⟨j,hj,rfl⟩:=List.mem_map.mp hx
   rw [decide_eq_true_iff,Int.toNat_natCast,Int.toNat_natCast,g9 ((hLm i).mp hi).1,g9 ((hLm j).mp hj).1]
   exact hmi j hj
  refine ⟨_,rfl,.none fun i hi=>?_⟩
  have:=mt (hLm i).mpr (by rw [hnil]; exact List.not_mem_nil)
  omega
 | some x=>
  obtain ⟨hx,_⟩:=List.find?_eq_some_iff_append.mp q
  obtain ⟨i,hi,rfl⟩:=List.mem_map.mp (List.mem_of_find?_eq_some q)
  have hi2:=(hLm i).mp hi
  refine ⟨_,rfl,.some ⟨hi2.1,hi2.2,fun j hj hp=>?_⟩⟩
  have:=List.all_eq_true.mp hx (j:Int) (List.mem_map.mpr ⟨j,(hLm j).mpr ⟨hj,hp⟩,rfl⟩)
  have this:=of_decide_eq_true this
  rw [Int.toNat_natCast,Int.toNat_natCast,g9 hi2.1,g9 hj] at this
  omega
theorem B5 {z:Int} {k:Nat} (h:-(2^k)<=z/\z<=2^k):Builtin.Int.intBits z<=k+1:=by
 refine intBits_le_iff.mpr ?_
 have h1:(z.natAbs:Int)<=((2^k:Nat):Int):=by push_cast; omega
 have h2:z.natAbs<=2^k:=by exact_mod_cast h1
 exact Nat.lt_of_le_of_lt h2 (Nat.pow_lt_pow_right (by decide) (Nat.lt_succ_self k))
theorem iD {i j:Int} (h0:0<j) (h:j<=2^400):fI P6 V0 (.int i) (.int j)=.ok (.int (i/j)):=by
 show (if P6 i j then _ else _)=_
 rw [if_pos ⟨h0,Int.lt_of_le_of_lt h (by unfold big8; decide)⟩]
theorem dP {n s:Nat} {x b:Nat->Int} {d:Int} (hn:n<=100) (hs:s<n) (hx:∀ j,j<n->-(2^240)<=x j/\x j<=2^240) (hb:∀ j,j<n->-(2^240)<=b j/\b j<=2^240) (h0:0<d) (hd:d<=2^400) :
  br [tI (vec n x),tI (vec n b),.int (s:Int),.int d]=.ok (tI (vec n fun j=>(x j*b s-x s*b j)/d)):=by
 have hz:=V6 (tI (vec n x)) (tI (vec n b)) _ _ rfl rfl
 rw [P7 (by rw [i4,i4]),i4] at hz
 have as:L2.atI ((vec n x).map W.int) (s:Int)=some (.int (x s)):=by
  have:=C3 (ws:=(vec n x).map W.int) (k:=s) (w:=.int (x s)) (by rw [List.getElem?_map,List.getElem?_map,List.getElem?_range hs]; rfl)
  exact this
 have bs:L2.atI ((vec n b).map W.int) (s:Int)=some (.int (b s)):=by
  have:=C3 (ws:=(vec n b).map W.int) (k:=s) (w:=.int (b s)) (by rw [List.getElem?_map,List.getElem?_map,List.getElem?_range hs]; rfl)
  exact this
 have e:∀ N mg me ρ (h:∀ j,j<n->∃ ρ1,mg (.tup [.int ((vec n x).getD j 0),.int ((vec n b).getD j 0)]) (ρ++List.replicate (N-ρ.length) Sl.un)=some ρ1/\me ρ1=.ok (.int ((x j*b s-x s*b j)/d))),j8 N mg yes me ((List.range n).map fun j=>W.tup [.int ((vec n x).getD j 0),.int ((vec n b).getD j 0)]) ρ=.ok (lI (vec n fun j=>(x j*b s-x s*b j)/d)):=fun N mg me ρ h=>by
  rw [j0 (fun j=>.int ((x j*b s-x s*b j)/d)) _ _ ρ (by simpa using (by omega:n<=1000)) (fun k hk=>h k (by simpa using hk)),E7]
 exists rpB,fE,hz
 rw [e]
 ·exists rp18
 ·intro j hj
  have b1:=B5 (hx j hj)
  have b2:=B5 (hx s hs)
  have b3:=B5 (hb j hj)
  have b4:=B5 (hb s hs)
  have v1:(vec n x).getD j 0=x j:=g9 hj
  have v2:(vec n b).getD j 0=b j:=g9 hj
  have m1:fI CMulB k9 (.int (x j)) (.int (b s))=.ok (.int (x j*b s)):=X1 (by omega)
  have m2:fI CMulB k9 (.int (x s)) (.int (b j))=.ok (.int (x s*b j)):=X1 (by omega)
  have m3:=iD (i:=x j*b s-x s*b j) h0 hd
  rw [v1,v2]
  refine ⟨_,rfl,?_⟩
  exists as,bs,m1,m2,m3
def pvT (t:Nat->Nat->Int) (r s:Nat) (d:Int) (i j:Nat):Int:=if i=r then t r j else (t i j*t r s-t i s*t r j)/d
def pvO (t:Nat->Nat->Int) (o:Nat->Int) (r s:Nat) (d:Int) (j:Nat):Int:=(o j*t r s-o s*t r j)/d
theorem rh {m n:Nat} {t:Nat->Nat->Int} {o:Nat->Int}:((t9 m n t o).map tI).mapIdx (fun i x=>W.tup [.int (i:Int),x])=(List.range (m+1)).map fun (i:Nat)=>W.tup [.int (i:Int),tI (if i<m then vec n (t i) else vec n o)]:=by
 apply List.ext_getElem
 ·simp
 ·intro i h1 h2
  have hi:i<m+1:=by simpa using h2
  rw [List.getElem_mapIdx,List.getElem_map,List.getElem_map,List.getElem_range]
  by_cases q:i<m
  ·rw [if_pos q,List.getElem_append_left (by simpa using q)]; simp
  ·have:i=m:=by omega
   subst this
   rw [if_neg (Nat.lt_irrefl _),List.getElem_append_right (by simp)]; simp
theorem kL {m n r s:Nat} {t:Nat->Nat->Int} {o:Nat->Int} {d:Int} (hm:m<=6) (hn:n<=100) (hr:r<m) (hs:s<n) (ht:∀ i,i<m->∀ j,j<n->-(2^240)<=t i j/\t i j<=2^240) (ho:∀ j,j<n->-(2^240)<=o j/\o j<=2^240) (h0:0<d) (hd:d<=2^400) :
  U1 [lS (t9 m n t o),.int (r:Int),.int (s:Int),.int d]=.ok (lS (t9 m n (pvT t r s d) (pvO t o r s d))):=by
 have a1:=aO (n:=n) (t:=t) (o:=o) hr
 have e:∀ N mg me ρ (h:∀ i∈List.range (m+1),∃ ρ1,mg (.tup [.int (i:Int),tI (if i<m then vec n (t i) else vec n o)]) (ρ++List.replicate (N-ρ.length) Sl.un)=some ρ1/\me ρ1=.ok (tI (if i<m then vec n (pvT t r s d i) else vec n (pvO t o r s d)))),j8 N mg yes me ((List.range (m+1)).map fun (i:Nat)=>W.tup [.int (i:Int),tI (if i<m then vec n (t i) else vec n o)]) ρ=.ok (lS (t9 m n (pvT t r s d) (pvO t o r s d))):=fun N mg me ρ h=>by
  rw [j0 (fun i=>tI (if i<m then vec n (pvT t r s d i) else vec n (pvO t o r s d))) _ _ ρ (by simp; omega) h]
  congr 2
  rw [List.range_succ,List.map_append,List.map_append,List.map_map]
  congr 1
  ·refine List.map_congr_left fun i hi=>?_
   have:i<m:=by simpa using hi
   rw [if_pos this]; rfl
  ·simp
 have he:L1 [lS (t9 m n t o)]=.ok ((List.range (m+1)).map fun (i:Nat)=>W.tup [.int (i:Int),tI (if i<m then vec n (t i) else vec n o)]):=by rw [<- rh]; rfl
 exists rpB,fC,a1,he
 rw [e]
 ·exists rp18
 ·intro i hi
  have hi:i<m+1:=by simpa using hi
  refine ⟨_,rfl,?_⟩
  by_cases q:i=r
  ·subst q
   have d1:decide ((i:Int)=(i:Int))=true:=decide_eq_true rfl
   rw [if_pos hr,if_pos hr]
   have ev:vec n (pvT t i s d i)=vec n (t i):=List.map_congr_left fun j _=>if_pos rfl
   rw [ev]
   exists X8,d1
  ·have d1:decide ((i:Int)=(r:Int))=false:=decide_eq_false (by omega)
   by_cases q2:i<m
   ·have k1:=dP (x:=t i) (b:=t r) hn hs (ht i q2) (ht r hr) h0 hd
    have ev:vec n (pvT t r s d i)=vec n fun j=>(t i j*t r s-t i s*t r j)/d:=List.map_congr_left fun j _=>if_neg q
    rw [if_pos q2,if_pos q2,ev]
    exists X8,d1,k1
   ·have k1:=dP (x:=o) (b:=t r) hn hs ho (ht r hr) h0 hd
    rw [if_neg q2,if_neg q2]
    exists X8,d1,k1
    rfl
theorem zy {a b:Int} (ha:0<=a) (hb:0<=b):B4 [.int a,.int b]=.ok (.int (Int.gcd a b:Nat)):=by
 have fin:Ok (B4 [.int a,.int b]) fun v=>v=.int (Int.gcd a b:Nat):=by
  exists rpB,O0
  refine t7 (Q6 ?_)
  refine Y6 (fun M ρ=>∃ (x y:Int) (z:Sl),(ρ = [.par (.int x),.par (.int y),z]\/ρ = [.val (.int x),.val (.int y),z])/\0<=x/\0<=y/\Int.gcd x y=Int.gcd a b/\M=y.toNat) ?_ b.toNat _ ⟨a,b,.un,.inl rfl,ha,hb,rfl,rfl⟩
  rintro M ρ ⟨x,y,z,hρ,hx,hy,hg,hM⟩
  by_cases h0:y=0
  ·have d1:decide (y=0)=true:=decide_eq_true h0
   refine ⟨false,?_,?_⟩
   ·rcases hρ with rfl | rfl
    all_goals exists d1
   rw [if_neg (by decide)]
   have hgx:(Int.gcd a b:Int)=x:=by
    rw [<- hg,h0,Int.gcd_zero_right]
    omega
   rcases hρ with rfl | rfl
   all_goals
    exists rp18
    rw [hgx]
  ·have d1:decide (y=0)=false:=decide_eq_false h0
   have h1:0<y:=by omega
   refine ⟨true,?_,?_⟩
   ·rcases hρ with rfl | rfl
    all_goals exists d1
   rw [if_pos rfl]
   have q0:0<=x%y:=Int.emod_nonneg _ h0
   have q1:x%y<y:=Int.emod_lt_of_pos _ h1
   have hg2:Int.gcd y (x%y)=Int.gcd a b:=by
    have e:=Int.gcd_add_mul_left_left y (x%y) (x/y)
    rw [Int.emod_add_mul_ediv] at e
    rw [<- hg,Int.gcd_comm y,e]
   rcases hρ with rfl | rfl
   all_goals
    exists rp18
    exact ⟨(x%y).toNat,by omega,y,x%y,_,.inr rfl,hy,q0,hg2,rfl⟩
 obtain ⟨v,e,rfl⟩:=fin
 exact e
theorem int_at {xs:List Int} {i:Nat} {w:W} (h:(xs.map W.int)[i]?=some w):i<xs.length/\w=.int (xs.getD i 0):=by
 rw [List.getElem?_map] at h
 by_cases hi:i<xs.length
 ·rw [List.getElem?_eq_getElem hi] at h
  cases h
  exact ⟨hi,by rw [List.getD_eq_getElem?_getD,List.getElem?_eq_getElem hi]; rfl⟩
 ·rw [List.getElem?_eq_none (by omega)] at h; cases h
theorem cU {L:W} {xs:List Int} (hL:L=lI xs\/L=tI xs) (hl:xs.length<=100) (h0:∀ x∈xs,0<=x/\x<=2^400) (hp:∃ j,j<xs.length/\0<xs.getD j 0):Ok (x4 [L]) fun v=>∃ (g:Int) (ys:List Int),v=tI ys/\0<g/\ys.length=xs.length/\∀ i,i<xs.length->xs.getD i 0=g*ys.getD i 0:=by
 have hx:∀ j,j<xs.length->0<=xs.getD j 0/\xs.getD j 0<=2^400:=fun j hj=>memD h0 hj
 have e:∀ (g:Int) N mg me ρ (h:∀ x∈xs,∃ ρ1,mg (.int x) (ρ++List.replicate (N-ρ.length) Sl.un)=some ρ1/\me ρ1=.ok (.int (x/g))),j8 N mg yes me (xs.map W.int) ρ=.ok (lI (xs.map fun x=>x/g)):=fun g N mg me ρ h=>by
  rw [j0 (fun x=>W.int (x/g)) _ _ ρ (by omega) h,E7]
 rcases hL with rfl | rfl
 all_goals
  exists rpB,N9
  refine t7 (v6 (fun i ρ=>∃ (g:Nat) (y:Sl),(ρ = [.par (lI xs),.val (.int (g:Int)),y]\/ρ = [.par (tI xs),.val (.int (g:Int)),y])/\(∀ j,j<i->(g:Int)∣xs.getD j 0)/\((∃ j,j<i/\0<xs.getD j 0)->0<g)) ⟨0,_,by first | exact .inl rfl | exact .inr rfl,fun j hj=>absurd hj (Nat.not_lt_zero _),fun zz102=>by obtain ⟨j,hj,_⟩:=zz102; exact absurd hj (Nat.not_lt_zero _)⟩ ?_ ?_)
  ·rintro i u ρ hu ⟨g,y,hρ,h1,h2⟩
   obtain ⟨hi,rfl⟩:=int_at hu
   have k1:=zy (a:=(g:Int)) (b:=xs.getD i 0) (by omega) (hx i hi).1
   have fin:(∀ j,j<i+1->((Int.gcd (g:Int) (xs.getD i 0):Nat):Int)∣xs.getD j 0)/\((∃ j,j<i+1/\0<xs.getD j 0)->0<Int.gcd (g:Int) (xs.getD i 0)):=by
    refine ⟨fun j hj=>?_,fun ⟨j,hj,hp⟩=>?_⟩
    ·by_cases e:j=i
     ·subst e; exact Int.gcd_dvd_right ..
     ·exact Int.dvd_trans (Int.gcd_dvd_left ..) (h1 j (by omega))
    ·refine Nat.pos_of_ne_zero fun z=>?_
     have z:=Int.gcd_eq_zero_iff.mp z
     by_cases e:j=i
     ·subst e; omega
     ·have:=h2 ⟨j,by omega,hp⟩; omega
   rcases hρ with rfl | rfl
   all_goals
    refine ⟨_,rfl,?_⟩
    exists k1
    exact ⟨_,_,by first | exact .inl rfl | exact .inr rfl,fin⟩
  ·rintro ρ ⟨g,y,hρ,h1,h2⟩
   rw [List.length_map] at h1 h2
   have g0:=h2 hp
   obtain ⟨j,hj,hjp⟩:=hp
   have gb:(g:Int)<=2^400:=Int.le_trans (Int.le_of_dvd hjp (h1 j hj)) (hx j hj).2
   have fin:∃ (g':Int) (ys:List Int),tI (xs.map fun x=>x/(g:Int))=tI ys/\0<g'/\ys.length=xs.length/\∀ i,i<xs.length->xs.getD i 0=g'*ys.getD i 0:=by
    refine ⟨g,_,rfl,by omega,List.length_map _,fun i hi=>?_⟩
    have:(xs.map fun x=>x/(g:Int)).getD i 0=xs.getD i 0/(g:Int):=by
     rw [List.getD_eq_getElem?_getD,List.getD_eq_getElem?_getD,List.getElem?_map,List.getElem?_eq_getElem hi]; rfl
    rw [this,Int.mul_ediv_cancel' (h1 i hi)]
   rcases hρ with rfl | rfl
   all_goals
    exists rp18
    rw [e (g:Int)]
    ·exists rp18
     exact fin
    ·intro x _
     have m3:=iD (i:=x) (j:=(g:Int)) (by omega) gb
     refine ⟨_,rfl,?_⟩
     exists m3
theorem Aj {xs:List Int} {n:Nat} (h:n<=xs.length):C8 xs none (some (n:Int))=xs.take n:=by
 unfold C8
 rw [HT.sIx_nat,HT.sIx_none,List.drop_zero,Nat.min_eq_left h,Nat.sub_zero]
theorem iJ {xs:List Int} {n:Nat} (h:n<=xs.length):C8 xs (some (n:Int)) none=xs.drop n:=by
 unfold C8
 rw [HT.sIx_nat,HT.sIx_none,Nat.min_eq_left h,List.take_of_length_le (by rw [List.length_drop]; omega)]
theorem oU (k m:Nat) (f:Nat->Int):(vec (k+m) f).take k=vec k f:=by
 rw [bJ,List.take_left' (i4 _ _)]
theorem oV (k m:Nat) (f:Nat->Int):(vec (k+m) f).drop k=vec m fun q=>f (k+q):=by
 rw [bJ,List.drop_left' (i4 _ _)]
theorem V7 {n:Nat} {f:Nat->Int} {i:Nat} {v:Int}:(vec n f).set i v=vec n fun j=>if j=i then v else f j:=by
 apply List.ext_getElem
 ·simp
 ·intro j h1 h2
  have hj:j<n:=by simpa using h2
  rw [List.getElem_set]
  simp only [vec,List.getElem_map,List.getElem_range]
  by_cases e:i=j
  ·rw [if_pos e,if_pos e.symm]
  ·rw [if_neg e,if_neg fun q=>e q.symm]
theorem rep0 (n:Nat) (h:n<=100):lg true (.lst [.int 0]) (.int (n:Int))=.ok (lI (vec n fun _=>0)):=by
 rw [nW (by omega)]
 have:(List.replicate ((n:Int).toNat) [W.int 0]).flatten=(vec n fun _=>0).map W.int:=by
  rw [Int.toNat_natCast]
  apply List.ext_getElem?
  intro k
  rw [List.getElem?_map,List.getElem?_map,List.flatten_replicate_singleton]
  by_cases hk:k<n
  ·rw [List.getElem?_range hk,List.getElem?_eq_getElem (by simpa using hk)]; simp
  ·rw [List.getElem?_eq_none (by simpa using hk),List.getElem?_eq_none (by simpa using hk)]; rfl
 rw [this]
 rfl
theorem lL {n:Nat} {f:Nat->Int} {i:Nat} (h:i<n):L2.atI ((vec n f).map W.int) (i:Int)=some (.int (f i)):=by
 have:=C3 (ws:=(vec n f).map W.int) (k:=i) (w:=.int (f i)) (by rw [List.getElem?_map,List.getElem?_map,List.getElem?_range h]; rfl)
 exact this
section
variable {m n:Nat} {A:Nat->Nat->Int} {c:Nat->Int} {h:Nat->Nat} {t:Nat->Nat->Int} {o:Nat->Int} {d:Int}
theorem rm (T:Tab m n A c h t o d) {s i:Nat} (hi:i<m) (hs:h i≠s) (j:Nat):n0 (i+1) h t d s j=if j=h i then-t i s else n0 i h t d s j:=by
 unfold n0
 have e:c6 (i+1) (fun r=>if h r=j then t r s else 0)=c6 i (fun r=>if h r=j then t r s else 0)+if h i=j then t i s else 0:=rfl
 rw [e]
 by_cases q:j=h i
 ·subst q
  rw [if_pos rfl,if_pos rfl,if_neg hs,w6 fun r hr=>if_neg fun z=>by have:=T.inj (by omega) hi z; omega]
  omega
 ·rw [if_neg (show ¬ (h i=j) from fun z=>q z.symm),if_neg (show ¬ (j=h i) from q)]; omega
theorem AU {k:Nat} {A:Nat->Nat->Int} {c:Nat->Int} (T:Tab m (k+m) A c h t o d) {s:Nat} (h1:1<=m) (hm:m<=6) (hk:k<=8) (hs:s<k+m) (ho:0<o s) (hn:∀ i,i<m->t i s<=0) (hb:∀ j,n0 m h t d s j<=2^400) (hp:∃ j,j<k/\0<n0 m h t d s j) :
  Ok (cY [lS (t9 m (k+m) t o),lI (vec m fun i=>(h i:Int)),.int (s:Int),.int d,.int (k:Int)]) fun v=>∃ (g:Int) (ys:List Int),v=tI ys/\0<g/\ys.length=k/\∀ j,j<k->n0 m h t d s j=g*ys.getD j 0:=by
 have nb:∀ i,i<m->h i≠s:=fun i hi e=>by
  have:=T.ozero hi
  rw [e] at this
  omega
 have a1:=aO (n:=k+m) (t:=t) (o:=o) (show 0<m by omega)
 have l1:((t9 m (k+m) t o).getD 0 []).length=k+m:=by
  rw [List.getD_eq_getElem?_getD,List.getElem?_append_left (by rw [List.length_map,List.length_range]; omega),List.getElem?_map,List.getElem?_range (by omega)]
  exact i4 _ _
 have r0:=rep0 (k+m) (by omega)
 have l2:=i4 (k+m) fun _=>0
 have he:L1 [lI (vec m fun i=>(h i:Int))]=.ok (((vec m fun i=>(h i:Int)).map W.int).mapIdx fun i x=>W.tup [.int (i:Int),x]):=rfl
 have x1:ixN (k+m) (s:Int)=some s:=by unfold ixN; rw [if_pos (by omega),if_pos (by omega),Int.toNat_natCast]
 exists rpB,ij,a1,r0,he,l1,l2,x1
 have d0:(vec (k+m) fun _=>0).set s d=vec (k+m) (n0 0 h t d s):=by
  rw [V7]
  refine List.map_congr_left fun j _=>?_
  show _=(if j=s then d else 0)+(-1)*(0:Int)
  omega
 rw [d0]
 refine t7 (v6 (fun i ρ=>∃ (x y:Sl),ρ = [.par (lS (t9 m (k+m) t o)),.par (lI (vec m fun i=>(h i:Int))),.par (.int (s:Int)),.par (.int d),.par (.int (k:Int)),.own ((vec (k+m) (n0 i h t d s)).map W.int),x,y]) ⟨_,_,rfl⟩ ?_ ?_)
 ·rintro i u ρ hu ⟨x,y,rfl⟩
  obtain ⟨hi,rfl⟩:=kd hu
  have hi:i<m:=by simpa using hi
  have ev:(vec m fun i=>(h i:Int)).getD i 0=(h i:Int):=g9 hi
  have b1:=aO (n:=k+m) (t:=t) (o:=o) hi
  have b2:=lL (f:=t i) hs
  have hh:=T.hn i hi
  have x2:ixN (k+m) (h i:Int)=some (h i):=by unfold ixN; rw [if_pos (by omega),if_pos (by omega),Int.toNat_natCast]
  have l3:=i4 (k+m) (n0 i h t d s)
  rw [ev]
  refine ⟨_,rfl,?_⟩
  exists b1,b2,l3,x2
  have d1:(vec (k+m) (n0 i h t d s)).set (h i) (- t i s)=vec (k+m) (n0 (i+1) h t d s):=by
   rw [V7]
   exact List.map_congr_left fun j _=>(rm T hi (nb i hi) j).symm
  rw [d1]
  exact ⟨_,_,rfl⟩
 ·rintro ρ ⟨x,y,rfl⟩
  have hl:(((vec m fun i=>(h i:Int)).map W.int).mapIdx fun i x=>W.tup [.int (i:Int),x]).length=m:=by simp
  rw [hl]
  have l4:=i4 (k+m) (n0 m h t d s)
  have c1:C8 (vec (k+m) (n0 m h t d s)) none (some (k:Int))=vec k (n0 m h t d s):=by
   rw [Aj (by rw [l4]; omega),oU]
  have l5:=i4 k (n0 m h t d s)
  have kk:=cU (.inl rfl) (xs:=vec k (n0 m h t d s)) (by rw [l5]; omega) (fun z hz=>by
   obtain ⟨j,_,rfl⟩:=List.mem_map.mp hz
   exact ⟨T.dirP ho hn j,hb j⟩) (by
   obtain ⟨j,hj,hp⟩:=hp
   exact ⟨j,by rw [l5]; exact hj,by rw [g9 hj]; exact hp⟩)
  exists c1
  obtain ⟨v,e,g,ys,rfl,g0,hy,hall⟩:=kk
  exists e
  refine ⟨g,ys,rfl,g0,hy.trans l5,fun j hj=>?_⟩
  have:=hall j (by rw [l5]; exact hj)
  rw [g9 hj] at this
  exact this
theorem kF {x b:Nat->Int} {d:Int} (hm:m<=6) (hd:-(2^400)<=d/\d<=2^400) (hb:∀ j,j<m->-(2^400)<=b j/\b j<=2^400):O2 [lI (vec m x),tI (vec m b),.int d]=.ok (tI (vec m fun p=>x p+d*b p)):=by
 have hz:=V6 (lI (vec m x)) (tI (vec m b)) _ _ rfl rfl
 rw [P7 (by rw [i4,i4]),i4] at hz
 have e:∀ N mg me ρ (h:∀ j,j<m->∃ ρ1,mg (.tup [.int ((vec m x).getD j 0),.int ((vec m b).getD j 0)]) (ρ++List.replicate (N-ρ.length) Sl.un)=some ρ1/\me ρ1=.ok (.int (x j+d*b j))),j8 N mg yes me ((List.range m).map fun j=>W.tup [.int ((vec m x).getD j 0),.int ((vec m b).getD j 0)]) ρ=.ok (lI (vec m fun j=>x j+d*b j)):=fun N mg me ρ h=>by
  rw [j0 (fun j=>.int (x j+d*b j)) _ _ ρ (by simpa using (by omega:m<=1000)) (fun k hk=>h k (by simpa using hk)),E7]
 exists rpB,ba,hz
 rw [e]
 ·exists rp18
 ·intro j hj
  have b1:=B5 hd
  have b2:=B5 (hb j hj)
  have m1:fI CMulB k9 (.int d) (.int (b j))=.ok (.int (d*b j)):=X1 (by omega)
  have v1:(vec m x).getD j 0=x j:=g9 hj
  have v2:(vec m b).getD j 0=b j:=g9 hj
  rw [v1,v2]
  refine ⟨_,rfl,?_⟩
  exists m1
theorem kA {k pl:Nat} (h1:1<=m) (hm:m<=6) (hk:k<=8) (hpl:pl<m) (h0:0<d) (hd:d<=2^399) (ho:∀ j,j<k+m->o j<=0 /\ -(2^399)<=o j) :
  Ok (R3 [lS (t9 m (k+m) t o),.int (pl:Int),.int d,.int (k:Int)]) fun v=>∃ (g:Int) (ys:List Int),v=tI ys/\0<g/\ys.length=m/\∀ p,p<m ->-o (k+p)+d*(if p=pl then 1 else 0)=g*ys.getD p 0:=by
 have a1:=fy m (k+m) t o
 have l1:=i4 (k+m) o
 have c1:C8 (vec (k+m) o) (some (k:Int)) none=vec m fun q=>o (k+q):=by
  rw [iJ (by rw [l1]; omega),oV]
 have e:∀ N mg me ρ (h:∀ q∈List.range m,∃ ρ1,mg (.int (o (k+q))) (ρ++List.replicate (N-ρ.length) Sl.un)=some ρ1/\me ρ1=.ok (.int (- o (k+q)))),j8 N mg yes me ((vec m fun q=>o (k+q)).map W.int) ρ=.ok (lI (vec m fun q =>-o (k+q))):=fun N mg me ρ h=>by
  rw [List.map_map]
  show j8 N mg yes me (List.map (fun q=>W.int (o (k+q))) (List.range m)) ρ=_
  rw [j0 (fun q=>W.int (- o (k+q))) _ _ ρ (by simp; omega) h,E7]
 have l2:=i4 m fun q =>-o (k+q)
 have ku:=ju (p:=pl) hm
 have ks:=kF (x:=fun q =>-o (k+q)) (b:=fun q=>if q=pl then 1 else 0) (d:=d) hm ⟨by omega,by omega⟩ (fun j _=>by split <;> decide)
 have l5:=i4 m fun p =>-o (k+p)+d*if p=pl then 1 else 0
 have kk:=cU (.inr rfl) (xs:=vec m fun p =>-o (k+p)+d*if p=pl then 1 else 0) (by rw [l5]; omega) (fun z hz=>by
  obtain ⟨p,hp,rfl⟩:=List.mem_map.mp hz
  have hp:p<m:=by simpa using hp
  have:=ho (k+p) (by omega)
  by_cases e:p=pl
  ·rw [if_pos e]; omega
  ·rw [if_neg e]; omega) ⟨pl,by rw [l5]; exact hpl,by
   rw [g9 hpl,if_pos rfl]
   have:=ho (k+pl) (by omega)
   omega⟩
 exists rpB,aZ,a1,c1
 rw [e]
 rotate_left
 ·intro q _
  refine ⟨_,rfl,?_⟩
  exists rp18
 exists l2,ku,ks
 obtain ⟨v,e,g,ys,rfl,g0,hy,hall⟩:=kk
 exists e
 refine ⟨_,rfl,g,ys,rfl,g0,hy.trans l5,fun j hj=>?_⟩
 have:=hall j (by rw [l5]; exact hj)
 rw [g9 hj] at this
 exact this
end
theorem gm {d:Int} {f:Nat->Int}:∀ {n:Nat},(∀ i,i<n->d∣f i)->d∣c6 n f
 | 0,_=>⟨0,by rw [Int.mul_zero]; rfl⟩
 | n+1,h=>Int.dvd_add (gm fun i hi=>h i (Nat.lt_succ_of_lt hi)) (h n (Nat.lt_succ_self n))
section
variable {m n:Nat} {A:Nat->Nat->Int} {c:Nat->Int} {h:Nat->Nat} {t:Nat->Nat->Int} {o:Nat->Int} {d:Int}
theorem Tab.dt (T:Tab m n A c h t o d) {r s i j:Nat} (hr:r<m) (hs:s<n) (hi:i<m) (hj:j<n):d∣t i j*t r s-t i s*t r j:=by
 by_cases e:i=r
 ·subst e
  rw [Int.mul_comm (t i j),Int.sub_self]
  exact ⟨0,by rw [Int.mul_zero]⟩
 ·exact ⟨_,(T.step hr hs hi hj e).symm⟩
theorem Tab.do_ (T:Tab m n A c h t o d) {r s j:Nat} (hr:r<m) (hs:s<n) (hj:j<n):d∣o j*t r s-o s*t r j:=by
 have e:c6 m (fun i=>c (h i)*(t i j*t r s-t i s*t r j))=t r s*c6 m (fun i=>c (h i)*t i j)+(- t r j)*c6 m (fun i=>c (h i)*t i s):=by
  rw [<- m5,<- m5,<- C6]
  refine i5 fun i _=>?_
  rw [Int.mul_sub,Int.neg_mul,<- Int.mul_assoc,<- Int.mul_assoc,Int.mul_comm (t r s),Int.mul_comm (t r j)]
  omega
 have e2:o j*t r s-o s*t r j=d*(c j*t r s-c s*t r j)-c6 m (fun i=>c (h i)*(t i j*t r s-t i s*t r j)):=by
  rw [e,T.oo j hj,T.oo s hs,Int.sub_mul,Int.sub_mul,Int.mul_sub,Int.neg_mul,<- Int.mul_assoc,<- Int.mul_assoc,Int.mul_comm (t r s) (c6 m _),Int.mul_comm (t r j) (c6 m _)]
  omega
 rw [e2]
 exact Int.dvd_sub (Int.dvd_mul_right _ _) (gm fun i hi=>Int.dvd_trans (T.dt hr hs hi hj) (Int.dvd_mul_left _ _))
theorem Tab.next (T:Tab m n A c h t o d) {r s:Nat} (hr:r<m) (hs:s<n) (hp:0<t r s):Tab m n A c (hup h r s) (pvT t r s d) (pvO t o r s d) (t r s):=
 T.pivot hr hs hp (fun j _=>if_pos rfl) (fun i hi e j hj=>by
  unfold pvT
  rw [if_neg e,Int.mul_ediv_cancel' (T.dt hr hs hi hj)]) (fun j hj=>by
  unfold pvO
  rw [Int.mul_ediv_cancel' (T.do_ hr hs hj)])
end
theorem tz {n:Nat} {f g:Nat->Int} (hf:∀ j,j<n->0<=f j) (h:0<c6 n fun j=>f j*g j):∃ j,j<n/\0<f j:=Classical.byContradiction fun q=>by
 have:c6 n (fun j=>f j*g j)=0:=w6 fun j hj=>by
  have z:f j=0:=by
   have:=hf j hj
   by_cases e:0<f j
   ·exact absurd ⟨j,hj,e⟩ q
   ·omega
  rw [z,Int.zero_mul]
 omega
structure Wts (ms:List Mv) (m pl:Nat) (w:List Int):Prop where
 len:w.length=m
 nn:∀ p,p<m->0<=w.getD p 0/\w.getD p 0<=2^300
 one:1<=w.getD pl 0
 down:∀ j,j<ms.length->c6 m (fun p=>w.getD p 0*stM ms j p)<=0
structure Bag_ (ms:List Mv) (m pl:Nat) (y:List Int):Prop where
 len:y.length=ms.length
 nn:∀ j,j<ms.length->0<=y.getD j 0/\y.getD j 0<=2^400
 up:∀ p,p<m->(if p=pl then 1 else 0)<=c6 ms.length (fun j=>y.getD j 0*stM ms j p)
inductive Cei (ms:List Mv) (m pl:Nat):W->Prop where
 | w {y:List Int}:Wts ms m pl y->Cei ms m pl (.tup [.str "weights",tI y])
 | b {y:List Int}:Bag_ ms m pl y->Cei ms m pl (.tup [.str "bag",tI y])
theorem eB {g y x B:Int} (h0:0<g) (h1:0<=x) (h2:x<=B) (e:x=g*y):0<=y/\y<=B:=by
 have y0:0<=y:=by
  by_cases q:0<=y
  ·exact q
  ·have:g*y<0:=Int.mul_neg_of_pos_of_neg h0 (by omega)
   omega
 have:1*y<=g*y:=Int.mul_le_mul_of_nonneg_right (by omega) y0
 omega
theorem gk {n:Nat} {g:Int} {x y z:Nat->Int} (e:∀ j,j<n->x j=g*y j):c6 n (fun j=>x j*z j)=g*c6 n (fun j=>y j*z j):=by
 rw [<- m5]
 exact i5 fun j hj=>by rw [e j hj,Int.mul_assoc]
theorem hZ {g y:Int} (h0:0<g) (h:g*y<=0):y<=0:=by
 by_cases q:y<=0
 ·exact q
 ·have:=Int.mul_pos h0 (show 0<y by omega)
  omega
theorem ql {g y:Int} (h0:0<g) (h:0<=g*y):0<=y:=by
 by_cases q:0<=y
 ·exact q
 ·have:=Int.mul_neg_of_pos_of_neg h0 (show y<0 by omega)
  omega
theorem cR {g y:Int} (h0:0<g) (h:0<g*y):0<y:=by
 by_cases q:0<y
 ·exact q
 ·have:=Int.mul_nonneg (Int.le_of_lt h0) (show 0 <=-y by omega)
  rw [Int.mul_neg] at this
  omega
theorem lu {ms:List Mv} {m pl:Nat} (h1:1<=m) (h6:m<=6) (hms:∀ x∈ms,okN m x) (h8:ms.length<=8) (hpl:pl<m) (hB:∀ j,j<ms.length->∀ p,p<m->-mM<=stM ms j p/\stM ms j p<=mM):Ok (bu [tM_ ms,.int (pl:Int),.int (m:Int)]) (Cei ms m pl):=by
 have C:=BZ ms m pl
 have hA:∀ j,j<ms.length+m->∀ p,p<m->-mM<=cA ms j p/\cA ms j p<=mM:=fun j hj p hp=>by
  unfold cA
  by_cases q:j<ms.length
  ·rw [if_pos q]
   have:=hB j q p hp
   omega
  ·rw [if_neg q]
   split <;> decide
 have hc:∀ j,j<ms.length+m->-mM<=cC ms pl j/\cC ms pl j<=mM:=fun j hj=>by
  unfold cC
  by_cases q:j<ms.length
  ·rw [if_pos q]; exact hB j q pl hpl
  ·rw [if_neg q]; decide
 have kf:=qX h1 h6 hms h8 hpl
 have S0:∃ S:TB m (ms.length+m) (cA ms) (cC ms pl),S.h=(fun i=>ms.length+i)/\S.t=(fun i j=>cA ms j i)/\S.o=cC ms pl/\S.d=1:=⟨⟨_,_,_,1,C.first⟩,rfl,rfl,rfl,rfl⟩
 obtain ⟨S0,s1,s2,s3,s4⟩:=S0
 have e:∀ N mg me ρ (h:∀ i∈List.range m,∃ ρ1,mg (.int (i:Nat)) (ρ++List.replicate (N-ρ.length) Sl.un)=some ρ1/\me ρ1=.ok (.int ((ms.length:Int)+(i:Int)))),j8 N mg yes me ((List.range m).map fun i=>W.int (i:Nat)) ρ=.ok (lI (vec m fun i=>(S0.h i:Int))):=fun N mg me ρ h=>by
  rw [j0 (fun (i:Nat)=>W.int ((ms.length:Int)+(i:Int))) _ _ ρ (by simp; omega) h,E7,s1]
  congr 2
 have kf:G7 [tM_ ms,.int (pl:Int),.int (m:Int)]=.ok (lS (t9 m (ms.length+m) S0.t S0.o)):=by rw [s2,s3]; exact kf
 have hn:ms.length+m<=100:=by omega
 have kc:∀ S:TB m (ms.length+m) (cA ms) (cC ms pl),∃ w,R6 [lS (t9 m (ms.length+m) S.t S.o)]=.ok w/\K0 w=.val w/\Com (ms.length+m) S.o w:=fun S=>by
  obtain ⟨w,ew,hw⟩:=ou (t:=S.t) (o:=S.o) h6 hn
  exact ⟨w,ew,by cases hw <;> rfl,hw⟩
 exists rpB,fF,kf
 rw [e]
 rotate_left
 ·intro i _
  refine ⟨_,rfl,?_⟩
  exists rp18
 obtain ⟨w,ew,hs,hw⟩:=kc S0
 exists ew,hs
 refine t7 (Q6 ?_)
 refine Y6 (fun M ρ=>∃ (L:Nat) (S:TB m (ms.length+m) (cA ms) (cC ms pl)) (w:W) (z:Sl),ρ = [.par (tM_ ms),.par (.int (pl:Int)),.par (.int (m:Int)),.own ((t9 m (ms.length+m) S.t S.o).map tI),.own ((vec m fun i=>(S.h i:Int)).map W.int),.val (.int S.d),.val w,z]/\Run S0 L S/\Com (ms.length+m) S.o w/\M=2^(ms.length+m)-L) ?_ _ _ ⟨0,S0,w,.un,by rw [s4],.zero,hw,rfl⟩
 rintro M ρ ⟨L,S,w,z,rfl,hrun,hw,hM⟩
 have T:=S.ok
 have hd:=T.bd h6 hA
 have ht:=T.bt h6 hA
 have ho:=T.bo h6 hA hc
 have hL:=hrun.lt
 cases hw with
 | none hall=>
  refine ⟨false,?_,?_⟩
  ·exists rp18
  rw [if_neg (by decide)]
  have kw:=kA (k:=ms.length) (t:=S.t) (o:=S.o) (d:=S.d) h1 h6 h8 hpl T.dp (Int.le_trans hd (by decide)) fun j hj=>⟨hall j hj,Int.le_trans (by decide) (ho j hj).1⟩
  obtain ⟨v,ev,g,ys,rfl,g0,hy,hall2⟩:=kw
  exists ev
  refine .w ⟨hy,fun p hp=>?_,?_,fun j hj=>?_⟩
  ·refine eB g0 (x :=-S.o (ms.length+p)+S.d*(if p=pl then 1 else 0)) ?_ ?_ (hall2 p hp)
   ·have:=hall (ms.length+p) (by omega)
    have:=T.dp
    by_cases q:p=pl
    ·rw [if_pos q]; omega
    ·rw [if_neg q]; omega
   ·have:=ho (ms.length+p) (by omega)
    have k1:(2:Int)^240+2^197<=2^300:=by decide
    by_cases q:p=pl
    ·rw [if_pos q]; omega
    ·rw [if_neg q]; omega
  ·have e:=hall2 pl hpl
   rw [if_pos rfl] at e
   have:=hall (ms.length+pl) (by omega)
   have:=T.dp
   exact cR g0 (by omega)
  ·have e:=C.weights T hpl hj
   rw [gk (y:=fun p=>ys.getD p 0) hall2] at e
   exact hZ g0 (by rw [e]; exact hall j (by omega))
 | @some s hs hos hless=>
  refine ⟨true,?_,?_⟩
  ·exists rp18
  rw [if_pos rfl]
  obtain ⟨v,ev,hv⟩:=kU (t:=S.t) (o:=S.o) (h:=S.h) h6 hn hs
  cases hv with
  | none hle=>
   have dy:∀ j,n0 m S.h S.t S.d s j<=2^400:=fun j=>by
    have nb:∀ i,i<m->S.h i≠s:=fun i hi e=>by
     have:=T.ozero hi
     rw [e] at this
     omega
    have k1:(2:Int)^197<=2^400:=by decide
    by_cases js:j=s
    ·subst js
     rw [Tab.dirS nb]; omega
    ·by_cases jb:∃ i,i<m/\S.h i=j
     ·obtain ⟨i,hi,e⟩:=jb
      have e2:=T.dirB (s:=s) hi (nb i hi)
      rw [e] at e2
      have:=ht i hi s hs
      omega
     ·rw [Tab.dirN (fun i hi e=>jb ⟨i,hi,e⟩) js]
      decide
   obtain ⟨b1,b2⟩:=C.bag T hs
   have dp:=T.dirP hos hle
   have kb:=AU T h1 h6 h8 hs hos hle dy (tz (g:=fun j=>stM ms j pl) (fun j _=>dp j) (by rw [b2]; exact hos))
   obtain ⟨v,ev2,g,ys,rfl,g0,hy,hall2⟩:=kb
   exists ev,ev2
   refine .b ⟨hy,fun j hj=>eB g0 (dp j) (dy j) (hall2 j hj),fun p hp=>?_⟩
   have e1:=b1 p hp
   have e2:=b2
   rw [gk (y:=fun j=>ys.getD j 0) hall2] at e1 e2
   by_cases q:p=pl
   ·subst q
    rw [if_pos rfl]
    exact cR g0 (by rw [e2]; exact hos)
   ·rw [if_neg q]
    exact ql g0 (by rw [e1]; exact dp _)
  | @some r hlv=>
   have T2:=T.next hlv.lt hs hlv.pos
   have kp:=kL (t:=S.t) (o:=S.o) (d:=S.d) h6 hn hlv.lt hs (fun i hi j hj=>by
    have:=ht i hi j hj
    have k1:(2:Int)^197<=2^240:=by decide
    omega) ho T.dp (Int.le_trans hd (by decide))
   obtain ⟨S',q1,q2,q3,q4⟩:∃ S':TB m (ms.length+m) (cA ms) (cC ms pl),S'.h=hup S.h r s/\S'.t=pvT S.t r s S.d/\S'.o=pvO S.t S.o r s S.d/\S'.d=S.t r s:=⟨⟨_,_,_,_,T2⟩,rfl,rfl,rfl,rfl⟩
   have kp:U1 [lS (t9 m (ms.length+m) S.t S.o),.int (r:Int),.int (s:Int),.int S.d]=.ok (lS (t9 m (ms.length+m) S'.t S'.o)):=by rw [q2,q3]; exact kp
   obtain ⟨w,ew,hsw,hw⟩:=kc S'
   have a1:=aO (n:=ms.length+m) (t:=S'.t) (o:=S'.o) hlv.lt
   have a2:=lL (f:=S'.t r) hs
   have a3:S'.t r s=S'.d:=by rw [q2,q4]; exact if_pos rfl
   have x2:ixN m (r:Int)=some r:=by
    have:=hlv.lt
    unfold ixN; rw [if_pos (by omega),if_pos (by omega),Int.toNat_natCast]
   have l3:=i4 m fun i=>(S.h i:Int)
   have d1:(vec m fun i=>(S.h i:Int)).set r (s:Int)=vec m fun i=>(S'.h i:Int):=by
    rw [V7,q1]
    refine List.map_congr_left fun i _=>?_
    show (if i=r then (s:Int) else (S.h i:Int))=((hup S.h r s i:Nat):Int)
    unfold hup
    by_cases e:i=r
    ·rw [if_pos e,if_pos e]
    ·rw [if_neg e,if_neg e]
   have mv:Mv_ S S' s (S.h r):=⟨hs,hos,hless,r,hlv.lt,rfl,hlv.pos,hlv.least,q1⟩
   exists ev,kp,l3,x2,a1,a2,a3,ew,hsw,d1
   exact ⟨2^(ms.length+m)-(L+1),by omega,L+1,S',w,_,rfl,.succ hrun mv,hw,rfl⟩
def okB (n:Nat) (m:Mv):Prop:=okN n m/\(∀ x∈m.1,x<=2000000000)/\(∀ x∈m.2,x<=2000000000)
theorem gq {n:Nat} {ms:List Mv} (h:∀ m∈ms,okB n m) {j p:Nat} (hj:j<ms.length) (hp:p<n):-mM<=stM ms j p/\stM ms j p<=mM:=by
 have hm:=h _ (List.getElem_mem hj)
 have e:ms.getD j ([],[])=ms[j]:=by rw [List.getD_eq_getElem?_getD,List.getElem?_eq_getElem hj]; rfl
 unfold stM
 rw [e]
 have a1:=P4 hm.1.2.2.1 p
 have a2:=P4 hm.1.2.2.2 p
 have b1:=memD hm.2.1 (i:=p) (by rw [hm.1.1]; exact hp)
 have b2:=memD hm.2.2 (i:=p) (by rw [hm.1.2.1]; exact hp)
 show -(2000000000:Int)<=_/\_<=(2000000000:Int)
 omega
theorem af {ns:List Int} {k:Int}:Ok (A0 [.scr (ns.map W.int),.int k]) fun w=>∃ z:Int,w=.int z:=by
 by_cases hl:0<(ns.length:Int)
 ·have m0:0<=k%(ns.length:Int):=Int.emod_nonneg _ (by omega)
  have m1:k%(ns.length:Int)<(ns.length:Int):=Int.emod_lt_of_pos _ hl
  exists rpB,L9,decide_eq_true hl
  exact ⟨_,rfl,_,rfl⟩
 ·exists rpB,L9,decide_eq_false hl
  exact ⟨_,rfl,_,rfl⟩
theorem sqk {k:Int} (h0:0<=k) (h1:k<=1000):0<=k*k/\k*k<=1000000:=⟨Int.mul_nonneg h0 h0,by
 have:=Int.mul_le_mul h1 h1 h0 (by omega:(0:Int)<=1000)
 omega⟩
theorem F5 {ns:List Int} {k m:Int} (h0:0<=k) (h1:k<=1000) (hm:0<m):Ok (t4 [.scr (ns.map W.int),.int k,.int m]) fun w=>∃ z:Int,w=.int z/\0<=z/\z<m:=by
 obtain ⟨_,e1,c,rfl⟩:=af (ns:=ns) (k:=k)
 have:=sqk h0 h1
 exists rpB,ci,e1
 exact ⟨_,rfl,_,rfl,Int.emod_nonneg _ (by omega),Int.emod_lt_of_pos _ hm⟩
theorem jM {xs:List Int} {z:Int} (h:nn xs) (hz:0<=z):nn (xs ++ [z]):=fun x hx=>by
 rcases List.mem_append.mp hx with q | q
 ·exact h x q
 ·rw [List.mem_singleton.mp q]; exact hz
theorem ko {xs:List Int} {z B:Int} (h:∀ x∈xs,x<=B) (hz:z<=B):∀ x∈xs ++ [z],x<=B:=fun x hx=>by
 rcases List.mem_append.mp hx with q | q
 ·exact h x q
 ·rw [List.mem_singleton.mp q]; exact hz
theorem Y8 {ns mn:List Int} {a s:Int} {n:Nat} (hn:n<=6) (ha:0<=a) (ha1:a<=300) (hs0:0<=s) (hs1:s<=100000001) (hml:0<mn.length) (hmn:nn mn) (hm3:∀ x∈mn,x<=3):Ok (t8 [.scr (ns.map W.int),.int a,.int (n:Int),lI mn,.int s]) fun w=>∃ xs:List Int,w=tI xs/\xs.length=n/\nn xs/\∀ x∈xs,x<=1000000000:=by
 exists rpB,X3
 refine t7 (v6 (fun i ρ=>∃ (xs:List Int) (a6 a7:Sl),ρ = [.par (.scr (ns.map W.int)),.par (.int a),.par (.int (n:Int)),.par (lI mn),.par (.int s),.own (xs.map W.int),a6,a7]/\xs.length=i/\nn xs/\∀ x∈xs,x<=1000000000) ⟨[],_,_,rfl,rfl,fun x hx=>(by cases hx),fun x hx=>(by cases hx)⟩ ?_ ?_)
 ·rintro i u ρ hu ⟨xs,a6,a7,rfl,hxl,hxn,hxb⟩
  obtain ⟨hi,rfl⟩:=N5 hu
  obtain ⟨_,e1,d,rfl,hd0,hd1⟩:=F5 (ns:=ns) (k:=a+(i:Int)) (m:=(mn.length:Int)) (by omega) (by omega) (by omega)
  obtain ⟨_,e2,c,rfl⟩:=af (ns:=ns) (k:=a+(i:Int))
  have hh:0<=mn.getD d.toNat 0:=mem_getD hmn (by omega)
  have h3:mn.getD d.toNat 0<=3:=mem_getD (P:=fun x=>x<=3) hm3 (by omega)
  refine ⟨_,rfl,?_⟩
  exists e1
  generalize mn.getD d.toNat 0=held at hh h3
  refine du (fun h=>?_) (fun h=>?_)
  ·exists rp18
   rw [e2]
   exists rp18
   exact ⟨xs ++ [(c+(i:Int))*48271%1000000001],_,_,by rw [List.map_append],by simp [hxl],jM hxn (by omega),ko hxb (by omega)⟩
  ·exists rp18
   exact ⟨xs ++ [held*s],_,_,by rw [List.map_append],by simp [hxl],jM hxn (Int.mul_nonneg hh hs0),ko hxb (by
    have:=Int.mul_le_mul h3 hs1 hs0 (by omega:(0:Int)<=3)
    omega)⟩
 ·rintro ρ ⟨xs,a6,a7,rfl,hxl,hxn,hxb⟩
  rw [List.length_map,List.length_range] at hxl
  exists rp18
  exact ⟨xs,rfl,hxl,hxn,hxb⟩
theorem pw {ns:List Int}:Ok (R8 [.scr (ns.map W.int)]) fun w=>∃ z:Int,w=.int z/\0<=z/\z<=100000001:=by
 obtain ⟨_,e1,d,rfl,hd0,hd1⟩:=F5 (ns:=ns) (k:=2) (m:=8) (by omega) (by omega) (by omega)
 obtain ⟨_,e2,c,rfl⟩:=af (ns:=ns) (k:=2)
 exists rpB,bh,e1
 refine t7 (du (fun h=>?_) (fun h=>?_))
 ·exists rp18
  exact ⟨_,rfl,by omega,by omega⟩
 exists rp18
 refine du (fun h=>?_) (fun h=>?_)
 ·exists e2
  exact ⟨_,rfl,by omega,by omega⟩
 ·exists rp18
  exact ⟨_,rfl,by omega,by omega⟩
theorem eN {l:List Int} {lo hi:Nat} (hl:∀ x∈l,(lo:Int)<=x/\x<=(hi:Int)) {d:Int} (h0:0<=d) (h:d<l.length):∃ p:Nat,L2.atI (l.map W.int) d=some (.int (p:Int))/\lo<=p/\p<=hi:=by
 obtain ⟨a,b⟩:=mem_getD (P:=fun x=>(lo:Int)<=x/\x<=(hi:Int)) hl (i:=d.toNat) (by omega)
 exact ⟨(l.getD d.toNat 0).toNat,by rw [atW h0 h,Int.toNat_of_nonneg (by omega)],by omega,by omega⟩
theorem pl8 {d:Int} (h0:0<=d) (h:d<8):∃ p:Nat,L2.atI [W.int 2,W.int 3,W.int 1,W.int 5,W.int 3,W.int 4,W.int 2,W.int 6] d=some (.int (p:Int))/\(1<=p/\p<=6):=eN (l:=[2,3,1,5,3,4,2,6]) (by decide) h0 h
theorem mv11 {d:Int} (h0:0<=d) (h:d<11):∃ p:Nat,L2.atI [W.int 3,W.int 2,W.int 4,W.int 1,W.int 3,W.int 5,W.int 2,W.int 8,W.int 0,W.int 6,W.int 7] d=some (.int (p:Int))/\p<=8:=by
 obtain ⟨p,e,_,q⟩:=eN (l:=[3,2,4,1,3,5,2,8,0,6,7]) (lo:=0) (hi:=8) (by decide) h0 h
 exact ⟨p,e,q⟩
theorem tm4 {d:Int} (h0:0<=d) (h:d<4):∃ p:Nat,L2.atI [W.int 1,W.int 1,W.int 7,W.int 1000000] d=some (.int (p:Int))/\p<=1000000:=by
 obtain ⟨p,e,_,q⟩:=eN (l:=[1,1,7,1000000]) (lo:=0) (hi:=1000000) (by decide) h0 h
 exact ⟨p,e,q⟩
theorem vH {xs ys:List Int} (h:xs.length+ys.length<=1000):fCatT (tI xs) (tI ys)=.ok (tI (xs++ys)):=by
 show (if (xs.map W.int).length+(ys.map W.int).length<=1000/\m7 (xs.map W.int)=true/\m7 (ys.map W.int)=true then _ else _)=_
 rw [if_pos ⟨by rw [List.length_map,List.length_map]; exact h,w8 xs,w8 ys⟩,<- List.map_append]
theorem eM {l:List Int} (h:l.all (fun x=>decide (0<=x))=true):nn l:=fun x hx=>of_decide_eq_true (List.all_eq_true.mp h x hx)
theorem qV {ns:List Int}:Ok (V2 [.scr (ns.map W.int)]) fun w=>∃ (b:List Int) (ms:List Mv),w=.tup [tI b,tM_ ms]/\1<=b.length/\b.length<=6/\nn b/\(∀ m∈ms,okB b.length m)/\ms.length<=8/\∀ x∈b,x<=1000000000000000:=by
 obtain ⟨_,e0,d0,rfl,h00,h01⟩:=F5 (ns:=ns) (k:=0) (m:=8) (by omega) (by omega) (by omega)
 obtain ⟨_,e1,d1,rfl,h10,h11⟩:=F5 (ns:=ns) (k:=1) (m:=11) (by omega) (by omega) (by omega)
 obtain ⟨_,e3,d3,rfl,h30,h31⟩:=F5 (ns:=ns) (k:=3) (m:=2) (by omega) (by omega) (by omega)
 obtain ⟨_,e4,d4,rfl,h40,h41⟩:=F5 (ns:=ns) (k:=4) (m:=4) (by omega) (by omega) (by omega)
 obtain ⟨_,es,sc,rfl,hs0,hs1⟩:=pw (ns:=ns)
 obtain ⟨p,hp,hp1,hp6⟩:=pl8 h00 h01
 obtain ⟨q,hq,hq8⟩:=mv11 h10 h11
 obtain ⟨tm,htm,htm6⟩:=tm4 h40 h41
 exists rpB,cg,e0,hp,es,e1,hq
 refine t7 (v6 (fun i ρ=>∃ (ms:List Mv) (a4 a5 a6 a7 a8:Sl),ρ = [.par (.scr (ns.map W.int)),.val (.int (p:Int)),.val (.int sc),.own (ms.map mW),a4,a5,a6,a7,a8,.un,.un]/\(∀ m∈ms,okB p m)/\ms.length=i) ⟨[],_,_,_,_,_,rfl,by simp,rfl⟩ ?_ ?_)
 ·rintro i u ρ hu ⟨ms,a4,a5,a6,a7,a8,rfl,hms,hml⟩
  obtain ⟨hi,rfl⟩:=N5 hu
  have hpr:0<=(p:Int)*(2*(i:Int)+1)/\(p:Int)*(2*(i:Int)+1)<=6*17:=⟨Int.mul_nonneg (by omega) (by omega),Int.mul_le_mul (by omega) (by omega) (by omega) (by omega)⟩
  obtain ⟨_,e5,t,rfl,htl,htn,htb⟩:=Y8 (ns:=ns) (mn:=[0,1,0,2,1,0]) (a:=5+(p:Int)*(2*(i:Int)+1)) (s:=sc) hp6 (by omega) (by omega) hs0 hs1 (by decide) (eM (by decide)) (by decide)
  obtain ⟨_,e6,u,rfl,hul,hun,hub⟩:=Y8 (ns:=ns) (mn:=[1,0,0,1,2,0]) (a:=5+(p:Int)*(2*(i:Int)+1)+(p:Int)) (s:=sc) hp6 (by omega) (by omega) hs0 hs1 (by decide) (eM (by decide)) (by decide)
  obtain ⟨_,e7,fr,rfl,hf0,hf1⟩:=F5 (ns:=ns) (k:=5+(p:Int)*(2*(i:Int)+1)+(p:Int)) (m:=(p:Int)) (by omega) (by omega) (by omega)
  have e5:t8 [.scr (ns.map W.int),.int (5+(p:Int)*(2*(i:Int)+1)),.int (p:Int),.lst [.int 0,.int 1,.int 0,.int 2,.int 1,.int 0],.int sc]=.ok (tI t):=e5
  have e6:t8 [.scr (ns.map W.int),.int (5+(p:Int)*(2*(i:Int)+1)+(p:Int)),.int (p:Int),.lst [.int 1,.int 0,.int 0,.int 1,.int 2,.int 0],.int sc]=.ok (tI u):=e6
  refine ⟨_,rfl,?_⟩
  exists e5,e6,e3
  generalize 5+(p:Int)*(2*(i:Int)+1)=at_ at *
  refine mT (fun ρ=>∃ (v:List Int) (a8:Sl),ρ = [.par (.scr (ns.map W.int)),.val (.int (p:Int)),.val (.int sc),.own (ms.map mW),.par (.int (i:Int)),.val (.int at_),.val (tI t),.val (tI v),a8,.un,.un]/\v.length=p/\nn v/\∀ x∈v,x<=1000000000) ?_ ?_
  ·refine bP (fun h=>?_) (fun h=>?_)
   ·have lc1:(C8 t (some fr) none).length+(C8 t none (some fr)).length=p:=by
     obtain ⟨f,rfl⟩:∃ f:Nat,fr=(f:Int):=⟨fr.toNat,by omega⟩
     unfold C8
     rw [HT.sIx_nat,HT.sIx_none,HT.sIx_none,HT.sIx_nat,List.length_take,List.length_drop,List.length_take,List.length_drop]
     omega
    have ec:=vH (xs:=C8 t (some fr) none) (ys:=C8 t none (some fr)) (by omega)
    exists e7,ec
    refine ⟨_,_,rfl,by rw [List.length_append]; exact lc1,fun x hx=>?_,fun x hx=>?_⟩
    ·rcases List.mem_append.mp hx with q | q
     ·exact ae htn x q
     ·exact ae htn x q
    ·rcases List.mem_append.mp hx with q | q
     ·exact ae (P:=fun x=>x<=1000000000) htb x q
     ·exact ae (P:=fun x=>x<=1000000000) htb x q
   ·exists rp18
    exact ⟨u,_,rfl,hul,hun,hub⟩
  rintro ρ ⟨v,a8,rfl,hvl,hvn,hvb⟩
  exists rp18
  refine ⟨ms ++ [(t,v)],_,_,_,_,_,by rw [List.map_append]; rfl,fun m hm=>?_,by simp [hml]⟩
  rcases List.mem_append.mp hm with q | q
  ·exact hms m q
  ·rw [List.mem_singleton.mp q]; exact ⟨⟨htl,hvl,htn,hvn⟩,fun x hx=>Int.le_trans (htb x hx) (by decide),fun x hx=>Int.le_trans (hvb x hx) (by decide)⟩
 ·rintro ρ ⟨ms,a4,a5,a6,a7,a8,rfl,hms,hml⟩
  rw [List.length_map,List.length_range] at hml
  obtain ⟨_,e5,t,rfl,htl,htn,htb⟩:=Y8 (ns:=ns) (mn:=[1,0,2,1,3,0]) (a:=5) (s:=sc) hp6 (by omega) (by omega) hs0 hs1 (by decide) (eM (by decide)) (by decide)
  have e5:t8 [.scr (ns.map W.int),.int 5,.int (p:Int),.lst [.int 1,.int 0,.int 2,.int 1,.int 3,.int 0],.int sc]=.ok (tI t):=e5
  have e:∀ N mg me ρ (h:∀ x∈t,∃ ρ1,mg (.int x) (ρ++List.replicate (N-ρ.length) Sl.un)=some ρ1/\me ρ1=.ok (.int (x*(tm:Int)))),j8 N mg yes me (t.map W.int) ρ=.ok (lI (t.map fun x=>x*(tm:Int))):=fun N mg me ρ h=>by
   rw [j0 (fun x=>W.int (x*(tm:Int))) _ _ ρ (by omega) h,E7]
  exists e4,htm,e5
  rw [e]
  ·exists ca (yA ms),O3 (Q7 (t.map fun x=>x*(tm:Int)))
   have hbl:(t.map fun x=>x*(tm:Int)).length=p:=by rw [List.length_map]; exact htl
   refine ⟨t.map fun x=>x*(tm:Int),ms,rfl,by omega,by omega,fun x hx=>?_,by rw [hbl]; exact hms,by omega,fun x hx=>?_⟩
   ·obtain ⟨y,hy,rfl⟩:=List.mem_map.mp hx
    exact Int.mul_nonneg (htn y hy) (by omega)
   ·obtain ⟨y,hy,rfl⟩:=List.mem_map.mp hx
    exact Int.le_trans (Int.mul_le_mul (htb y hy) (show (tm:Int)<=1000000 by omega) (by omega) (by omega)) (by decide)
  ·intro x hx
   refine ⟨_,rfl,?_⟩
   exists rp18
theorem zw (p:Int):∀ qs:List Int,eQ (.int p) (qs.map W.int)=qs.findIdx? fun q=>decide (q=p)
 | []=>rfl
 | q::qs=>by
  have g:=zw p qs
  have e:PyData.eqv (pd (.int q)) (pd (.int p))=decide (q=p):=by
   have:=eqI [q] [p]
   simpa [pds,PyData.eqvAll] using this
  unfold eQ at g ⊢
  rw [List.map_cons,pds,List.findIdx?_cons,List.findIdx?_cons,g,e]
theorem zu {A B:List Int} {q:Int} (hq:q∉A) (hl:(A++q::B).length<=500):ix ((A++q::B).map W.int) (.int q)=.ok (.int (A.length:Int)):=by
 have e:(A++q::B).findIdx? (fun x=>decide (x=q))=some A.length:=by
  rw [List.findIdx?_eq_some_iff_getElem]
  refine ⟨by rw [List.length_append,List.length_cons]; omega,by simp,fun j hj=>?_⟩
  have hjA:A[j]'hj≠q:=fun h=>hq (h ▸ List.getElem_mem _)
  rw [List.getElem_append_left hj]
  simpa using hjA
 unfold ix
 rw [W2,gu,Bool.and_self,if_pos rfl,zw,e]
 exact if_pos (by rw [List.length_append,List.length_cons] at hl; omega)
inductive Bt (es:List Ent) (k:Nat):Nat->List Nat->Prop where
 | self:Bt es k k []
 | step {i:Nat} {e:Ent} {pn:List Nat}:es[i]?=some e->k<i+1->Bt es k e.2.1 pn->Bt es k (i+1) (i::pn)
def mo (es:List Ent) (i:Nat):Int:=((es.getD i ([],0,0)).2.2:Int)
def rwB (es:List Ent) (pn:List Nat):List Int:=pn.reverse.map (mo es)
theorem BM {es:List Ent} {i:Nat} {e:Ent} (h:es[i]?=some e):mo es i=(e.2.2:Int):=by
 unfold mo
 rw [List.getD_eq_getElem?_getD,h]; rfl
theorem Pt.le {es:List Ent} (hp:∀ (i:Nat) (e:Ent),es[i]?=some e->e.2.1<=i):∀ {n:Nat} {l r:List Int},Pt es n l r->∀ x∈l,0<=x/\x<=(n:Int)
 | _,_,_,.zero=>fun x hx=>by rw [List.mem_singleton.mp hx]; decide
 | _,_,_,.succ h p=>fun x hx=>by
  have:=hp _ _ h
  rcases List.mem_cons.mp hx with q | q
  ·omega
  ·have:=Pt.le hp p x q
   omega
theorem Pt.head {es:List Ent} (hp:∀ (i:Nat) (e:Ent),es[i]?=some e->e.2.1<=i) {n:Nat} {l r:List Int} (p:Pt es n l r):∃ t,l=(n:Int)::t/\∀ x∈t,0<=x/\x<(n:Int):=by
 cases p with
 | zero=>exact ⟨[],rfl,fun x hx=>by cases hx⟩
 | @succ i e l r h p=>
  refine ⟨l,rfl,fun x hx=>?_⟩
  have:=Pt.le hp p x hx
  have:=hp _ _ h
  omega
theorem Pt.split {es:List Ent} (hp:∀ (i:Nat) (e:Ent),es[i]?=some e->e.2.1<=i):∀ {n:Nat} {l r:List Int},Pt es n l r->∀ {a:Int},a∈l->∃ (k:Nat) (l1 r1:List Int) (pn:List Nat),a=(k:Int)/\k<=n/\Pt es k l1 r1/\l=(pn.map fun (i:Nat)=>((i+1:Nat):Int))++l1/\Bt es k n pn/\(∀ i∈pn,i<es.length)
 | _,_,_,.zero,a,ha=>⟨0,_,_,[],List.mem_singleton.mp ha,Nat.le_refl _,.zero,rfl,.self,fun i hi=>by cases hi⟩
 | _,_,_,.succ (i:=i) (e:=e) h p,a,ha=>by
  by_cases q:a=((i+1:Nat):Int)
  ·exact ⟨i+1,_,_,[],q,Nat.le_refl _,.succ h p,rfl,.self,fun i hi=>by cases hi⟩
  ·have ha:a∈_:=(List.mem_cons.mp ha).resolve_left q
   obtain ⟨k,l1,r1,pn,e1,e2,e3,e4,e5,e6⟩:=Pt.split hp p ha
   have:=hp _ _ h
   refine ⟨k,l1,r1,i::pn,e1,by omega,e3,by rw [e4]; rfl,.step h (by omega) e5,fun j hj=>?_⟩
   rcases List.mem_cons.mp hj with rfl | hj
   ·exact (List.getElem?_eq_some_iff.mp h).1
   ·exact e6 j hj
theorem gy {b:List Int} {es:List Ent} {n k:Nat} {l r l1 r1:List Int} {pn:List Nat} (hp:∀ (i:Nat) (e:Ent),es[i]?=some e->e.2.1<=i) (hl:es.length<=100) (hn:n<=es.length) (p:Pt es n l r) (p1:Pt es k l1 r1) (hs:l=(pn.map fun (i:Nat)=>((i+1:Nat):Int))++l1) (hpn:∀ i∈pn,i<es.length):D2 [.lst (n6 b es),.int (k:Int),.int (n:Int)]=.ok (lI (rwB es pn)):=by
 have k1:=jr (b:=b) hp hl hn p
 have hll:=Pt.len hp p
 obtain ⟨t,ht,htl⟩:=p1.head hp
 have hrev:l.reverse=t.reverse++(k:Int)::(pn.reverse.map fun (i:Nat)=>((i+1:Nat):Int)):=by
  rw [hs,ht,List.reverse_append,List.reverse_cons,List.append_assoc,List.map_reverse]; rfl
 have hlen:(t.reverse++(k:Int)::(pn.reverse.map fun (i:Nat)=>((i+1:Nat):Int))).length<=500:=by
  rw [<- hrev,List.length_reverse]; omega
 have k2:lf [.lst (n6 b es),.int (n:Int)]=.ok (lI l.reverse):=by
  exists rpB,sr,k1
 rw [hrev] at k2
 have hix:=zu (A:=t.reverse) (B:=pn.reverse.map fun (i:Nat)=>((i+1:Nat):Int)) (q:=(k:Int)) (fun h=>by have:=htl _ (List.mem_reverse.mp h); omega) hlen
 have hcut:C8 (t.reverse++(k:Int)::(pn.reverse.map fun (i:Nat)=>((i+1:Nat):Int))) (some ((t.reverse.length:Int)+1)) none=pn.reverse.map fun (i:Nat)=>((i+1:Nat):Int):=by
  have:=iJ (xs:=t.reverse++(k:Int)::(pn.reverse.map fun (i:Nat)=>((i+1:Nat):Int))) (n:=t.reverse.length+1) (by rw [List.length_append,List.length_cons]; omega)
  rw [show ((t.reverse.length:Int)+1)=((t.reverse.length+1:Nat):Int) by omega,this,List.drop_append,List.drop_eq_nil_of_le (by omega)]
  simp
 have hpl:pn.length<=500:=by
  rw [List.length_append,List.length_cons,List.length_map,List.length_reverse] at hlen
  rw [List.length_reverse] at hlen
  omega
 have e:∀ N mg me ρ,(∀ i∈pn.reverse,∃ ρ1,mg (.int ((i+1:Nat):Int)) (ρ++List.replicate (N-ρ.length) Sl.un)=some ρ1/\me ρ1=.ok (.int (mo es i)))->j8 N mg yes me ((pn.reverse.map fun (i:Nat)=>((i+1:Nat):Int)).map W.int) ρ=.ok (lI (rwB es pn)):=fun N mg me ρ h=>by
  rw [List.map_map]
  refine (j0 (fun i=>W.int (mo es i)) (W.int∘fun (i:Nat)=>((i+1:Nat):Int)) pn.reverse ρ (by rw [List.length_reverse]; omega) h).trans ?_
  unfold rwB
  rw [E7]
 generalize hg:t.reverse++(k:Int)::(pn.reverse.map fun (i:Nat)=>((i+1:Nat):Int))=g at *
 exists rpB,av,k2,hix,hcut
 rw [e]
 ·exists rp18
 ·intro i hi
  have hil:=hpn i (List.mem_reverse.mp hi)
  have hg:es[i]?=some (es.getD i ([],0,0)):=by rw [List.getD_eq_getElem?_getD,List.getElem?_eq_getElem hil]; rfl
  have r1:=jD (b:=b) hg
  unfold mo
  generalize es.getD i ([],0,0)=e at r1
  have b2:L2.atI [tI e.1,.int (e.2.1:Int),.int (e.2.2:Int)] 2=some (.int (e.2.2:Int)):=rfl
  refine ⟨_,rfl,?_⟩
  exists r1,b2
section
variable {b:List Int} {es:List Ent} (L R:Nat->List Int)
def F_ (b:List Int) (es:List Ent) (L:Nat->List Int) (n:Nat):Option Int:=(L n).tail.find? fun a=>n4 (sA b es n) (sA b es a.toNat)
def oW:Option Int->W
 | none=>.non
 | some a=>.int a
inductive LW (F:Nat->Option Int) (N:Nat):W->Prop where
 | none:(∀ n,n<=N->F n=none)->LW F N .non
 | some {n:Nat} {a:Int}:n<=N->F n=some a->(∀ i,i<n->F i=none)->LW F N (.tup [.int a,.int (n:Int)])
theorem dh {ms:List Mv} {A:Nat} {T:List Nat} (hK:FlK b ms es A T) {a:Nat} (h:a<=es.length):(sA b es a).length=b.length:=by
 have:=mH (b:=b) (es:=es) (a:=a) (by omega)
 rcases List.mem_cons.mp this with q | q
 ·rw [q]
 ·obtain ⟨e,he,q⟩:=List.mem_map.mp q
  rw [<- q]; exact hK.len e he
theorem vd (hp:∀ (i:Nat) (e:Ent),es[i]?=some e->e.2.1<=i) (hl:es.length<=100) (hL:∀ n,n<=es.length->Pt es n (L n) (R n)) (hs:∀ a,a<=es.length->(sA b es a).length=b.length):Ok (R4 [.lst (n6 b es)]) (LW (F_ b es L) es.length):=by
 have he:L1 [.lst (n6 b es)]=.ok ((n6 b es).mapIdx fun i x=>W.tup [.int (i:Int),x]):=rfl
 exists rpB,bc,he
 refine t7 (v6 (fun i ρ=>∃ (x y z:Sl),ρ = [.par (.lst (n6 b es)),x,y,z]/\∀ j,j<i->F_ b es L j=none) ⟨_,_,_,rfl,fun j hj=>absurd hj (Nat.not_lt_zero _)⟩ ?_ ?_)
 ·rintro i u ρ hu ⟨x,y,z,rfl,hall⟩
  rw [List.getElem?_mapIdx] at hu
  have hi:i<es.length+1:=by
   rcases Nat.lt_or_ge i (es.length+1) with q | q
   ·exact q
   ·rw [List.getElem?_eq_none (by simpa using q)] at hu; cases hu
  obtain ⟨x1,y1,hr⟩:=eg (b:=b) hi
  have hr2:(n6 b es)[i]?=some (.tup [tI (sA b es i),x1,y1]):=by
   have:=hr
   unfold L2.atI at this
   have e:L2.ixN (n6 b es).length (i:Int)=some i:=by
    unfold L2.ixN
    rw [if_pos (by omega),if_pos (by simp; omega),Int.toNat_natCast]
   rw [e] at this
   exact this
  rw [hr2] at hu
  cases hu
  have p:=hL i (by omega)
  have k1:=jr (b:=b) hp hl (by omega) p
  obtain ⟨t,ht,htl⟩:=p.head hp
  have hll:=Pt.len hp p
  have hF:F_ b es L i=t.find? fun a=>n4 (sA b es i) (sA b es a.toNat):=by unfold F_; rw [ht]; rfl
  have hcut:C8 (L i) (some 1) none=t:=by
   have:=iJ (xs:=L i) (n:=1) (by rw [ht,List.length_cons]; omega)
   rw [ht] at this ⊢
   exact this
  have a0:L2.atI [tI (sA b es i),x1,y1] 0=some (tI (sA b es i)):=rfl
  refine ⟨_,rfl,?_⟩
  exists k1
  rw [hcut]
  refine aT (fun j ρ=>∃ z,ρ = [.par (.lst (n6 b es)),.par (.int (i:Int)),.par (.tup [tI (sA b es i),x1,y1]),z]/\∀ j',j'<j->n4 (sA b es i) (sA b es (t.getD j' 0).toNat)=false) ⟨_,rfl,fun j hj=>absurd hj (Nat.not_lt_zero _)⟩ ?_ ?_
  ·rintro j u ρ hu ⟨z,rfl,hj'⟩
   obtain ⟨hj,rfl⟩:=int_at hu
   have hta:=memD htl hj
   obtain ⟨a,ha⟩:∃ a:Nat,t.getD j 0=(a:Int):=⟨(t.getD j 0).toNat,by omega⟩
   rw [ha] at hta ⊢
   obtain ⟨x2,y2,hr3⟩:=eg (b:=b) (es:=es) (a:=a) (by omega)
   have b0:L2.atI [tI (sA b es a),x2,y2] 0=some (tI (sA b es a)):=rfl
   have kc:=fK (a:=sA b es i) (b:=sA b es a) (by rw [hs a (by omega),hs i (by omega)])
   refine ⟨_,rfl,?_⟩
   exists a0,hr3,b0,kc
   refine bP (fun h=>?_) (fun h=>?_)
   ·exists rp18
    refine .some (by omega) ?_ hall
    rw [hF,List.find?_eq_some_iff_getElem]
    refine ⟨by rw [Int.toNat_natCast]; exact h,j,hj,?_,fun j2 hj2=>?_⟩
    ·rw [List.getD_eq_getElem?_getD,List.getElem?_eq_getElem hj] at ha
     exact ha
    ·have:=hj' j2 hj2
     rw [List.getD_eq_getElem?_getD,List.getElem?_eq_getElem (by omega)] at this
     simpa using this
   ·exists rp18
    refine ⟨_,rfl,fun j2 hj2=>?_⟩
    by_cases q:j2=j
    ·subst q; rw [ha,Int.toNat_natCast]; exact h
    ·exact hj' j2 (by omega)
  ·rintro ρ ⟨z,rfl,hj'⟩
   refine ⟨_,_,_,rfl,fun j hj=>?_⟩
   by_cases q:j=i
   ·subst q
    rw [hF,List.find?_eq_none]
    intro a ha
    obtain ⟨j2,hj2,rfl⟩:=List.getElem_of_mem ha
    have:=hj' j2 (by rw [List.length_map]; exact hj2)
    rw [List.getD_eq_getElem?_getD,List.getElem?_eq_getElem hj2] at this
    simpa using this
   ·exact hall j (by omega)
 ·rintro ρ ⟨x,y,z,rfl,hall⟩
  exists rp18
  refine .none fun n hn=>hall n ?_
  rw [List.length_mapIdx]
  simpa using Nat.lt_succ_of_le hn
end
theorem Pt.zm {es:List Ent}:∀ {n:Nat} {l r:List Int},Pt es n l r->(0:Int)∈l
 | _,_,_,.zero=>List.mem_cons_self
 | _,_,_,.succ _ p=>List.mem_cons_of_mem _ p.zm
section
variable {b:List Int} {es:List Ent} {L R:Nat->List Int}
theorem wo (hp:∀ (i:Nat) (e:Ent),es[i]?=some e->e.2.1<=i) (hL:∀ n,n<=es.length->Pt es n (L n) (R n)) {n:Nat} (hn:n<=es.length) {a:Int} (h:F_ b es L n=some a):∃ (k:Nat) (l1 r1 l0 r0:List Int) (pn1 pn0:List Nat),a=(k:Int)/\k<=n/\Pt es k l1 r1/\L n=(pn1.map fun (i:Nat)=>((i+1:Nat):Int))++l1/\Bt es k n pn1/\(∀ i∈pn1,i<es.length)/\Pt es 0 l0 r0/\l1=(pn0.map fun (i:Nat)=>((i+1:Nat):Int))++l0/\Bt es 0 k pn0/\(∀ i∈pn0,i<es.length):=by
 have ha:a∈L n:=List.mem_of_mem_tail (List.mem_of_find?_eq_some h)
 obtain ⟨k,l1,r1,pn,e1,e2,e3,e4,e5,e6⟩:=Pt.split hp (hL n hn) ha
 obtain ⟨k0,l0,r0,pn0,f1,f2,f3,f4,f5,f6⟩:=Pt.split hp e3 e3.zm
 have:k0=0:=by omega
 subst this
 exact ⟨k,l1,r1,l0,r0,pn,pn0,e1,e2,e3,e4,e5,e6,f3,f4,f5,f6⟩
end
theorem dW {f g:Nat->Int}:∀ {n:Nat},(∀ k,k<n->f k<=g k)->c6 n f<=c6 n g
 | 0,_=>Int.le_refl 0
 | n+1,h=>Int.add_le_add (dW fun k hk=>h k (Nat.lt_succ_of_lt hk)) (h n (Nat.lt_succ_self n))
theorem jA {f g:Nat->Int} {r:Nat}:∀ {n:Nat},r<n->(∀ k,k<n->f k<=g k)->f r<g r->c6 n f<c6 n g
 | 0,h,_,_=>absurd h (Nat.not_lt_zero _)
 | n+1,h,hl,hr=>by
  show c6 n f+f n<c6 n g+g n
  have h1:=hl n (Nat.lt_succ_self n)
  by_cases q:r=n
  ·subst q
   have:=dW (n:=r) fun k hk=>hl k (Nat.lt_succ_of_lt hk)
   omega
  ·have:=jA (n:=n) (by omega) (fun k hk=>hl k (Nat.lt_succ_of_lt hk)) hr
   omega
theorem tN {b:List Int} {es:List Ent} {i:Nat} {e:Ent} (h:es[i]?=some e):sA b es (i+1)=e.1:=by
 unfold sA stS
 rw [List.getD_eq_getElem?_getD,List.getElem?_cons_succ,List.getElem?_map,h]; rfl
theorem oI {s:List Int} {m:Mv} {p:Nat} (h:p<s.length):(r9 s m).getD p 0=s.getD p 0+(m.2.getD p 0-m.1.getD p 0):=by
 unfold r9
 rw [List.getD_eq_getElem?_getD,List.getElem?_map,List.getElem?_range h]; rfl
theorem iK {a c:List Int} (h:n4 a c=true) {p:Nat} (hp:p<a.length):c.getD p 0<=a.getD p 0:=by
 unfold n4 at h
 exact of_decide_eq_true (List.all_eq_true.mp h p (by simpa using hp))
section
variable {b:List Int} {ms:List Mv} {es:List Ent} {A:Nat} {T:List Nat}
theorem dX (hK:FlK b ms es A T) {i:Nat} {e:Ent} (he:es[i]?=some e) {p:Nat} (hp:p<b.length):e.2.2<ms.length/\(mvN ms e.2.2).1.getD p 0<=(sA b es e.2.1).getD p 0/\(sA b es (i+1)).getD p 0=(sA b es e.2.1).getD p 0+stM ms e.2.2 p:=by
 have hm:=List.mem_of_getElem? he
 have hi:=(List.getElem?_eq_some_iff.mp he).1
 obtain ⟨h1,h2⟩:=hK.beh e hm
 have hl:=dh hK (a:=e.2.1) (by have:=hK.par i e he; omega)
 refine ⟨hK.k8 e hm,iK h1 (by rw [hl]; exact hp),?_⟩
 rw [tN he,h2]
 exact oI (by rw [hl]; exact hp)
structure Lft (b:List Int) (es:List Ent) (k n:Nat):Prop where
 hk:k<n
 hn:n<=es.length
 le:∀ p,p<b.length->(sA b es k).getD p 0<=(sA b es n).getD p 0
 lt:∃ p,p<b.length/\(sA b es k).getD p 0<(sA b es n).getD p 0
theorem yH {L R:Nat->List Int} (hK:FlK b ms es A T) (hL:∀ n,n<=es.length->Pt es n (L n) (R n)) {n k:Nat} (hn:n<=es.length) (hF:F_ b es L n=some (k:Int)):Lft b es k n:=by
 obtain ⟨t,ht,htl⟩:=(hL n hn).head hK.par
 unfold F_ at hF
 rw [ht] at hF
 have hk:=(htl _ (List.mem_of_find?_eq_some hF)).2
 have hc:n4 (sA b es n) (sA b es (k:Int).toNat)=true:=List.find?_some (p:=fun a:Int=>n4 (sA b es n) (sA b es a.toNat)) hF
 rw [Int.toNat_natCast] at hc
 have l1:=dh hK (a:=k) (by omega)
 have l2:=dh hK hn
 have le:∀ p,p<b.length->(sA b es k).getD p 0<=(sA b es n).getD p 0:=fun p hp=>iK hc (by rw [l2]; exact hp)
 refine ⟨by omega,hn,le,Classical.byContradiction fun q=>?_⟩
 have e:sA b es k=sA b es n:=by
  refine List.ext_getElem (by rw [l1,l2]) fun p h1 h2=>?_
  have hp:p<b.length:=by omega
  have a1:=le p hp
  have a2:¬ (sA b es k).getD p 0<(sA b es n).getD p 0:=fun z=>q ⟨p,hp,z⟩
  rw [List.getD_eq_getElem?_getD,List.getD_eq_getElem?_getD,List.getElem?_eq_getElem h1,List.getElem?_eq_getElem h2] at a1 a2
  change (sA b es k)[p]<=(sA b es n)[p] at a1
  change ¬ (sA b es k)[p]<(sA b es n)[p] at a2
  omega
 unfold sA at e
 have k1:k<(stS b es).length:=by rw [V9]; omega
 have k2:n<(stS b es).length:=by rw [V9]; omega
 rw [List.getD_eq_getElem?_getD,List.getD_eq_getElem?_getD,List.getElem?_eq_getElem k1,List.getElem?_eq_getElem k2] at e
 exact List.pairwise_iff_getElem.mp hK.nod k n k1 k2 (by omega) e
theorem fJ (hK:FlK b ms es (es.length+1) []) {s:List Int} (hs:s∈stS b es) {j:Nat} (hj:j<ms.length) (hc:n4 s (mvN ms j).1=true):r9 s (mvN ms j)∈stS b es:=by
 obtain ⟨a,ha,rfl⟩:=List.getElem_of_mem hs
 have ea:(stS b es)[a]=sA b es a:=by
  unfold sA
  rw [List.getD_eq_getElem?_getD,List.getElem?_eq_getElem ha]; rfl
 rw [ea] at hc ⊢
 rw [V9] at ha
 rcases hK.set a j (.inl ha) hj hc with ⟨e,he,q⟩ | q | ⟨e,he,_,q⟩
 ·have:=(hK.beh e he).2
  rw [q] at this
  exact List.mem_cons_of_mem _ (List.mem_map.mpr ⟨e,he,this⟩)
 ·show bhN b ms es a j∈_
  rw [q]; exact List.mem_cons_self
 ·exact List.mem_cons_of_mem _ (List.mem_map.mpr ⟨e,he,q⟩)
theorem lV (hK:FlK b ms es A T) {s:List Int} (hs:s∈stS b es):s.length=b.length:=by
 rcases List.mem_cons.mp hs with q | q
 ·rw [q]
 ·obtain ⟨e,he,q⟩:=List.mem_map.mp q
  rw [<- q]; exact hK.len e he
end
theorem mw {m:Nat} {x y:Nat->Int} (hm:m<=6):O2 [tI (vec m x),tI (vec m y),.int 1]=.ok (tI (vec m fun p=>x p+1*y p)):=by
 have hz:=V6 (tI (vec m x)) (tI (vec m y)) _ _ rfl rfl
 rw [P7 (by rw [i4,i4]),i4] at hz
 have e:∀ N mg me ρ (h:∀ j,j<m->∃ ρ1,mg (.tup [.int ((vec m x).getD j 0),.int ((vec m y).getD j 0)]) (ρ++List.replicate (N-ρ.length) Sl.un)=some ρ1/\me ρ1=.ok (.int (x j+1*y j))),j8 N mg yes me ((List.range m).map fun j=>W.tup [.int ((vec m x).getD j 0),.int ((vec m y).getD j 0)]) ρ=.ok (lI (vec m fun j=>x j+1*y j)):=fun N mg me ρ h=>by
  rw [j0 (fun j=>.int (x j+1*y j)) _ _ ρ (by simpa using (by omega:m<=1000)) (fun k hk=>h k (by simpa using hk)),E7]
 exists rpB,ba,hz
 rw [e]
 ·exists rp18
 ·intro j hj
  have v1:(vec m x).getD j 0=x j:=g9 hj
  have v2:(vec m y).getD j 0=y j:=g9 hj
  rw [v1,v2]
  refine ⟨_,rfl,?_⟩
  exists rp18
structure WtA (ms:List Mv) (m:Nat) (y:List Int):Prop where
 len:y.length=m
 pos:∀ p,p<m->1<=y.getD p 0/\y.getD p 0<=2^400
 down:∀ j,j<ms.length->c6 m (fun p=>y.getD p 0*stM ms j p)<=0
inductive Lev (ms:List Mv) (m:Nat):W->Prop where
 | b {p:Nat} {y:List Int}:Lev ms m (.tup [.str "bag",.int (p:Int),tI y])
 | w {y:List Int}:WtA ms m y->Lev ms m (.tup [.str "weights",tI y])
theorem Lev.wt {ms:List Mv} {m:Nat} {w:W} {y:List Int} (h:Lev ms m w) (e:w=.tup [.str "weights",tI y]):WtA ms m y:=by
 cases h with
 | b=>cases e
 | @w z hz=>
  injection e with e
  injection e with _ e
  injection e with e _
  injection e with e
  rw [<- (List.map_inj_right fun _ _ h=>by injection h).mp e]
  exact hz
theorem vw {m:Nat} (h1:1<=m) (h6:m<=6):fRepT (.tup [.int 0]) (.int (m:Int))=.ok (tI (vec m fun _=>0)):=by
 show (if _ then _ else _)=_
 rw [if_pos ⟨by simp,by simp; omega,by omega,by omega⟩,Int.toNat_natCast]
 have:(List.replicate m [W.int 0]).flatten=(vec m fun _=>0).map W.int:=by
  clear h1 h6
  induction m with
  | zero=>rfl
  | succ m ih=>
   rw [List.replicate_succ,List.flatten_cons,ih]
   unfold vec
   rw [List.range_succ_eq_map,List.map_cons,List.map_cons,List.map_map,List.map_map,List.map_map]; rfl
 rw [this]
theorem qz {ms:List Mv} {m:Nat} (h1:1<=m) (h6:m<=6) (h8:ms.length<=8) (hms:∀ x∈ms,okB m x):Ok (bW [tM_ ms,.int (m:Int)]) (Lev ms m):=by
 have fr:=vw h1 h6
 have s1:n9 false (W.str "weights") (W.str "bag")=.ok (.bl false):=rfl
 have s2:n9 false (W.str "bag") (W.str "bag")=.ok (.bl true):=rfl
 exists rpB,jP,fr
 refine t7 (v6 (fun i ρ=>∃ (x:Nat->Int) (a b:Sl),ρ = [.par (tM_ ms),.par (.int (m:Int)),.val (tI (vec m x)),a,b]/\i<=m/\(∀ p,p<m->0<=x p/\x p<=(i:Int)*2^300)/\(∀ p,p<i->1<=x p)/\∀ j,j<ms.length->c6 m (fun p=>x p*stM ms j p)<=0) ⟨_,_,_,rfl,by omega,fun p _=>⟨Int.le_refl _,by simp⟩,fun p hp=>absurd hp (Nat.not_lt_zero _),fun j _=>U5 fun p _=>by rw [Int.zero_mul]; exact Int.le_refl _⟩ ?_ ?_)
 ·rintro i u ρ hu ⟨x,a,b,rfl,him,hx,hx1,hx2⟩
  obtain ⟨hi,rfl⟩:=N5 hu
  obtain ⟨w,e1,hw⟩:=lu h1 h6 (fun m hm=>(hms m hm).1) h8 hi (fun j hj p hp=>gq hms hj hp)
  cases hw with
  | @w y hy=>
   have a0:L2.atI [W.str "weights",tI y] 0=some (.str "weights"):=rfl
   have a1:L2.atI [W.str "weights",tI y] 1=some (tI y):=rfl
   have ey:y=vec m fun p=>y.getD p 0:=by
    have:=AW y
    rw [hy.len] at this
    exact this.symm
   have k1:=mw (x:=x) (y:=fun p=>y.getD p 0) h6
   rw [<- ey] at k1
   refine ⟨_,rfl,?_⟩
   exists e1,a0,a1,s1,k1
   refine ⟨fun p=>x p+1*y.getD p 0,_,_,rfl,by omega,fun p hp=>?_,fun p hp=>?_,fun j hj=>?_⟩
   ·have q1:=hx p hp
    have q2:=hy.nn p hp
    have:((i+1:Nat):Int)*2^300=(i:Int)*2^300+2^300:=by rw [Int.natCast_succ,Int.add_mul,Int.one_mul]
    show 0<=x p+1*y.getD p 0/\x p+1*y.getD p 0<=_
    omega
   ·have q1:=hx p (by omega)
    have q2:=hy.nn p (by omega)
    show 1<=x p+1*y.getD p 0
    by_cases e:p=i
    ·subst e
     have:=hy.one
     omega
    ·have:=hx1 p (by omega)
     omega
   ·have q1:=hx2 j hj
    have q2:=hy.down j hj
    have e:c6 m (fun p=>(x p+1*y.getD p 0)*stM ms j p)=c6 m (fun p=>x p*stM ms j p)+c6 m fun p=>y.getD p 0*stM ms j p:=by
     rw [<- C6]
     exact i5 fun p _=>by rw [Int.one_mul,Int.add_mul]
    show c6 m (fun p=>(x p+1*y.getD p 0)*stM ms j p)<=0
    omega
  | @b y hy=>
   have a0:L2.atI [W.str "bag",tI y] 0=some (.str "bag"):=rfl
   have a1:L2.atI [W.str "bag",tI y] 1=some (tI y):=rfl
   refine ⟨_,rfl,?_⟩
   exists e1,a0,a1,s2
   exact .b
 ·rintro ρ ⟨x,a,b,rfl,him,hx,hx1,hx2⟩
  rw [List.length_map,List.length_range] at hx hx1
  have l5:=i4 m x
  obtain ⟨v,e,g,ys,rfl,hg,hyl,hye⟩:=cU (.inr rfl) (xs:=vec m x) (by rw [l5]; omega) (fun z hz=>by
   obtain ⟨p,hp,rfl⟩:=List.mem_map.mp hz
   have q:=hx p (by simpa using hp)
   refine ⟨q.1,Int.le_trans q.2 (Int.le_trans (Int.mul_le_mul_of_nonneg_right (show (m:Int)<=6 by omega) (by decide)) (by decide))⟩) ⟨0,by rw [l5]; omega,by
    rw [g9 (by omega)]
    have:=hx1 0 (by omega)
    omega⟩
  have hye:∀ p,p<m->x p=g*ys.getD p 0:=fun p hp=>by
   have:=hye p (by rw [l5]; exact hp)
   rwa [g9 hp] at this
  exists e
  refine .w ⟨by rw [hyl,l5],fun p hp=>?_,fun j hj=>hZ hg ?_⟩
  ·have q:=hx p hp
   have q2:x p<=2^400:=Int.le_trans q.2 (Int.le_trans (Int.mul_le_mul_of_nonneg_right (show (m:Int)<=6 by omega) (by decide)) (by decide))
   have:=eB hg q.1 q2 (hye p hp)
   have:=cR hg (show 0<g*ys.getD p 0 by rw [<- hye p hp]; exact hx1 p hp)
   omega
  ·rw [<- gk hye]
   exact hx2 j hj
inductive FW (b:List Int) (es:List Ent) (L:Nat->List Int) (wh:Bool) (wl:W):W->Prop where
 | lift {n k:Nat} {pn0 pn1:List Nat}:n<=es.length->F_ b es L n=some (k:Int)->Bt es 0 k pn0->Bt es k n pn1->FW b es L wh wl (.tup [.str "lift",lI (rwB es pn0),lI (rwB es pn1)])
 | all:wh=true->FW b es L wh wl (.tup [.str "all",lS (stS b es)])
 | wts {y:List Int}:wh=false->wl=.tup [.str "weights",tI y]->FW b es L wh wl (.tup [.str "weights",tI y])
 | opn {p:Nat} {y:List Int}:wh=false->wl=.tup [.str "bag",.int (p:Int),tI y]->FW b es L wh wl (.tup [.str "open"])
theorem BR {b:List Int} {es:List Ent} (hl:es.length<=100):V1 [.lst (n6 b es)]=.ok (lS (stS b es)):=by
 have e:∀ N mg me ρ (h:∀ o∈(none::es.map some),∃ ρ1,mg (kG b o) (ρ++List.replicate (N-ρ.length) Sl.un)=some ρ1/\me ρ1=.ok (tI (stO b o))),j8 N mg yes me (n6 b es) ρ=.ok (lS (stS b es)):=fun N mg me ρ h=>by
  rw [xl,j0 (fun o=>tI (stO b o)) _ _ ρ (by simp; omega) h,<- st_O]
  show _=R.ok (W.lst (((none::es.map some).map (stO b)).map tI))
  rw [List.map_map]; rfl
 exists rpB,cf
 rw [e]
 ·exists rp18
 ·intro o ho
  refine ⟨_,rfl,?_⟩
  cases o with
  | none=>
   have a0:L2.atI [tI b,W.non,W.non] 0=some (tI b):=rfl
   have ro:kG b none=.tup [tI b,.non,.non]:=rfl
   exists ro,a0
   rfl
  | some e=>
   have a0:L2.atI [tI e.1,.int (e.2.1:Int),.int (e.2.2:Int)] 0=some (tI e.1):=rfl
   have ro:kG b (some e)=.tup [tI e.1,.int (e.2.1:Int),.int (e.2.2:Int)]:=rfl
   exists ro,a0
   rfl
theorem lx {b:List Int} {es:List Ent} {L R:Nat->List Int} {ms:List Mv} {most:Nat} {wh:Bool} {wl:W} (e2:bW [tM_ ms,.int (b.length:Int)]=.ok wl) (hw:Lev ms b.length wl) (hfl:bX [.tup [tI b,tM_ ms],.int (most:Int)]=.ok (.tup [.lst (n6 b es),.bl wh])) (hp:∀ (i:Nat) (e:Ent),es[i]?=some e->e.2.1<=i) (hl:es.length<=100) (hL:∀ n,n<=es.length->Pt es n (L n) (R n)) (hs:∀ a,a<=es.length->(sA b es a).length=b.length):Ok (bv [.tup [tI b,tM_ ms],.int (most:Int)]) (FW b es L wh wl):=by
 have f0:L2.atI [W.lst (n6 b es),W.bl wh] 0=some (.lst (n6 b es)):=rfl
 have f1:L2.atI [W.lst (n6 b es),W.bl wh] 1=some (.bl wh):=rfl
 have m0:L2.atI [tI b,tM_ ms] 0=some (tI b):=rfl
 have m1:L2.atI [tI b,tM_ ms] 1=some (tM_ ms):=rfl
 obtain ⟨w,e1,hw1⟩:=vd L R hp hl hL hs
 cases hw1 with
 | @some n a hn hF hless=>
  obtain ⟨k,l1,r1,l0,r0,pn1,pn0,rfl,hk,p1,hs1,B1,hb1,p0,hs0,B0,hb0⟩:=wo hp hL hn hF
  have k1:=gy (b:=b) hp hl hn (hL n hn) p1 hs1 hb1
  have k0:=gy (b:=b) hp hl (show k<=es.length by omega) p1 p0 hs0 hb0
  have k0:D2 [.lst (n6 b es),.int 0,.int (k:Int)]=.ok (lI (rwB es pn0)):=k0
  have k2:cX [.lst (n6 b es),.int (k:Int)]=.ok (lI (rwB es pn0)):=by
   exists rpB,ic,k0
  have g0:L2.atI [W.int (k:Int),.int (n:Int)] 0=some (.int (k:Int)):=rfl
  have g1:L2.atI [W.int (k:Int),.int (n:Int)] 1=some (.int (n:Int)):=rfl
  exists rpB,O1,hfl,f0,e1,g0,g1,k1,k2
  exact ⟨_,rfl,.lift hn hF B0 B1⟩
 | none hall=>
  have ki:=BR (b:=b) hl
  have s1:n9 false (W.str "weights") (W.str "weights")=.ok (.bl true):=rfl
  have s2:n9 false (W.str "bag") (W.str "weights")=.ok (.bl false):=rfl
  cases wh with
  | true=>
   exists rpB,O1,hfl,f0,f1,e1,ki
   exact ⟨_,rfl,.all rfl⟩
  | false=>
   cases hw with
   | @b p y=>
    have a0:L2.atI [W.str "bag",.int (p:Int),tI y] 0=some (.str "bag"):=rfl
    exists rpB,O1,hfl,f0,f1,e1,m0,m1,e2,a0,s2
    exact ⟨_,rfl,.opn rfl rfl⟩
   | @w y _=>
    have a0:L2.atI [W.str "weights",tI y] 0=some (.str "weights"):=rfl
    exists rpB,O1,hfl,f0,f1,e1,m0,m1,e2,a0,s1
    exact ⟨_,rfl,.wts rfl rfl⟩
theorem jW (p:List Int):∀ qs:List (List Int),((pds (qs.map tI)).any fun y=>PyData.eqv y (pd (tI p)))=decide (p∈qs)
 | []=>by simp [pds]
 | q::qs=>by
  have g:=jW p qs
  have e:PyData.eqv (pd (tI q)) (pd (tI p))=decide (q=p):=eqI q p
  simp only [List.map_cons,pds,List.any_cons,g,e]
  by_cases h:q=p
  ·subst h; simp
  ·have h':¬ p=q:=fun e=>h e.symm
   simp [h,h']
theorem nX (neg:Bool) (p:List Int) (qs:List (List Int)):fIn neg (tI p) (lS qs)=.ok (.bl (if neg then !decide (p∈qs) else decide (p∈qs))):=by
 have e:inW (tI p) (lS qs)=some (decide (p∈qs)):=congrArg some (jW p qs)
 unfold fIn
 rw [df,gt,Bool.and_self,if_pos rfl,e]
theorem aF (f:Nat->Int):∀ n:Nat,((List.range n).map f).sum=c6 n f
 | 0=>rfl
 | n+1=>by
  rw [List.range_succ,List.map_append,List.sum_append,aF f n]
  show _+(f n+0)=c6 n f+f n
  omega
theorem Bt.len {es:List Ent} (hp:∀ (i:Nat) (e:Ent),es[i]?=some e->e.2.1<=i) {k:Nat}:∀ {n:Nat} {pn:List Nat},Bt es k n pn->pn.length<=n
 | _,_,.self=>Nat.zero_le _
 | _,_,.step h _ b=>by
  have:=hp _ _ h
  have:=b.len hp
  rw [List.length_cons]; omega
theorem gf (z:Int):L0 [.int z]=.ok (.bl true):=by exists rpB,bf
theorem jq {y:List Int} (hl:y.length<=1000):∀ N mg me ρ (_:∀ x∈y,∃ ρ1,mg (.int x) (ρ++List.replicate (N-ρ.length) Sl.un)=some ρ1/\me ρ1=.ok (.bl true)),j8 N mg yes me (y.map W.int) ρ=.ok (.lst ((y.map fun _=>true).map W.bl)):=fun N mg me ρ h=>by
 rw [j0 (fun _=>W.bl true) _ _ ρ hl h,List.map_map]; rfl
theorem iy {α:Type} (y:List α):bp (y.map fun _=>true)=true:=by
 unfold bp
 rw [List.all_map,List.all_eq_true]
 exact fun _ _=>rfl
theorem iw {xs:List Int} {c:Int} (hl:xs.length<=1000) (h:∀ x∈xs,0<=x/\x<c):Ok (G9 [lI xs,.int c]) fun v=>v=.bl true:=by
 exists rpB,ay
 rw [jq hl]
 rotate_left
 ·intro x hx
  have q:=h x hx
  have d1:decide (0<=x)=true:=decide_eq_true q.1
  have d2:decide (x<c)=true:=decide_eq_true q.2
  refine ⟨_,rfl,?_⟩
  exists gf,d1,d2
 exists iy
 exact ⟨_,rfl,rfl⟩
theorem jU {s:List Int} {m:Mv} (h6:s.length<=6) (hm:okN s.length m):D3 [tI s,mW m]=.ok (if n4 s m.1 then tI (r9 s m) else .non):=by
 have fin:Ok (D3 [tI s,mW m]) fun v=>v=if n4 s m.1 then tI (r9 s m) else .non:=by
  have a0:L2.atI [tI m.1,tI m.2] 0=some (tI m.1):=rfl
  have a1:L2.atI [tI m.1,tI m.2] 1=some (tI m.2):=rfl
  have l1:=hm.1
  have l2:=hm.2.1
  exists rpB,az
  refine t7 (v6 (fun i ρ=>∃ x,ρ = [.par (tI s),.par (mW m),.own (((List.range i).map fun k=>s.getD k 0+(m.2.getD k 0-m.1.getD k 0)).map W.int),x]/\∀ k,k<i->m.1.getD k 0<=s.getD k 0) ⟨_,rfl,fun k hk=>absurd hk (Nat.not_lt_zero _)⟩ ?_ ?_)
  ·rintro i u ρ hu ⟨_,rfl,hall⟩
   obtain ⟨hi,rfl⟩:=N5 hu
   refine ⟨_,rfl,?_⟩
   exists a0,a1
   refine du (fun h=>?_) (fun h=>?_)
   ·exists rp18
    rw [sM hi (by simpa using h)]; rfl
   ·exists a0,a1
    refine ⟨.par (.int (i:Int)),?_,fun k hk=>?_⟩
    ·rw [List.range_succ,List.map_append,List.map_append]
     have:s.getD i 0-m.1.getD i 0+m.2.getD i 0=s.getD i 0+(m.2.getD i 0-m.1.getD i 0):=by omega
     simp only [this,List.map_cons,List.map_nil,List.map_append]
    ·by_cases e:k=i
     ·subst e; simpa using h
     ·exact hall k (by omega)
  ·rintro ρ ⟨_,rfl,hall⟩
   rw [List.length_map,List.length_range] at hall
   exists rp18
   rw [sL hall]; rfl
 obtain ⟨v,e,rfl⟩:=fin
 exact e
theorem nF {b:List Int} {ms:List Mv} {cs:List Int} (P:List Int->Prop) (h6:b.length<=6) (hc:cs.length<=200) (hms:∀ m∈ms,okN b.length m) (h8:ms.length<=8) (hb:P b) (hP:∀ s,P s->s.length=b.length/\∀ m∈ms,n4 s m.1=true->P (r9 s m)):Ok (G8 [tI b,tM_ ms,lI cs]) fun v=>∃ ss:List (List Int),v=lS ss/\ss.length<=201/\∀ s∈ss,P s:=by
 exists rpB,ax,O3 (Q7 b)
 refine t7 (v6 (fun i ρ=>∃ (ss:List (List Int)) (s:List Int) (x y:Sl),ρ = [.par (tI b),.par (tM_ ms),.par (lI cs),.own ((ss ++ [s]).map tI),x,y]/\ss.length<=i/\∀ s'∈ss ++ [s],P s') ⟨[],b,_,_,rfl,by simp,fun s' hs=>by rw [List.mem_singleton.mp hs]; exact hb⟩ ?_ ?_)
 ·rintro i u ρ hu ⟨ss,s,x,y,rfl,hl,hss⟩
  obtain ⟨hi,rfl⟩:=ib hu
  have hs:=hss s (by simp)
  obtain ⟨hsl,hsP⟩:=hP s hs
  have al:L2.atI ((ss ++ [s]).map tI) (-1)=some (tI s):=by
   unfold L2.atI
   have e:L2.ixN ((ss ++ [s]).map tI).length (-1)=some ss.length:=by
    unfold L2.ixN
    rw [if_neg (by omega),if_pos (by simp; omega)]
    simp
    omega
   rw [e]
   simp
  have eb:∀ N mg me ρ (h:∀ m∈ms,∃ ρ1,mg (mW m) (ρ++List.replicate (N-ρ.length) Sl.un)=some ρ1/\me ρ1=.ok (if n4 s m.1 then tI (r9 s m) else .non)),j8 N mg yes me (ms.map mW) ρ=.ok (.lst (ms.map fun m=>if n4 s m.1 then tI (r9 s m) else .non)):=fun N mg me ρ h=>j0 (fun m=>if n4 s m.1 then tI (r9 s m) else .non) _ _ ρ (by omega) h
  obtain ⟨qs,hqs⟩:∃ qs,qs=(ms.filter fun m=>n4 s m.1).map (r9 s):=⟨_,rfl⟩
  have ef:∀ N mg mc me ρ (h:∀ m∈ms,∃ ρ1,mg (if n4 s m.1 then tI (r9 s m) else .non) (ρ++List.replicate (N-ρ.length) Sl.un)=some ρ1/\mc ρ1=.ok (n4 s m.1)/\(n4 s m.1=true->me ρ1=.ok (tI (r9 s m)))),j8 N mg mc me (ms.map fun m=>if n4 s m.1 then tI (r9 s m) else .non) ρ=.ok (lS qs):=fun N mg mc me ρ h=>by
   rw [Q9 (fun m=>tI (r9 s m)) _ (fun m=>n4 s m.1) ms ρ (by omega) h,hqs]
   show _=R.ok (W.lst (((ms.filter fun m=>n4 s m.1).map (r9 s)).map tI))
   rw [List.map_map]; rfl
  have hqP:∀ q∈qs,P q:=fun q hq=>by
   rw [hqs] at hq
   obtain ⟨m,hm,rfl⟩:=List.mem_map.mp hq
   obtain ⟨hm,hcv⟩:=List.mem_filter.mp hm
   exact hsP m hm hcv
  refine ⟨_,rfl,?_⟩
  exists rp18
  rw [eb]
  rotate_left
  ·intro m hm
   have k1:=jU (s:=s) (m:=m) (by omega) (by rw [hsl]; exact hms m hm)
   refine ⟨_,rfl,?_⟩
   exists al,k1
  exists rp18
  rw [ef]
  rotate_left
  ·intro m hm
   refine ⟨_,rfl,?_⟩
   cases hcv:n4 s m.1 with
   | true=>
    exists rp18
    exact fun _=>trivial
   | false=>
    exists rp18
    exact fun h=>h.elim
  exists rp18
  refine bP (fun h=>?_) (fun h=>?_)
  ·have h:0<(qs.length:Int):=of_decide_eq_true h
   have q0:=Int.emod_nonneg (cs.getD i 0*48271%1000003/7) (show (qs.length:Int)≠0 by omega)
   have q1:=Int.emod_lt_of_pos (cs.getD i 0*48271%1000003/7) h
   exists rp18
   refine ⟨ss ++ [s],qs.getD (cs.getD i 0*48271%1000003/7%(qs.length:Int)).toNat [],_,_,rfl,by simp; omega,fun s' hs'=>?_⟩
   rcases List.mem_append.mp hs' with q | q
   ·exact hss s' q
   ·rw [List.mem_singleton.mp q]
    refine hqP _ ?_
    rw [List.getD_eq_getElem?_getD,List.getElem?_eq_getElem (by omega)]
    exact List.getElem_mem _
  ·exists rp18
   exact ⟨ss,s,_,_,rfl,by omega,hss⟩
 ·rintro ρ ⟨ss,s,x,y,rfl,hl,hss⟩
  rw [List.length_map] at hl
  exists rp18
  exact ⟨ss ++ [s],rfl,by simp; omega,hss⟩
def ndB (k:Nat) (pn:List Nat):List Nat:=k::pn.reverse.map (·+1)
theorem Z6 {α:Type} {xs ys:List α} {d:α} {i:Nat} (h:i<xs.length):(xs++ys).getD i d=xs.getD i d:=by
 rw [List.getD_eq_getElem?_getD,List.getD_eq_getElem?_getD,List.getElem?_append_left h]
theorem cW {α:Type} {xs:List α} {y d:α} {i:Nat} (h:xs.length=i):(xs ++ [y]).getD i d=y:=by
 subst h
 rw [List.getD_eq_getElem?_getD,List.getElem?_append_right (Nat.le_refl _),Nat.sub_self]; rfl
theorem Bt.nodes {es:List Ent} {k n:Nat} {pn:List Nat} (B:Bt es k n pn):(ndB k pn).getD pn.length 0=n/\∀ i,i<pn.length->∃ j e,es[j]?=some e/\(ndB k pn).getD i 0=e.2.1/\(ndB k pn).getD (i+1) 0=j+1/\(rwB es pn).getD i 0=(e.2.2:Int):=by
 induction B with
 | self=>exact ⟨rfl,fun i hi=>absurd hi (Nat.not_lt_zero _)⟩
 | @step j e pn he _ _ ih=>
  have l1:(ndB k pn).length=pn.length+1:=by simp [ndB]
  have l2:(rwB es pn).length=pn.length:=by simp [rwB]
  have e1:ndB k (j::pn)=ndB k pn ++ [j+1]:=by
   unfold ndB
   rw [List.reverse_cons,List.map_append,List.cons_append]; rfl
  have e2:rwB es (j::pn)=rwB es pn ++ [(e.2.2:Int)]:=by
   unfold rwB
   rw [List.reverse_cons,List.map_append,<- BM he]; rfl
  rw [e1,e2,List.length_cons]
  refine ⟨cW l1,fun i hi=>?_⟩
  by_cases q:i=pn.length
  ·subst q
   exact ⟨j,e,he,by rw [Z6 (by omega)]; exact ih.1,cW l1,cW l2⟩
  ·obtain ⟨j',e',h1,h2,h3,h4⟩:=ih.2 i (by omega)
   exact ⟨j',e',h1,by rw [Z6 (by omega)]; exact h2,by rw [Z6 (by omega)]; exact h3,by rw [Z6 (by omega)]; exact h4⟩
structure Wk (ms:List Mv) (m:Nat) (row:List Int) (V:Nat->Nat->Int):Prop where
 mv:∀ i,i<row.length->0<=row.getD i 0/\row.getD i 0<(ms.length:Int)
 can:∀ i,i<row.length->∀ p,p<m->(mvN ms (row.getD i 0).toNat).1.getD p 0<=V i p
 go:∀ i,i<row.length->∀ p,p<m->V (i+1) p=V i p+stM ms (row.getD i 0).toNat p
theorem Bt.wk {b:List Int} {ms:List Mv} {es:List Ent} {A:Nat} {T:List Nat} (hK:FlK b ms es A T) {k n:Nat} {pn:List Nat} (B:Bt es k n pn):Wk ms b.length (rwB es pn) fun i p=>(sA b es ((ndB k pn).getD i 0)).getD p 0:=by
 have l2:(rwB es pn).length=pn.length:=by simp [rwB]
 refine ⟨fun i hi=>?_,fun i hi p hp=>?_,fun i hi p hp=>?_⟩
 ·obtain ⟨j,e,h1,h2,h3,h4⟩:=B.nodes.2 i (by omega)
  have:=hK.k8 e (List.mem_of_getElem? h1)
  rw [h4]; omega
 ·obtain ⟨j,e,h1,h2,h3,h4⟩:=B.nodes.2 i (by omega)
  show _<=(sA b es ((ndB k pn).getD i 0)).getD p 0
  rw [h4,h2,Int.toNat_natCast]
  exact (dX hK h1 hp).2.1
 ·obtain ⟨j,e,h1,h2,h3,h4⟩:=B.nodes.2 i (by omega)
  show (sA b es ((ndB k pn).getD (i+1) 0)).getD p 0=(sA b es ((ndB k pn).getD i 0)).getD p 0+_
  rw [h4,h3,h2,Int.toNat_natCast]
  exact (dX hK h1 hp).2.2
theorem AT {s:List Int} {m:Mv} (hs:nn s) (hm:okN s.length m) (hc:n4 s m.1=true):nn (r9 s m):=fun x hx=>by
 obtain ⟨k,hk,rfl⟩:=List.mem_map.mp hx
 have:=iK hc (show k<s.length by simpa using hk)
 have:=P4 hm.2.2.2 k
 show 0<=s.getD k 0+(m.2.getD k 0-m.1.getD k 0)
 omega
theorem wM {b:List Int} {ms:List Mv} {es:List Ent} {A:Nat} {T:List Nat} (hb:nn b) (hms:∀ z∈ms,okB b.length z) (hK:FlK b ms es A T):∀ {k:Nat},k<=es.length->∀ p,p<b.length->0<=(sA b es k).getD p 0
 | 0,_,p,_=>P4 hb p
 | i+1,hk,p,hp=>by
  have he:es[i]?=some es[i]:=List.getElem?_eq_getElem (by omega)
  obtain ⟨h1,h2,h3⟩:=dX hK he hp
  have:=hK.par i _ he
  have h4:=P4 (getM (fun m hm=>(hms m hm).1) h1).2.2.2 p
  rw [h3]
  change (ms.getD es[i].2.2 ([],[])).1.getD p 0<=_ at h2
  unfold stM
  omega
theorem eT {ms:List Mv} {m:Nat} {s row:List Int} {V:Nat->Nat->Int} {x:W} {t:Int} (hx:x=tI s\/x=lI s) (h6:m<=6) (hsl:s.length=m) (hms:∀ z∈ms,okB m z) (hr:row.length<=100) (hW:Wk ms m row V) (h0:∀ p,p<m->0<=s.getD p 0/\V 0 p=s.getD p 0) (ht:t=1\/(1<=t/\∀ p,p<m->V 0 p<=V row.length p)):Ok (N0 [x,tM_ ms,lI row,.int t]) fun v=>v=lI (vec m fun p=>s.getD p 0+t*(V row.length p-V 0 p)):=by
 have ez:∀ N mg me ρ (h:∀ y∈s,∃ ρ1,mg (.int y) (ρ++List.replicate (N-ρ.length) Sl.un)=some ρ1/\me ρ1=.ok (.int 0)),j8 N mg yes me (s.map W.int) ρ=.ok (lI (vec m fun _=>0)):=fun N mg me ρ h=>by
  rw [j0 (fun _=>W.int 0) _ _ ρ (by omega) h]
  have:(s.map fun _=>W.int 0)=(vec m fun _=>0).map W.int:=by
   unfold vec
   rw [List.map_map]
   refine List.ext_getElem (by simp [hsl]) fun q h1 h2=>?_
   simp
  rw [this]
 rcases hx with rfl | rfl
 ·exists rpB,U7
  rw [ez]
  rotate_left
  ·intro y _
   refine ⟨_,rfl,?_⟩
   exists rp18
  exists rp18
  rw [ez]
  rotate_left
  ·intro y _
   refine ⟨_,rfl,?_⟩
   exists rp18
  exists rp18
  refine t7 (v6 (fun i ρ=>∃ (lo to:Nat->Int) (a6 a7 a8 a9:Sl),ρ = [.par (tI s),.par (tM_ ms),.par (lI row),.par (.int t),.own ((vec m lo).map W.int),.own ((vec m to).map W.int),a6,a7,a8,a9]/\∀ p,p<m->0<=lo p/\lo p<=s.getD p 0/\to p=V i p-V 0 p /\ -((i:Int)*2000000000)<=to p/\to p<=(i:Int)*2000000000) ⟨_,_,_,_,_,_,rfl,fun p hp=>⟨Int.le_refl _,(h0 p hp).1,by omega,by omega,by omega⟩⟩ ?_ ?_)
  ·rintro i u ρ hu ⟨lo,to,a6,a7,a8,a9,rfl,hinv⟩
   obtain ⟨hi,rfl⟩:=ib hu
   have hmv:=hW.mv i hi
   have hcan:=hW.can i hi
   have hgo:=hW.go i hi
   clear hu
   generalize row.getD i 0=r at hmv hcan hgo ⊢
   obtain ⟨r,rfl⟩:∃ n:Nat,r=(n:Int):=⟨r.toNat,by omega⟩
   rw [Int.toNat_natCast] at hcan hgo
   have hr':r<ms.length:=by omega
   have hmr:L2.atI (ms.map mW) (r:Int)=some (mW (mvN ms r)):=C3 (k:=r) (by
    rw [List.getElem?_map]
    unfold mvN
    rw [List.getD_eq_getElem?_getD,List.getElem?_eq_getElem hr']; rfl)
   have hok:=hms (mvN ms r) (by
    unfold mvN
    rw [List.getD_eq_getElem?_getD,List.getElem?_eq_getElem hr']
    exact List.getElem_mem _)
   have hst:∀ p,stM ms r p=(mvN ms r).2.getD p 0-(mvN ms r).1.getD p 0:=fun p=>rfl
   have hsb:=fun p (hp:p<m)=>gq hms hr' hp
   have l1:=hok.1.1
   have l2:=hok.1.2.1
   refine ⟨_,rfl,?_⟩
   exists hmr
   refine aT (fun q ρ=>∃ (lo' to':Nat->Int) (a9:Sl),ρ = [.par (tI s),.par (tM_ ms),.par (lI row),.par (.int t),.own ((vec m lo').map W.int),.own ((vec m to').map W.int),.par (.int (r:Int)),.par (tI (mvN ms r).1),.par (tI (mvN ms r).2),a9]/\∀ p,p<m->lo' p=(if p<q then max (lo p) ((mvN ms r).1.getD p 0-to p) else lo p)/\to' p=(if p<q then to p+(mvN ms r).2.getD p 0-(mvN ms r).1.getD p 0 else to p)) ⟨lo,to,_,rfl,fun p hp=>⟨by rw [if_neg (Nat.not_lt_zero _)],by rw [if_neg (Nat.not_lt_zero _)]⟩⟩ ?_ ?_
   ·rintro q u ρ hu ⟨lo',to',a9,rfl,hq'⟩
    obtain ⟨hq,rfl⟩:=N5 hu
    rw [hsl] at hq
    have v1:(vec m lo').getD q 0=lo' q:=g9 hq
    have v2:(vec m to').getD q 0=to' q:=g9 hq
    have w1:=i4 m lo'
    have w2:=i4 m to'
    refine ⟨_,rfl,?_⟩
    exists v1,v2,V7
    refine ⟨_,_,_,rfl,fun p hp=>?_⟩
    have z:=hq' p hp
    have z2:=hq' q hq
    rw [if_neg (Nat.lt_irrefl q),if_neg (Nat.lt_irrefl q)] at z2
    by_cases e:p=q
    ·subst e
     rw [if_pos rfl,if_pos rfl,if_pos (Nat.lt_succ_self p),if_pos (Nat.lt_succ_self p),z2.1,z2.2]
     exact ⟨rfl,rfl⟩
    ·rw [if_neg e,if_neg e,z.1,z.2]
     by_cases e2:p<q
     ·rw [if_pos e2,if_pos e2,if_pos (by omega),if_pos (by omega)]; exact ⟨rfl,rfl⟩
     ·rw [if_neg e2,if_neg e2,if_neg (by omega),if_neg (by omega)]; exact ⟨rfl,rfl⟩
   ·rintro ρ ⟨lo',to',a9,rfl,hq'⟩
    rw [List.length_map,List.length_range,hsl] at hq'
    refine ⟨lo',to',_,_,_,_,rfl,fun p hp=>?_⟩
    have z:=hq' p hp
    rw [if_pos hp,if_pos hp] at z
    have z1:=hinv p hp
    have z2:=hcan p hp
    have z3:=hgo p hp
    have z4:=h0 p hp
    have z5:=hsb p hp
    rw [hst] at z3 z5
    change -(2000000000:Int)<=_/\_<=(2000000000:Int) at z5
    rw [z.1,z.2]
    refine ⟨by omega,by omega,by omega,by omega,by omega⟩
  ·rintro ρ ⟨lo,to,a6,a7,a8,a9,rfl,hinv⟩
   rw [List.length_map] at hinv
   have w1:=i4 m lo
   have w2:=i4 m to
   exists rp18
   refine v6 (fun q ρ=>∃ a9,ρ = [.par (tI s),.par (tM_ ms),.par (lI row),.par (.int t),.own ((vec m lo).map W.int),.own ((vec m to).map W.int),a6,a7,a8,a9]) ⟨_,rfl⟩ ?_ ?_
   ·rintro q u ρ hu ⟨a9,rfl⟩
    obtain ⟨hq,rfl⟩:=N5 hu
    rw [hsl] at hq
    have v1:(vec m lo).getD q 0=lo q:=g9 hq
    have v2:(vec m to).getD q 0=to q:=g9 hq
    have z:=hinv q hq
    have mm:=X2 (i:=t-1) (j:=max (0-to q) 0) (by omega)
    have d1:decide (s.getD q 0<lo q+(t-1)*max (0-to q) 0)=false:=decide_eq_false (by
     have:(t-1)*max (0-to q) 0=0:=by
      rcases ht with h | h
      ·rw [h]; exact Int.zero_mul _
      ·have:=h.2 q hq
       rw [show max (0-to q) 0=0 by omega]; exact Int.mul_zero _
     omega)
    refine ⟨_,rfl,?_⟩
    exists v1,v2,mm,d1
    exact ⟨_,rfl⟩
   ·rintro ρ ⟨a9,rfl⟩
    have ec:∀ N mg me ρ (h:∀ p∈List.range m,∃ ρ1,mg (.int (p:Nat)) (ρ++List.replicate (N-ρ.length) Sl.un)=some ρ1/\me ρ1=.ok (.int (s.getD p 0+t*to p))),j8 N mg yes me ((List.range m).map fun p=>W.int (p:Nat)) ρ=.ok (lI (vec m fun p=>s.getD p 0+t*to p)):=fun N mg me ρ h=>by
     rw [j0 (fun p=>W.int (s.getD p 0+t*to p)) _ _ ρ (by simp; omega) h,E7]
    exists hsl
    rw [ec]
    rotate_left
    ·intro p hp
     have hp:p<m:=by simpa using hp
     have v2:(vec m to).getD p 0=to p:=g9 hp
     have z:=hinv p hp
     have mm:=X2 (i:=t) (j:=to p) (by omega)
     refine ⟨_,rfl,?_⟩
     exists v2,mm
    exists rp18
    have:(vec m fun p=>s.getD p 0+t*to p)=vec m fun p=>s.getD p 0+t*(V row.length p-V 0 p):=by
     unfold vec
     refine List.map_congr_left fun p hp=>?_
     rw [(hinv p (by simpa using hp)).2.2.1]
    rw [this]
 ·exists rpB,U7
  rw [ez]
  rotate_left
  ·intro y _
   refine ⟨_,rfl,?_⟩
   exists rp18
  exists rp18
  rw [ez]
  rotate_left
  ·intro y _
   refine ⟨_,rfl,?_⟩
   exists rp18
  exists rp18
  refine t7 (v6 (fun i ρ=>∃ (lo to:Nat->Int) (a6 a7 a8 a9:Sl),ρ = [.par (lI s),.par (tM_ ms),.par (lI row),.par (.int t),.own ((vec m lo).map W.int),.own ((vec m to).map W.int),a6,a7,a8,a9]/\∀ p,p<m->0<=lo p/\lo p<=s.getD p 0/\to p=V i p-V 0 p /\ -((i:Int)*2000000000)<=to p/\to p<=(i:Int)*2000000000) ⟨_,_,_,_,_,_,rfl,fun p hp=>⟨Int.le_refl _,(h0 p hp).1,by omega,by omega,by omega⟩⟩ ?_ ?_)
  ·rintro i u ρ hu ⟨lo,to,a6,a7,a8,a9,rfl,hinv⟩
   obtain ⟨hi,rfl⟩:=ib hu
   have hmv:=hW.mv i hi
   have hcan:=hW.can i hi
   have hgo:=hW.go i hi
   clear hu
   generalize row.getD i 0=r at hmv hcan hgo ⊢
   obtain ⟨r,rfl⟩:∃ n:Nat,r=(n:Int):=⟨r.toNat,by omega⟩
   rw [Int.toNat_natCast] at hcan hgo
   have hr':r<ms.length:=by omega
   have hmr:L2.atI (ms.map mW) (r:Int)=some (mW (mvN ms r)):=C3 (k:=r) (by
    rw [List.getElem?_map]
    unfold mvN
    rw [List.getD_eq_getElem?_getD,List.getElem?_eq_getElem hr']; rfl)
   have hok:=hms (mvN ms r) (by
    unfold mvN
    rw [List.getD_eq_getElem?_getD,List.getElem?_eq_getElem hr']
    exact List.getElem_mem _)
   have hst:∀ p,stM ms r p=(mvN ms r).2.getD p 0-(mvN ms r).1.getD p 0:=fun p=>rfl
   have hsb:=fun p (hp:p<m)=>gq hms hr' hp
   have l1:=hok.1.1
   have l2:=hok.1.2.1
   refine ⟨_,rfl,?_⟩
   exists hmr
   refine aT (fun q ρ=>∃ (lo' to':Nat->Int) (a9:Sl),ρ = [.par (lI s),.par (tM_ ms),.par (lI row),.par (.int t),.own ((vec m lo').map W.int),.own ((vec m to').map W.int),.par (.int (r:Int)),.par (tI (mvN ms r).1),.par (tI (mvN ms r).2),a9]/\∀ p,p<m->lo' p=(if p<q then max (lo p) ((mvN ms r).1.getD p 0-to p) else lo p)/\to' p=(if p<q then to p+(mvN ms r).2.getD p 0-(mvN ms r).1.getD p 0 else to p)) ⟨lo,to,_,rfl,fun p hp=>⟨by rw [if_neg (Nat.not_lt_zero _)],by rw [if_neg (Nat.not_lt_zero _)]⟩⟩ ?_ ?_
   ·rintro q u ρ hu ⟨lo',to',a9,rfl,hq'⟩
    obtain ⟨hq,rfl⟩:=N5 hu
    rw [hsl] at hq
    have v1:(vec m lo').getD q 0=lo' q:=g9 hq
    have v2:(vec m to').getD q 0=to' q:=g9 hq
    have w1:=i4 m lo'
    have w2:=i4 m to'
    refine ⟨_,rfl,?_⟩
    exists v1,v2,V7
    refine ⟨_,_,_,rfl,fun p hp=>?_⟩
    have z:=hq' p hp
    have z2:=hq' q hq
    rw [if_neg (Nat.lt_irrefl q),if_neg (Nat.lt_irrefl q)] at z2
    by_cases e:p=q
    ·subst e
     rw [if_pos rfl,if_pos rfl,if_pos (Nat.lt_succ_self p),if_pos (Nat.lt_succ_self p),z2.1,z2.2]
     exact ⟨rfl,rfl⟩
    ·rw [if_neg e,if_neg e,z.1,z.2]
     by_cases e2:p<q
     ·rw [if_pos e2,if_pos e2,if_pos (by omega),if_pos (by omega)]; exact ⟨rfl,rfl⟩
     ·rw [if_neg e2,if_neg e2,if_neg (by omega),if_neg (by omega)]; exact ⟨rfl,rfl⟩
   ·rintro ρ ⟨lo',to',a9,rfl,hq'⟩
    rw [List.length_map,List.length_range,hsl] at hq'
    refine ⟨lo',to',_,_,_,_,rfl,fun p hp=>?_⟩
    have z:=hq' p hp
    rw [if_pos hp,if_pos hp] at z
    have z1:=hinv p hp
    have z2:=hcan p hp
    have z3:=hgo p hp
    have z4:=h0 p hp
    have z5:=hsb p hp
    rw [hst] at z3 z5
    change -(2000000000:Int)<=_/\_<=(2000000000:Int) at z5
    rw [z.1,z.2]
    refine ⟨by omega,by omega,by omega,by omega,by omega⟩
  ·rintro ρ ⟨lo,to,a6,a7,a8,a9,rfl,hinv⟩
   rw [List.length_map] at hinv
   have w1:=i4 m lo
   have w2:=i4 m to
   exists rp18
   refine v6 (fun q ρ=>∃ a9,ρ = [.par (lI s),.par (tM_ ms),.par (lI row),.par (.int t),.own ((vec m lo).map W.int),.own ((vec m to).map W.int),a6,a7,a8,a9]) ⟨_,rfl⟩ ?_ ?_
   ·rintro q u ρ hu ⟨a9,rfl⟩
    obtain ⟨hq,rfl⟩:=N5 hu
    rw [hsl] at hq
    have v1:(vec m lo).getD q 0=lo q:=g9 hq
    have v2:(vec m to).getD q 0=to q:=g9 hq
    have z:=hinv q hq
    have mm:=X2 (i:=t-1) (j:=max (0-to q) 0) (by omega)
    have d1:decide (s.getD q 0<lo q+(t-1)*max (0-to q) 0)=false:=decide_eq_false (by
     have:(t-1)*max (0-to q) 0=0:=by
      rcases ht with h | h
      ·rw [h]; exact Int.zero_mul _
      ·have:=h.2 q hq
       rw [show max (0-to q) 0=0 by omega]; exact Int.mul_zero _
     omega)
    refine ⟨_,rfl,?_⟩
    exists v1,v2,mm,d1
    exact ⟨_,rfl⟩
   ·rintro ρ ⟨a9,rfl⟩
    have ec:∀ N mg me ρ (h:∀ p∈List.range m,∃ ρ1,mg (.int (p:Nat)) (ρ++List.replicate (N-ρ.length) Sl.un)=some ρ1/\me ρ1=.ok (.int (s.getD p 0+t*to p))),j8 N mg yes me ((List.range m).map fun p=>W.int (p:Nat)) ρ=.ok (lI (vec m fun p=>s.getD p 0+t*to p)):=fun N mg me ρ h=>by
     rw [j0 (fun p=>W.int (s.getD p 0+t*to p)) _ _ ρ (by simp; omega) h,E7]
    exists hsl
    rw [ec]
    rotate_left
    ·intro p hp
     have hp:p<m:=by simpa using hp
     have v2:(vec m to).getD p 0=to p:=g9 hp
     have z:=hinv p hp
     have mm:=X2 (i:=t) (j:=to p) (by omega)
     refine ⟨_,rfl,?_⟩
     exists v2,mm
    exists rp18
    have:(vec m fun p=>s.getD p 0+t*to p)=vec m fun p=>s.getD p 0+t*(V row.length p-V 0 p):=by
     unfold vec
     refine List.map_congr_left fun p hp=>?_
     rw [(hinv p (by simpa using hp)).2.2.1]
    rw [this]
theorem qy {b:List Int} {ms:List Mv} {es:List Ent} {A:Nat} {T:List Nat} {t:Int} (h1:1<=b.length) (h6:b.length<=6) (h8:ms.length<=8) (hb:nn b) (hms:∀ z∈ms,okB b.length z) (hK:FlK b ms es A T) (hl:es.length<=100) {k n:Nat} {pn0 pn1:List Nat} (B0:Bt es 0 k pn0) (B1:Bt es k n pn1) (hf:Lft b es k n) (ht:0<=t):Ok (R9 [tI b,tM_ ms,.tup [.str "lift",lI (rwB es pn0),lI (rwB es pn1)],.int t]) fun v=>v=.bl true:=by
 have hk:=hf.hk
 have hn:=hf.hn
 have p0:=B0.len hK.par
 have p1:=B1.len hK.par
 have r0:(rwB es pn0).length=pn0.length:=by simp [rwB]
 have r1:(rwB es pn1).length=pn1.length:=by simp [rwB]
 have W0:=B0.wk hK
 have W1:=B1.wk hK
 have rowm:∀ {row:List Int} {V:Nat->Nat->Int},Wk ms b.length row V->∀ x∈row,0<=x/\x<(ms.length:Int):=fun {row V} w x hx=>by
  obtain ⟨i,hi,rfl⟩:=List.getElem_of_mem hx
  have:=w.mv i hi
  rw [List.getD_eq_getElem?_getD,List.getElem?_eq_getElem hi] at this
  exact this
 obtain ⟨_,i0,rfl⟩:=iw (by omega) (rowm W0)
 obtain ⟨_,i1,rfl⟩:=iw (by omega) (rowm W1)
 have s0:sA b es 0=b:=rfl
 obtain ⟨_,g0,rfl⟩:=eT (x:=tI b) (t:=1) (s:=b) (.inl rfl) h6 rfl hms (by omega) W0 (fun p _=>⟨P4 hb p,by show (sA b es ((ndB 0 pn0).getD 0 0)).getD p 0=_; rfl⟩) (.inl rfl)
 have e0:(vec b.length fun p=>b.getD p 0+1*((sA b es ((ndB 0 pn0).getD (rwB es pn0).length 0)).getD p 0-(sA b es ((ndB 0 pn0).getD 0 0)).getD p 0))=vec b.length fun p=>(sA b es k).getD p 0:=by
  unfold vec
  refine List.map_congr_left fun p hp=>?_
  rw [r0,B0.nodes.1]
  show b.getD p 0+1*((sA b es k).getD p 0-b.getD p 0)=_
  omega
 rw [e0] at g0
 have sn:∀ p,p<b.length->0<=(sA b es k).getD p 0:=fun p hp=>wM hb hms hK (by omega) p hp
 have v0:∀ p,p<b.length->(vec b.length fun p=>(sA b es k).getD p 0).getD p 0=(sA b es k).getD p 0:=fun p hp=>g9 hp
 have vl:=i4 b.length fun p=>(sA b es k).getD p 0
 obtain ⟨_,g1,rfl⟩:=eT (x:=lI (vec b.length fun p=>(sA b es k).getD p 0)) (t:=1+t) (.inr rfl) h6 vl hms (by omega) W1 (fun p hp=>⟨by rw [v0 p hp]; exact sn p hp,by rw [v0 p hp]; rfl⟩) (.inr ⟨by omega,fun p hp=>by
  show (sA b es ((ndB k pn1).getD 0 0)).getD p 0<=(sA b es ((ndB k pn1).getD (rwB es pn1).length 0)).getD p 0
  rw [r1,B1.nodes.1]
  exact hf.le p hp⟩)
 have e1:(vec b.length fun p=>(vec b.length fun p=>(sA b es k).getD p 0).getD p 0+(1+t)*((sA b es ((ndB k pn1).getD (rwB es pn1).length 0)).getD p 0-(sA b es ((ndB k pn1).getD 0 0)).getD p 0))=vec b.length fun p=>(sA b es k).getD p 0+(1+t)*((sA b es n).getD p 0-(sA b es k).getD p 0):=by
  unfold vec
  refine List.map_congr_left fun p hp=>?_
  have:=v0 p (by simpa using hp)
  unfold vec at this
  rw [r1,B1.nodes.1,this]; rfl
 rw [e1] at g1
 have ec:∀ N mg me ρ (h:∀ p∈List.range b.length,∃ ρ1,mg (.int (p:Nat)) (ρ++List.replicate (N-ρ.length) Sl.un)=some ρ1/\me ρ1=.ok (.int ((1+t)*((sA b es n).getD p 0-(sA b es k).getD p 0)))),j8 N mg yes me ((List.range b.length).map fun p=>W.int (p:Nat)) ρ=.ok (lI (vec b.length fun p=>(1+t)*((sA b es n).getD p 0-(sA b es k).getD p 0))):=fun N mg me ρ h=>by
  rw [j0 (fun p=>W.int ((1+t)*((sA b es n).getD p 0-(sA b es k).getD p 0))) _ _ ρ (by simp; omega) h,E7]
 have a1:L2.atI [W.str "lift",lI (rwB es pn0),lI (rwB es pn1)] 1=some (lI (rwB es pn0)):=rfl
 have a2:L2.atI [W.str "lift",lI (rwB es pn0),lI (rwB es pn1)] 2=some (lI (rwB es pn1)):=rfl
 have vl1:=i4 b.length fun p=>(sA b es k).getD p 0+(1+t)*((sA b es n).getD p 0-(sA b es k).getD p 0)
 have vl2:=i4 b.length fun p=>(1+t)*((sA b es n).getD p 0-(sA b es k).getD p 0)
 exists rpB,bi,a1,a2,i0,i1,g0,g1,vl
 rw [ec]
 rotate_left
 ·intro p hp
  have hp:p<b.length:=by simpa using hp
  have v1:(vec b.length fun p=>(sA b es k).getD p 0+(1+t)*((sA b es n).getD p 0-(sA b es k).getD p 0)).getD p 0=_:=g9 hp
  refine ⟨_,rfl,?_⟩
  exists v0 p hp,v1
  rw [show (sA b es k).getD p 0+(1+t)*((sA b es n).getD p 0-(sA b es k).getD p 0)-(sA b es k).getD p 0=(1+t)*((sA b es n).getD p 0-(sA b es k).getD p 0) by omega]
 have kb:U2 U6 [lI (vec b.length fun p=>(1+t)*((sA b es n).getD p 0-(sA b es k).getD p 0))]=.ok (.int (U6 _)):=ka (by omega)
 have d1:decide (0<=U6 (vec b.length fun p=>(1+t)*((sA b es n).getD p 0-(sA b es k).getD p 0)))=true:=decide_eq_true (by
  have:=qt (ns:=vec b.length fun p=>(1+t)*((sA b es n).getD p 0-(sA b es k).getD p 0)) (by omega)
  obtain ⟨p,hp,q⟩:=List.mem_map.mp this
  rw [<- q]
  have:=hf.le p (by simpa using hp)
  exact Int.mul_nonneg (by omega) (by omega))
 have d2:decide (1+t<=bj (vec b.length fun p=>(1+t)*((sA b es n).getD p 0-(sA b es k).getD p 0)))=true:=decide_eq_true (by
  show 1+t<=(vec b.length fun p=>(1+t)*((sA b es n).getD p 0-(sA b es k).getD p 0)).sum
  unfold vec
  rw [aF,m5]
  have:0<c6 b.length fun p=>(sA b es n).getD p 0-(sA b es k).getD p 0:=by
   obtain ⟨r,hr,hlt⟩:=hf.lt
   have:=jA (f:=fun _=>0) (g:=fun p=>(sA b es n).getD p 0-(sA b es k).getD p 0) hr (fun p hp=>by have:=hf.le p hp; show 0<=_; omega) (by show 0<_; omega)
   rwa [w6 fun _ _=>rfl] at this
  have:=Int.mul_le_mul_of_nonneg_left (show 1<=c6 b.length (fun p=>(sA b es n).getD p 0-(sA b es k).getD p 0) by omega) (show 0<=1+t by omega)
  omega)
 exists kb,d1,d2
 exact ⟨_,rfl,rfl⟩
theorem wN {b:List Int} {es:List Ent} {i:Nat} {u:W} (h:((stS b es).map tI)[i]?=some u):∃ s∈stS b es,u=tI s:=by
 rw [List.getElem?_map] at h
 obtain ⟨s,hs,rfl⟩:=Option.map_eq_some_iff.mp h
 exact ⟨s,List.mem_of_getElem? hs,rfl⟩
theorem oM {b:List Int} {ms:List Mv} {es:List Ent} {ss:List (List Int)} (h6:b.length<=6) (hms:∀ z∈ms,okB b.length z) (hK:FlK b ms es (es.length+1) []) (hl:ss.length<=201) (hss:∀ s∈ss,s∈stS b es):Ok (M3 [tI b,tM_ ms,.tup [.str "all",lS (stS b es)],lS ss]) fun v=>v=.bl true:=by
 have a1:L2.atI [W.str "all",lS (stS b es)] 1=some (lS (stS b es)):=rfl
 have fi:∀ s,s∈stS b es->fIn true (tI s) (lS (stS b es))=.ok (.bl false):=fun s hs=>by rw [nX,decide_eq_true hs]; rfl
 have fj:∀ s,s∈stS b es->fIn false (tI s) (lS (stS b es))=.ok (.bl true):=fun s hs=>by rw [nX,decide_eq_true hs]; rfl
 have k0:=fi b List.mem_cons_self
 exists rpB,X4,a1,k0
 refine t7 (v6 (fun i ρ=>∃ (x y z:Sl),ρ = [.par (tI b),.par (tM_ ms),.par (.tup [.str "all",lS (stS b es)]),.par (lS ss),x,y,z]) ⟨_,_,_,rfl⟩ ?_ ?_)
 ·rintro i u ρ hu ⟨x,y,z,rfl⟩
  obtain ⟨s,hs,rfl⟩:=wN hu
  have hsl:=lV hK hs
  have d0:decide ((s.length:Int)=(b.length:Int))=true:=decide_eq_true (by rw [hsl])
  refine ⟨_,rfl,?_⟩
  exists d0
  refine aT (fun j ρ=>∃ (y z:Sl),ρ = [.par (tI b),.par (tM_ ms),.par (.tup [.str "all",lS (stS b es)]),.par (lS ss),.par (tI s),y,z]) ⟨_,_,rfl⟩ ?_ ?_
  ·rintro j u ρ hu ⟨y,z,rfl⟩
   obtain ⟨m,hm,hmi,rfl⟩:=uT hu
   have hj:j<ms.length:=(List.getElem?_eq_some_iff.mp hmi).1
   have k1:=jU (s:=s) (m:=m) (by omega) (by rw [hsl]; exact (hms m hm).1)
   refine ⟨_,rfl,?_⟩
   cases hcv:n4 s m.1 with
   | true=>
    have em:mvN ms j=m:=by unfold mvN; rw [List.getD_eq_getElem?_getD,hmi]; rfl
    have hin:=fJ hK hs hj (by rw [em]; exact hcv)
    rw [em] at hin
    have k2:=fi _ hin
    rw [hcv,if_pos rfl] at k1
    exists k1,a1,k2
    exact ⟨_,_,rfl⟩
   | false=>
    rw [hcv,if_neg (by decide)] at k1
    exists k1
    exact ⟨_,_,rfl⟩
  ·rintro ρ ⟨y,z,rfl⟩
   exact ⟨_,_,_,rfl⟩
 ·rintro ρ ⟨x,y,z,rfl⟩
  have e:∀ N mg me ρ (h:∀ s∈ss,∃ ρ1,mg (tI s) (ρ++List.replicate (N-ρ.length) Sl.un)=some ρ1/\me ρ1=.ok (.bl true)),j8 N mg yes me (ss.map tI) ρ=.ok (.lst ((ss.map fun _=>true).map W.bl)):=fun N mg me ρ h=>by
   rw [j0 (fun _=>W.bl true) _ _ ρ (by omega) h,List.map_map]; rfl
  exists rp18
  rw [e]
  rotate_left
  ·intro s hs
   have k2:=fj s (hss s hs)
   refine ⟨_,rfl,?_⟩
   exists a1,k2
  exists iy
theorem jz {f:Nat->Int}:∀ {n:Nat},(∀ k,k<n->0<=f k)->0<=c6 n f
 | 0,_=>Int.le_refl 0
 | n+1,h=>Int.add_nonneg (jz fun k hk=>h k (Nat.lt_succ_of_lt hk)) (h n (Nat.lt_succ_self n))
theorem tx {f:Nat->Int} {r n:Nat} (hr:r<n) (h:∀ k,k<n->0<=f k):f r<=c6 n f:=by
 have:=P8 (f:=f) (g:=fun k=>if k=r then 0 else f k) hr fun k _ q=>by rw [if_neg q]
 have h2:0<=c6 n fun k=>if k=r then 0 else f k:=jz fun k hk=>by
  show 0<=if k=r then 0 else f k
  split
  ·exact Int.le_refl 0
  ·exact h k hk
 simp only [if_pos] at this
 omega
theorem db (c:Int):∀ n:Nat,c6 n (fun _=>c)=(n:Int)*c
 | 0=>by rw [Int.natCast_zero,Int.zero_mul]; rfl
 | n+1=>by
  show c6 n (fun _=>c)+c=_
  rw [db c n,Int.natCast_succ,Int.add_mul,Int.one_mul]
structure Dn (b y s:List Int):Prop where
 len:s.length=b.length
 nn:nn s
 le:c6 b.length (fun p=>y.getD p 0*s.getD p 0)<=c6 b.length fun p=>y.getD p 0*b.getD p 0
theorem Dn.go {b y s:List Int} {ms:List Mv} (hms:∀ z∈ms,okB b.length z) (hy:WtA ms b.length y) (h:Dn b y s) {m:Mv} (hm:m∈ms) (hc:n4 s m.1=true):Dn b y (r9 s m):=by
 refine ⟨by rw [iU,h.len],AT h.nn (by rw [h.len]; exact (hms m hm).1) hc,Int.le_trans ?_ h.le⟩
 obtain ⟨j,hj,rfl⟩:=List.getElem_of_mem hm
 have e:c6 b.length (fun p=>y.getD p 0*(r9 s ms[j]).getD p 0)=c6 b.length (fun p=>y.getD p 0*s.getD p 0)+c6 b.length fun p=>y.getD p 0*stM ms j p:=by
  rw [<- C6]
  refine i5 fun p hp=>?_
  rw [oI (by rw [h.len]; exact hp),Int.mul_add]
  unfold stM
  rw [List.getD_eq_getElem?_getD (l:=ms),List.getElem?_eq_getElem hj]; rfl
 have:=hy.down j hj
 omega
theorem oS {b y:List Int} {ms:List Mv} {ss:List (List Int)} (h1:1<=b.length) (h6:b.length<=6) (hb:nn b) (hb15:∀ x∈b,x<=1000000000000000) (hy:WtA ms b.length y) (hss:∀ s∈ss,Dn b y s):Ok (R7 [tI b,tM_ ms,.tup [.str "weights",tI y],lS ss]) fun v=>v=.bl true:=by
 have hyl:=hy.len
 have a1:L2.atI [W.str "weights",tI y] 1=some (tI y):=rfl
 have d0:decide ((y.length:Int)=(b.length:Int))=true:=decide_eq_true (by omega)
 have hlim:c6 b.length (fun p=>y.getD p 0*b.getD p 0)<=2^460:=by
  refine Int.le_trans (dW (g:=fun _=>2^400*1000000000000000) fun p hp=>?_) ?_
  ·have q:=hy.pos p hp
   exact Int.mul_le_mul q.2 (memD hb15 hp) (P4 hb p) (by omega)
  ·rw [db]
   exact Int.le_trans (Int.mul_le_mul_of_nonneg_right (show (b.length:Int)<=6 by omega) (by decide)) (by decide)
 have one:∀ s,Dn b y s->∀ p,p<b.length->0<=s.getD p 0/\s.getD p 0<=c6 b.length fun p=>y.getD p 0*b.getD p 0:=fun s hs p hp=>by
  have s0:=P4 hs.nn p
  have q:=hy.pos p hp
  have g1:s.getD p 0<=y.getD p 0*s.getD p 0:=by
   have:=Int.mul_le_mul_of_nonneg_right q.1 s0
   omega
  have g2:=tx (f:=fun p=>y.getD p 0*s.getD p 0) hp fun k hk=>Int.mul_nonneg (by have:=(hy.pos k hk).1; omega) (P4 hs.nn k)
  have g3:=hs.le
  exact ⟨s0,by omega⟩
 have mu:∀ s,Dn b y s->∀ p,p<b.length->fI CMulB k9 (.int (y.getD p 0)) (.int (s.getD p 0))=.ok (.int (y.getD p 0*s.getD p 0)):=fun s hs p hp=>by
  have q:=hy.pos p hp
  have o:=one s hs p hp
  have b1:=B5 (z:=y.getD p 0) (k:=400) ⟨Int.le_trans (by decide) q.1,q.2⟩
  have b2:=B5 (z:=s.getD p 0) (k:=460) ⟨Int.le_trans (by decide) o.1,Int.le_trans o.2 hlim⟩
  exact X1 (by omega)
 have ec:∀ (s:List Int) N mg me ρ (h:∀ p∈List.range b.length,∃ ρ1,mg (.int (p:Nat)) (ρ++List.replicate (N-ρ.length) Sl.un)=some ρ1/\me ρ1=.ok (.int (y.getD p 0*s.getD p 0))),j8 N mg yes me ((List.range b.length).map fun p=>W.int (p:Nat)) ρ=.ok (lI (vec b.length fun p=>y.getD p 0*s.getD p 0)):=fun s N mg me ρ h=>by
  rw [j0 (fun p=>W.int (y.getD p 0*s.getD p 0)) _ _ ρ (by simp; omega) h,E7]
 have gs:∀ s:List Int,bj (vec b.length fun p=>y.getD p 0*s.getD p 0)=c6 b.length fun p=>y.getD p 0*s.getD p 0:=fun s=>aF _ _
 have bb:Dn b y b:=⟨rfl,hb,Int.le_refl _⟩
 exists rpB,bg,a1,d0
 rw [jq (by omega)]
 rotate_left
 ·intro x hx
  obtain ⟨p,hp,rfl⟩:=List.getElem_of_mem hx
  have hq:=(hy.pos p (by omega)).1
  rw [List.getD_eq_getElem?_getD,List.getElem?_eq_getElem hp] at hq
  change 1<=y[p] at hq
  have d1:decide (0<y[p])=true:=decide_eq_true (by omega)
  refine ⟨_,rfl,?_⟩
  exists gf,d1
 exists iy
 rw [ec b]
 rotate_left
 ·intro p hp
  have hp:p<b.length:=by simpa using hp
  have m1:=mu b bb p hp
  refine ⟨_,rfl,?_⟩
  exists a1,m1
 exists gs
 refine t7 (v6 (fun i ρ=>∃ (x:Sl),ρ = [.par (tI b),.par (tM_ ms),.par (.tup [.str "weights",tI y]),.par (lS ss),.val (.int (c6 b.length fun p=>y.getD p 0*b.getD p 0)),x]) ⟨_,rfl⟩ ?_ ?_)
 ·rintro i u ρ hu ⟨x,rfl⟩
  obtain ⟨s,hs,rfl⟩:∃ s∈ss,u=tI s:=by
   rw [List.getElem?_map] at hu
   obtain ⟨s,hs,rfl⟩:=Option.map_eq_some_iff.mp hu
   exact ⟨s,List.mem_of_getElem? hs,rfl⟩
  have hs:=hss s hs
  have sl:=hs.len
  refine ⟨_,rfl,?_⟩
  exists rp18
  rw [ec s]
  rotate_left
  ·intro p hp
   have hp:p<b.length:=by simpa using hp
   have m1:=mu s hs p hp
   refine ⟨_,rfl,?_⟩
   exists a1,m1
  have kb:U2 Q8 [tI s]=.ok (.int (Q8 s)):=jZ (by omega)
  have d1:decide ((c6 b.length fun p=>y.getD p 0*b.getD p 0)<c6 b.length fun p=>y.getD p 0*s.getD p 0)=false:=decide_eq_false (by have:=hs.le; omega)
  have d2:decide ((c6 b.length fun p=>y.getD p 0*b.getD p 0)<Q8 s)=false:=decide_eq_false (by
   obtain ⟨p,hp,q⟩:=List.getElem_of_mem (qu (ns:=s) (by omega))
   have:=(one s hs p (by omega)).2
   rw [List.getD_eq_getElem?_getD,List.getElem?_eq_getElem hp,q] at this
   change Q8 s<=_ at this
   omega)
  exists gs,kb,d1,d2
  exact ⟨_,rfl⟩
 ·rintro ρ ⟨x,rfl⟩
  exists rp18
theorem law_pure (ns:List Int) (hlen:ns.length<=63) (_:∀ x∈ns,Builtin.Int.intBits x<=1048576):gc [.scr (ns.map W.int)]=.ok (.bl true):=by
 have fin:Ok (gc [.scr (ns.map W.int)]) fun v=>v=.bl true:=by
  obtain ⟨_,e1,b,ms,rfl,h1,h6,hbn,hms,h8,hb15⟩:=qV (ns:=ns)
  obtain ⟨_,e40,d40,rfl,h400,h401⟩:=F5 (ns:=ns) (k:=40) (m:=2) (by omega) (by omega) (by omega)
  obtain ⟨_,e41,d41,rfl,h410,h411⟩:=F5 (ns:=ns) (k:=41) (m:=30) (by omega) (by omega) (by omega)
  obtain ⟨_,e42,c,rfl⟩:=af (ns:=ns) (k:=42)
  exists rpB,sv,e1,e40
  refine t7 (mT (fun ρ=>∃ most:Nat,ρ = [.par (.scr (ns.map W.int)),.par (tI b),.par (tM_ ms),.val (.int (most:Int)),.un]/\1<=most/\most<=30) ?_ ?_)
  ·refine bP (fun h=>?_) (fun h=>?_)
   ·exists e41
    exact ⟨(1+d41).toNat,by rw [Int.toNat_of_nonneg (by omega)],by omega,by omega⟩
   ·exists rp18
    exact ⟨30,rfl,by omega,by omega⟩
  rintro ρ ⟨most,rfl,hm1,hm30⟩
  obtain ⟨_,e2,es,wh,rfl,hE1,hE⟩:=qW (b:=b) (ms:=ms) (most:=most) h6 (fun m hm=>(hms m hm).1) h8 hm1 (by omega)
  obtain ⟨A,T,hK,hwh⟩:∃ A T,FlK b ms es A T/\(wh=true->FlK b ms es (es.length+1) []):=by
   rcases hE with ⟨_,h⟩ | ⟨hw,_,A,T,k,h,_⟩
   ·exact ⟨_,_,h,fun _=>h⟩
   ·exact ⟨_,_,h,fun q=>by rw [hw] at q; cases q⟩
  have hp:=hK.par
  have hl:es.length<=100:=by omega
  obtain ⟨L,R,hL⟩:∃ L R:Nat->List Int,∀ n,n<=es.length->Pt es n (L n) (R n):=by
   refine ⟨fun n=>if h:n<=es.length then (Pt.ex hp n h).choose else [],fun n=>if h:n<=es.length then (Pt.ex hp n h).choose_spec.choose else [],fun n hn=>?_⟩
   dsimp only
   rw [dif_pos hn,dif_pos hn]
   exact (Pt.ex hp n hn).choose_spec.choose_spec
  have hs:=fun a (ha:a<=es.length)=>dh hK ha
  obtain ⟨wl,e5,hwl⟩:=qz h1 h6 h8 hms
  obtain ⟨wf,e3,hwf⟩:=lx e5 hwl e2 hp hl hL hs
  have hcut:C8 ns none (some 200)=ns:=by
   unfold C8
   rw [HT.sIx_none,show ((200:Int))=((200:Nat):Int) from rfl,HT.sIx_nat,List.drop_zero,List.take_of_length_le (by omega)]
  have y1:n9 false (W.str "lift") (W.str "lift")=.ok (.bl true):=rfl
  have y2:n9 false (W.str "all") (W.str "lift")=.ok (.bl false):=rfl
  have y3:n9 false (W.str "weights") (W.str "lift")=.ok (.bl false):=rfl
  have y4:n9 false (W.str "open") (W.str "lift")=.ok (.bl false):=rfl
  have y5:n9 false (W.str "all") (W.str "all")=.ok (.bl true):=rfl
  have y6:n9 false (W.str "weights") (W.str "all")=.ok (.bl false):=rfl
  have y7:n9 false (W.str "open") (W.str "all")=.ok (.bl false):=rfl
  have y8:n9 false (W.str "weights") (W.str "weights")=.ok (.bl true):=rfl
  have y9:n9 false (W.str "open") (W.str "weights")=.ok (.bl false):=rfl
  cases hwf with
  | @lift n k pn0 pn1 hn hF B0 B1=>
   have a0:L2.atI [W.str "lift",lI (rwB es pn0),lI (rwB es pn1)] 0=some (.str "lift"):=rfl
   obtain ⟨_,k1,rfl⟩:=qy (t:=c*982451653%1000000000000000000000000000000000000000000000000000000000000) h1 h6 h8 hbn hms hK hl B0 B1 (yH hK hL hn hF) (Int.emod_nonneg _ (by decide))
   exists e3,a0,y1,e42,k1
  | all q=>
   have a0:L2.atI [W.str "all",lS (stS b es)] 0=some (.str "all"):=rfl
   obtain ⟨_,k0,ss,rfl,hsl,hss⟩:=nF (b:=b) (ms:=ms) (cs:=ns) (fun s=>s∈stS b es) h6 (by omega) (fun m hm=>(hms m hm).1) h8 List.mem_cons_self (fun s hs=>⟨lV hK hs,fun m hm hc=>by
    obtain ⟨j,hj,rfl⟩:=List.getElem_of_mem hm
    have em:mvN ms j=ms[j]:=by unfold mvN; rw [List.getD_eq_getElem?_getD,List.getElem?_eq_getElem hj]; rfl
    have:=fJ (hwh q) hs hj (by rw [em]; exact hc)
    rwa [em] at this⟩)
   obtain ⟨_,k1,rfl⟩:=oM h6 hms (hwh q) hsl hss
   exists e3,a0,y2,y5,hcut,k0,k1
  | @wts y q1 q2=>
   have a0:L2.atI [W.str "weights",tI y] 0=some (.str "weights"):=rfl
   have hy:=hwl.wt q2
   obtain ⟨_,k0,ss,rfl,hsl,hss⟩:=nF (b:=b) (ms:=ms) (cs:=ns) (Dn b y) h6 (by omega) (fun m hm=>(hms m hm).1) h8 ⟨rfl,hbn,Int.le_refl _⟩ (fun s hs=>⟨hs.len,fun m hm hc=>hs.go hms hy hm hc⟩)
   obtain ⟨_,k1,rfl⟩:=oS h1 h6 hbn hb15 hy hss
   exists e3,a0,y3,y6,y8,hcut,k0,k1
  | @opn p y q1 q2=>
   have a0:L2.atI [W.str "open"] 0=some (.str "open"):=rfl
   have q:fEq false (.tup [.str "open"]) (.tup [.str "open"])=.ok (.bl true):=qY (by simp only [shp,L6]; decide +kernel)
   exists e3,a0,y4,y7,y9,q
 obtain ⟨v,e,rfl⟩:=fin
 exact e
end K77
set_option maxHeartbeats 4000000
open PySem L2 TP
namespace K77
def A1 {K:Frag} {d:Mode}:=(bT (K:=K) (d:=d) (g:=x8) (fun _ _=>rfl) (fun _ _ _=>.int))
def aB {K:Frag} {d:Mode}:=(bT (K:=K) (d:=d) (g:=gSub) (fun _ _=>rfl) (fun _ _ _=>.int))
def xLt {K:Frag} {d:Mode}:=(bT (K:=K) (d:=d) (g:=gLt) (fun _ _=>rfl) (fun _ _ _=>.bl))
def xGt {K:Frag} {d:Mode}:=(bT (K:=K) (d:=d) (g:=gGt) (fun _ _=>rfl) (fun _ _ _=>.bl))
def xGe {K:Frag} {d:Mode}:=(bT (K:=K) (d:=d) (g:=gGe) (fun _ _=>rfl) (fun _ _ _=>.bl))
local macro_rules | `(tactic| trivial)=>`(tactic| first | exact Or.inl rfl | exact Or.inr rfl | exact Or.inr (Or.inl rfl) | exact Or.inr (Or.inr rfl) | assumption | exact ⟨rfl,rfl,rfl,by decide +kernel,rfl,by decide +kernel,by decide +kernel⟩ | exact Room.mono (by assumption) (by decide) | exact hV _ | rfl | exact ⟨rfl,by decide +kernel,by decide +kernel,by decide +kernel,by decide +kernel,by decide,by decide +kernel,by decide +kernel⟩)
def top (i:Nat):Stmt:=PySem.Challenge.pw_tokenmoor_k77_whole_what_is_told_of_boun.main.body.getD i (.Pass ⟨0,0,0,0⟩)
abbrev hxS (s:String) (t:Nat):Value:=.str (Str.ofString s) t
abbrev hxI (i:Int):Value:=.int i 0
abbrev hxO (c:String) (d:Data):Obj:=⟨.type c,none,d,#[]⟩
abbrev hxE (P:Params) (s:String) (t:Nat) (v:Value):DictEntry:=⟨PyData.keyHash P (Str.ofString s),.str (Str.ofString s) t,v⟩
abbrev hxF (n q:String) (st:Stmt) (dV kV doc pm:Value) (an:Option Addr) (cd ct:Value):Data:=.func (PySem.W.fnOf (Str.ofString n) (Str.ofString q) (M4 st) (C1 st) (c0 st) dV kV doc pm an cd ct)
abbrev hxG (n:String) (i:Nat) (pm:Value) (c:Nat):Obj:=hxO "function" (hxF n n (top i) .none .none .none pm none (.ref c) .none)
abbrev hxD (n:String) (t:Nat) (l a:Int) (r8:Nat) (r11:Nat) (v13 v14:Value) (r15:Nat) (x16:Int) (t18:Nat):Data:=.fields #[.str (Str.ofString n) t,.str (Str.ofString n) (t+1),.str (Str.ofString "/claim/cut.py") (t+2),hxI l,hxI a,hxI 0,hxI 0,hxI 3,.ref r8,.bool true,hxI 181,.ref r11,.none,v13,v14,.ref r15,hxI x16,hxI l,.str (Str.ofString "/claim/cut.py") t18]
abbrev l7:Value:=hxS "law_tokenmoor_k77_whole_what_is_told_of_boun" 453
abbrev qJ:Value:=hxS "tokenmoor.balances" 272
abbrev r6:Value:=hxS "tokenmoor.ceilings" 280
abbrev eR:Value:=hxS "tokenmoor.climbs" 379
abbrev qI:Value:=hxS "tokenmoor.crowns" 367
abbrev D8:Value:=hxS "tokenmoor.floods" 395
abbrev O8:Value:=hxS "tokenmoor.moors" 232
abbrev qH:Value:=hxS "tokenmoor.walks" 264
@[irreducible] def nT:Params->Frag:=fun P=>
 (nat_lit 2,⟨.none,none,(.dict #[] 0),#[]⟩) ::
 (nat_lit 3,hxO "dict" (.dict #[hxE P "__name__" 165 (hxS "law_tokenmoor_k77_whole_what_is_told_of_boun" 453),hxE P "__doc__" 166 .none,hxE P "__package__" 167 .none,hxE P "__loader__" 168 (.builtin "__main__.__loader__#opaque"),hxE P "__spec__" 169 .none,hxE P "__annotations__" 170 (.ref 6),hxE P "__builtins__" 171 (.ref 4),hxE P "__file__" 173 (hxS "/claim/cut.py" 172),hxE P "__cached__" 174 .none,hxE P "MoorError" 206 (.ref 24),hxE P "Stuck" 231 (.ref 44),hxE P "covers" 243 (.ref 53),hxE P "able" 251 (.ref 60),hxE P "after" 257 (.ref 65),hxE P "change" 263 (.ref 70),hxE P "shifted" 271 (.ref 75),hxE P "unit" 279 (.ref 80),hxE P "ceiling" 287 (.ref 85),hxE P "first_table" 293 (.ref 90),hxE P "coming" 302 (.ref 97),hxE P "leaving" 308 (.ref 102),hxE P "pivoted" 314 (.ref 107),hxE P "cleared" 320 (.ref 112),hxE P "bag_of" 334 (.ref 119),hxE P "weights_of" 340 (.ref 124),hxE P "in_least_numbers" 346 (.ref 129),hxE P "greatest_divisor" 355 (.ref 136),hxE P "level" 366 (.ref 143),hxE P "way_back" 378 (.ref 150),hxE P "way" 388 (.ref 157),hxE P "row_between" 394 (.ref 162),hxE P "flood" 410 (.ref 169),hxE P "stands_behind" 416 (.ref 174),hxE P "stands_in" 422 (.ref 179),hxE P "row_to" 430 (.ref 186),hxE P "bounded" 442 (.ref 193),hxE P "first_lift" 452 (.ref 200),hxE P "_law_cell_at" 462 (.ref 207),hxE P "_law_draw" 471 (.ref 214),hxE P "_law_numbers" 485 (.ref 221),hxE P "_law_scale" 493 (.ref 228),hxE P "_law_moor" 499 (.ref 233),hxE P "_law_whole" 506 (.ref 240),hxE P "_law_is_row" 512 (.ref 245),hxE P "_law_gone" 518 (.ref 250),hxE P "_law_behind" 528 (.ref 257),hxE P "_law_stands" 534 (.ref 262),hxE P "_law_lifts" 540 (.ref 267),hxE P "_law_are_all" 546 (.ref 272),hxE P "_law_weigh" 552 (.ref 277),hxE P "law" 563 (.ref 284)] 51)) ::
 (nat_lit 15,hxO "tuple" (.seq #[(.type "ValueError")] 0)) ::
 (nat_lit 22,hxO "tuple" (.seq #[] 0)) ::
 (nat_lit 23,hxO "dict" (.dict #[hxE P "__module__" 196 (hxS "tokenmoor.errors" 187),hxE P "__firstlineno__" 200 (.int 2 199),hxE P "__static_attributes__" 201 (.ref 22),hxE P "__weakref__" 203 (.ref 25),hxE P "__doc__" 204 .none] 3)) ::
 (nat_lit 25,hxO "getset_descriptor" (.fields #[(hxS "__weakref__" 202),(.ref 24),(.builtin "ExceptionGroup.__weakref__"),.none])) ::
 (nat_lit 28,hxO "tuple" (.seq #[(.ref 24)] 0)) ::
 (nat_lit 40,hxO "code" (.fields #[(hxS "__init__" 219),(hxS "Stuck.__init__" 220),(hxS "/claim/cut.py" 221),(hxI 6),(hxI 2),(hxI 0),(hxI 0),(hxI 3),(.ref 35),(.bool true),(hxI 181),(.ref 36),.none,(.ref 37),(.ref 38),(.ref 39),(hxI 224),(hxI 6),(hxS "/claim/cut.py" 225)])) ::
 (nat_lit 42,hxO "tuple" (.seq #[(hxS "at" 227)] 0)) ::
 (nat_lit 43,hxO "dict" (.dict #[hxE P "__module__" 214 (hxS "tokenmoor.errors" 187),hxE P "__firstlineno__" 218 (.int 4 217),hxE P "__init__" 226 (.ref 41),hxE P "__static_attributes__" 228 (.ref 42),hxE P "__doc__" 229 .none] 2)) ::
 (nat_lit 52,hxO "code" (hxD "covers" 234 9 2 47 48 (.ref 49) (.ref 50) 51 241 242)) ::
 (nat_lit 53,hxG "covers" 4 O8 52) ::
 (nat_lit 59,hxO "code" (hxD "able" 244 14 2 54 55 (.ref 56) (.ref 57) 58 249 250)) ::
 (nat_lit 60,hxG "able" 5 O8 59) ::
 (nat_lit 64,hxO "code" (hxD "after" 252 16 2 61 62 .none .none 63 255 256)) ::
 (nat_lit 65,hxG "after" 6 O8 64) ::
 (nat_lit 69,hxO "code" (hxD "change" 258 20 1 66 67 .none .none 68 261 262)) ::
 (nat_lit 70,hxG "change" 7 O8 69) ::
 (nat_lit 74,hxO "code" (hxD "shifted" 266 23 3 71 72 .none .none 73 269 270)) ::
 (nat_lit 75,hxG "shifted" 9 qH 74) ::
 (nat_lit 79,hxO "code" (hxD "unit" 274 26 2 76 77 .none .none 78 277 278)) ::
 (nat_lit 80,hxG "unit" 11 qJ 79) ::
 (nat_lit 84,hxO "code" (hxD "ceiling" 282 29 3 81 82 .none .none 83 285 286)) ::
 (nat_lit 85,hxG "ceiling" 13 r6 84) ::
 (nat_lit 89,hxO "code" (hxD "first_table" 288 43 3 86 87 .none .none 88 291 292)) ::
 (nat_lit 90,hxG "first_table" 14 r6 89) ::
 (nat_lit 96,hxO "code" (hxD "coming" 294 48 1 91 92 (.ref 93) (.ref 94) 95 300 301)) ::
 (nat_lit 97,hxG "coming" 15 r6 96) ::
 (nat_lit 101,hxO "code" (hxD "leaving" 303 53 3 98 99 .none .none 100 306 307)) ::
 (nat_lit 102,hxG "leaving" 16 r6 101) ::
 (nat_lit 106,hxO "code" (hxD "pivoted" 309 56 4 103 104 .none .none 105 312 313)) ::
 (nat_lit 107,hxG "pivoted" 17 r6 106) ::
 (nat_lit 111,hxO "code" (hxD "cleared" 315 59 4 108 109 .none .none 110 318 319)) ::
 (nat_lit 112,hxG "cleared" 18 r6 111) ::
 (nat_lit 118,hxO "code" (hxD "bag_of" 321 61 5 113 114 (.ref 115) (.ref 116) 117 332 333)) ::
 (nat_lit 119,hxG "bag_of" 19 r6 118) ::
 (nat_lit 123,hxO "code" (hxD "weights_of" 335 67 4 120 121 .none .none 122 338 339)) ::
 (nat_lit 124,hxG "weights_of" 20 r6 123) ::
 (nat_lit 128,hxO "code" (hxD "in_least_numbers" 341 70 1 125 126 .none .none 127 344 345)) ::
 (nat_lit 129,hxG "in_least_numbers" 21 r6 128) ::
 (nat_lit 135,hxO "code" (hxD "greatest_divisor" 347 75 2 130 131 (.ref 132) (.ref 133) 134 353 354)) ::
 (nat_lit 136,hxG "greatest_divisor" 22 r6 135) ::
 (nat_lit 142,hxO "code" (hxD "level" 356 81 2 137 138 (.ref 139) (.ref 140) 141 364 365)) ::
 (nat_lit 143,hxG "level" 23 r6 142) ::
 (nat_lit 149,hxO "code" (hxD "way_back" 369 90 2 144 145 (.ref 146) (.ref 147) 148 376 377)) ::
 (nat_lit 150,hxG "way_back" 25 qI 149) ::
 (nat_lit 156,hxO "code" (hxD "way" 381 98 2 151 152 (.ref 153) (.ref 154) 155 386 387)) ::
 (nat_lit 157,hxG "way" 27 eR 156) ::
 (nat_lit 161,hxO "code" (hxD "row_between" 389 100 3 158 159 .none .none 160 392 393)) ::
 (nat_lit 162,hxG "row_between" 28 eR 161) ::
 (nat_lit 168,hxO "code" (hxD "flood" 397 104 2 163 164 (.ref 165) (.ref 166) 167 408 409)) ::
 (nat_lit 169,hxG "flood" 30 D8 168) ::
 (nat_lit 173,hxO "code" (hxD "stands_behind" 411 119 2 170 171 .none .none 172 414 415)) ::
 (nat_lit 174,hxG "stands_behind" 31 D8 173) ::
 (nat_lit 178,hxO "code" (hxD "stands_in" 417 121 1 175 176 .none .none 177 420 421)) ::
 (nat_lit 179,hxG "stands_in" 32 D8 178) ::
 (nat_lit 185,hxO "code" (hxD "row_to" 423 123 2 180 181 (.ref 182) (.ref 183) 184 428 429)) ::
 (nat_lit 186,hxG "row_to" 33 D8 185) ::
 (nat_lit 192,hxO "code" (hxD "bounded" 431 125 2 187 188 (.ref 189) (.ref 190) 191 440 441)) ::
 (nat_lit 193,hxG "bounded" 34 D8 192) ::
 (nat_lit 199,hxO "code" (hxD "first_lift" 443 135 1 194 195 (.ref 196) (.ref 197) 198 450 451)) ::
 (nat_lit 200,hxG "first_lift" 35 D8 199) ::
 (nat_lit 206,hxO "code" (hxD "_law_cell_at" 455 142 2 201 202 (.ref 203) (.ref 204) 205 460 461)) ::
 (nat_lit 207,hxG "_law_cell_at" 37 l7 206) ::
 (nat_lit 213,hxO "code" (hxD "_law_draw" 463 146 3 208 209 (.ref 210) (.ref 211) 212 469 470)) ::
 (nat_lit 214,hxG "_law_draw" 38 l7 213) ::
 (nat_lit 220,hxO "code" (hxD "_law_numbers" 472 148 5 215 216 (.ref 217) (.ref 218) 219 483 484)) ::
 (nat_lit 221,hxG "_law_numbers" 39 l7 220) ::
 (nat_lit 227,hxO "code" (hxD "_law_scale" 486 158 1 222 223 (.ref 224) (.ref 225) 226 491 492)) ::
 (nat_lit 228,hxG "_law_scale" 40 l7 227) ::
 (nat_lit 232,hxO "code" (hxD "_law_moor" 494 165 1 229 230 .none .none 231 497 498)) ::
 (nat_lit 233,hxG "_law_moor" 41 l7 232) ::
 (nat_lit 239,hxO "code" (hxD "_law_whole" 500 180 1 234 235 (.ref 236) (.ref 237) 238 504 505)) ::
 (nat_lit 240,hxG "_law_whole" 42 l7 239) ::
 (nat_lit 244,hxO "code" (hxD "_law_is_row" 507 182 2 241 242 .none .none 243 510 511)) ::
 (nat_lit 245,hxG "_law_is_row" 43 l7 244) ::
 (nat_lit 249,hxO "code" (hxD "_law_gone" 513 184 4 246 247 .none .none 248 516 517)) ::
 (nat_lit 250,hxG "_law_gone" 44 l7 249) ::
 (nat_lit 256,hxO "code" (hxD "_law_behind" 519 196 2 251 252 (.ref 253) (.ref 254) 255 526 527)) ::
 (nat_lit 257,hxG "_law_behind" 45 l7 256) ::
 (nat_lit 261,hxO "code" (hxD "_law_stands" 529 203 3 258 259 .none .none 260 532 533)) ::
 (nat_lit 262,hxG "_law_stands" 46 l7 261) ::
 (nat_lit 266,hxO "code" (hxD "_law_lifts" 535 211 4 263 264 .none .none 265 538 539)) ::
 (nat_lit 267,hxG "_law_lifts" 47 l7 266) ::
 (nat_lit 271,hxO "code" (hxD "_law_are_all" 541 222 4 268 269 .none .none 270 544 545)) ::
 (nat_lit 272,hxG "_law_are_all" 48 l7 271) ::
 (nat_lit 276,hxO "code" (hxD "_law_weigh" 547 233 4 273 274 .none .none 275 550 551)) ::
 (nat_lit 277,hxG "_law_weigh" 49 l7 276) ::
 (nat_lit 283,hxO "code" (hxD "law" 553 243 1 278 279 (.ref 280) (.ref 281) 282 561 562)) ::
 (nat_lit 284,hxG "law" 50 l7 283) ::
 []
abbrev hk (w:World):Frag:=nT w.params
structure Blt (mg:Str->Option Value):Prop where
 all_:mg "all" = none
 bool_:mg "bool" = none
 enumerate_:mg "enumerate" = none
 int_:mg "int" = none
 isinstance_:mg "isinstance" = none
 len_:mg "len" = none
 list_:mg "list" = none
 max_:mg "max" = none
 min_:mg "min" = none
 range_:mg "range" = none
 reversed_:mg "reversed" = none
 sum_:mg "sum" = none
 tuple_:mg "tuple" = none
 zip_:mg "zip" = none
def En (w:World) (mg:Str->Option Value):Prop:=∃ h:Heap,(hk w).In h/\h.Ns mainGlobals mg
theorem bn {w:World} {mg:Str->Option Value} (Y:En w mg) {x:Str} (e:PySem.W.nsIn (hk w) mainGlobals x=some none):mg x=none:=Y.elim fun _ q=>PySem.W.mg_none_of q.1 q.2 e
theorem bl {w:World} {mg:Str->Option Value} (Y:En w mg):Blt mg:=⟨bn Y (by kernel_rfl),bn Y (by kernel_rfl),bn Y (by kernel_rfl),bn Y (by kernel_rfl),bn Y (by kernel_rfl),bn Y (by kernel_rfl),bn Y (by kernel_rfl),bn Y (by kernel_rfl),bn Y (by kernel_rfl),bn Y (by kernel_rfl),bn Y (by kernel_rfl),bn Y (by kernel_rfl),bn Y (by kernel_rfl),bn Y (by kernel_rfl)⟩
abbrev FD (nm:String) (i:Nat) (pm:Value) (c:Nat):FuncData:=PySem.W.fnOf nm nm (M4 (top i)) (C1 (top i)) (c0 (top i)) .none .none .none pm none (.ref c) .none
theorem dk {w:World} {mg:Str->Option Value} (Y:En w mg) {nm:String} {i c:Nat} {f:Addr} {pm:Value} {ps:List Str}
  (e:(PySem.W.nsIn (hk w) mainGlobals nm,(hk w).lookup f,PySem.W.codeIn (hk w) (.ref c) nm,PySem.W.keepIn (hk w) (.ref f))=(some (some (.ref f)),some (hxG nm i pm c),true,true))
  (hb:∀ (kV doc pm:Value) (an:Option Addr) (cdv ct:Value) (us:List Value),us.length=ps.length->bindArgs (PySem.W.fnOf nm nm (M4 (top i)) (C1 (top i)) (c0 (top i)) .none kV doc pm an cdv ct) ⟨us,[]⟩=pure (ps.zip us)):Def (hk w) mg nm (top i) ps f (FD nm i pm c):=by
 obtain ⟨h,X,G⟩:=Y
 injection e with a e
 injection e with l e
 injection e with c k
 have F:=zE (st:=top i) l c k
 exact ⟨F,PySem.W.mg_of X G a,F.binds hb⟩
theorem okF {P:Program} {w:World} {K:Frag} {mg:Str->Option Value} {base:Heap} {x:Str} {st:Stmt} {ps:List Str} {f:Addr} {fd:FuncData} (D:Def K mg x st ps f fd) {N:List Str} {k n l:Nat} {d:Mode} {m:Rho->R Fl} (S:f9 N ps (c0 st)) (hd:d=.F\/d=.V) (hn:ps.length=n) (hl:N.length=l) (b:∀ {cdv:Value} {A:Around} {outer:List Env} {s:Shared} {H:Hp} {E:XK},Room k (A.deeper (PyProof.Rows.envOfC x (c0 st) s.heap.objs.size f cdv))->PSs (ac CX0 P w K mg base N x (c0 st) f cdv A outer s H E).nox (C1 st) (tSt K (fun _ _=>False) d m)):FnOk P w K mg base CX0 (k+1) f fd ps (spM K n d (i9 n l m)):=by
 subst hn hl
 exact D.F.ok S (fun _ _ _ _ h=>h.1) fun cdv A outer s H vs Q E hr h=>⟨_,b hr,oD hd h⟩
theorem okL {P:Program} {w:World} {K:Frag} {mg:Str->Option Value} {base:Heap} {x:Str} {st:Stmt} {ps:List Str} {f:Addr} {fd:FuncData} (D:Def K mg x st ps f fd) {N:List Str} {k n l:Nat} {d:Mode} {m:Rho->R Fl} (S:f9 N ps (c0 st)) (hd:d=.F\/d=.V) (hn:ps.length=n) (hl:N.length=l) (b:∀ {A:Around} {outer:List Env} {s:Shared} {H:Hp} {E:XK},Room k (A.deeper (PyProof.Rows.envOfC x (c0 st) s.heap.objs.size f fd.code))->PSs (ac CX0 P w K mg base N x (c0 st) f fd.code A outer s H E).nox (C1 st) (tSt K (fun _ _=>False) d m)):FnOk P w K mg base CX0 (k+1) f fd ps (spM K n d (i9 n l m)):=by
 subst hn hl
 exact D.F.okC S (fun _ _ _ _ h=>h.1) fun A outer s H vs Q E hr h=>⟨_,b hr,oD hd h⟩
theorem qcD {X:Cx} {K:Frag} {d:Mode} {e:Expr} {es:List Expr} {pos:Pos} {mr:Rho->R (List W)} {k:Nat} {f:Addr} {fd:FuncData} {ps:List Str} {x:Str} {st:Stmt} {p:Pos} {n N:Nat} {m:Rho->R Fl} (F:FnOk X.prog X.w X.K X.mg X.base CX0 k f fd ps (spM K n d (i9 n N m))) (D:Def X.K X.mg x st ps f fd)
  (ha:PA X (e::es) (tA K (fun _ _=>False) .B mr)) (hd:d=.F\/d=.V:=by first | exact .inl rfl | exact .inr rfl) (hr:Room k X.A:=by exact Room.mono (by assumption) (by decide)) (hg:Gl X x:=by rfl) (hdb:(x == ("__debug__" : Str))=false:=by decide) (he:starEach (e::es) X.env=(false,eval e X.env)::starEach es X.env:=by rfl) (hpl:(backTo pos (starEach es X.env)).any (·.1)=false:=by rfl) :
  PE X (.Call (.Name x p) (e::es) [] pos) (tM K (fun _ _=>False) d (bA (i9 n N m) mr)):=F8 F hd hr hg D.m D.F.kp D.b ha hdb he hpl
theorem BO:((99,55,26, "leaving.<locals>.<lambda>"): Addr×Nat×Nat×Str)∈L2.lamT:=by
 unfold L2.lamT; exact List.mem_cons_self
theorem o6 {X:Cx} {K:Frag} {EX:EXT} {cs:Scope} {N':List Str} {n:Nat} {tg iter elt:Expr} {ifs:List Expr} {dd:Mode} {g:TG} {mg:W->Rho->Option Rho} {mi:Rho->R (List W)} {ta:Rho->R Bool} {ma:Rho->R W} {pos:Pos} (S:f8 X.env.scope cs X.N N') (hc:X.calm=true) (hi:PI X tg iter (tIt K EX false dd mi))
  (hg:∀ cl ex s H,PG (j5 X cs cl N' ex s H) tg g) (hgt:Gt K dd g mg) (hk:C9 X.N.length g) (ht:∀ cl ex s H,PIf (j5 X cs cl N' ex s H) ifs (tT K EX ta)) (he:∀ cl ex s H,PE (j5 X cs cl N' ex s H) elt (tM K EX .V ma))
  (hn:N'.length=n:=by rfl) (hs:∀ x,foldedSetIterable iter X.env x=pure x:=by intro _; rfl):PE X (.ListComp elt [⟨tg,iter,ifs,0⟩] cs pos) (tM K EX .F (k7 n mi mg ta ma)):=by
 subst hn; exact xX S hc hi hg hgt hk ht he hs
theorem L7 {X:Cx} {K:Frag} {EX:EXT} {d:Mode} {i n:Nat} {y:Str} {py:Pos} {cs:Scope} {N':List Str} {tg iter elt:Expr} {ifs:List Expr} {dd:Mode} {g:TG} {mg:W->Rho->Option Rho} {mi:Rho->R (List W)} {ta:Rho->R Bool} {ma:Rho->R W} {cpos pos:Pos} (S:f8 X.env.scope cs X.N N') (hc:X.calm=true) (hi:PI X tg iter (tIt K EX false dd mi))
  (hg:∀ cl ex s H,PG (j5 X cs cl N' ex s H) tg g) (hgt:Gt K dd g mg) (hk:C9 X.N.length g) (ht:∀ cl ex s H,PIf (j5 X cs cl N' ex s H) ifs (tT K EX ta)) (he:∀ cl ex s H,PE (j5 X cs cl N' ex s H) elt (tM K EX .V ma))
  (hN:X.N.Nodup) (hy:X.N[i]?=some y) (hl:Loc X.env.scope y)
  (hn:N'.length=n:=by rfl) (hsw:swapsWith (.ListComp elt [⟨tg,iter,ifs,0⟩] cs cpos) (some (.Name y py)) pos.line X.env=pure true:=by rfl) (hf:X.fn y=true\/X.env.scope.names.lookup y=some .local:=by first | exact .inl rfl | exact .inr rfl | assumption)
  (hs:∀ x,foldedSetIterable iter X.env x=pure x:=by intro _; rfl):PS X (.Assign [.Name y py] (.ListComp elt [⟨tg,iter,ifs,0⟩] cs cpos) pos) (tSt K EX d (sF i (k7 n mi mg ta ma))):=by
 subst hn; exact xQ S hc hi hg hgt hk ht he hN hy hl hsw hf hs
theorem pR {X:Cx} {K:Frag} {EX:EXT} {d:Mode} {i n:Nat} {y:Str} {py:Pos} {cs:Scope} {N':List Str} {yc:Str} {tg iter elt:Expr} {ifs:List Expr} {dd:Mode} {g:TG} {mg:W->Rho->Option Rho} {mi:Rho->R (List W)} {ta:Rho->R Bool} {ma:Rho->R W} {cpos pos:Pos} (S:D0 X.env.scope cs X.N N' yc) (hc:X.calm=true) (hi:PI X tg iter (tIt K EX false dd mi))
  (hg:∀ cl ex s H,PG (j7 X cs yc cl N' ex s H) tg g) (hgt:Gt K dd g mg) (hk:C9 X.N.length g) (ht:∀ cl ex s H,PIf (j7 X cs yc cl N' ex s H) ifs (tT K EX ta)) (he:∀ cl ex s H,PE (j7 X cs yc cl N' ex s H) elt (tM K EX .V ma))
  (hN:X.N.Nodup) (hy:X.N[i]?=some y) (hl:Loc X.env.scope y)
  (hn:N'.length=n:=by rfl) (hsw:swapsWith (.ListComp elt [⟨tg,iter,ifs,0⟩] cs cpos) (some (.Name y py)) pos.line X.env=pure true:=by rfl) (hf:X.fn y=true\/X.env.scope.names.lookup y=some .local:=by first | exact .inl rfl | exact .inr rfl | assumption)
  (hs:∀ x,foldedSetIterable iter X.env x=pure x:=by intro _; rfl):PS X (.Assign [.Name y py] (.ListComp elt [⟨tg,iter,ifs,0⟩] cs cpos) pos) (tSt K EX d (sF i (k7 n mi mg ta ma))):=by
 subst hn; exact uc S hc hi hg hgt hk ht he hN hy hl hsw hf hs
theorem us0 {P:List Value->Prop} (h:P []):∀ us:List Value,us.length=0->P us:=fun us e=>by
 rw [List.length_eq_zero_iff.mp e]; exact h
theorem us1 {P:List Value->Prop} (h:∀ a0,P [a0]):∀ us:List Value,us.length=1->P us:=fun us e=>by
 cases us with
 | nil=>cases e
 | cons a us=>exact us0 (P:=fun us=>P (a::us)) (h a) us (Nat.succ.inj e)
theorem us2 {P:List Value->Prop} (h:∀ a0 a1,P [a0,a1]):∀ us:List Value,us.length=2->P us:=fun us e=>by
 cases us with
 | nil=>cases e
 | cons a us=>exact us1 (P:=fun us=>P (a::us)) (fun a1=>h a a1) us (Nat.succ.inj e)
theorem us3 {P:List Value->Prop} (h:∀ a0 a1 a2,P [a0,a1,a2]):∀ us:List Value,us.length=3->P us:=fun us e=>by
 cases us with
 | nil=>cases e
 | cons a us=>exact us2 (P:=fun us=>P (a::us)) (fun a1 a2=>h a a1 a2) us (Nat.succ.inj e)
theorem us4 {P:List Value->Prop} (h:∀ a0 a1 a2 a3,P [a0,a1,a2,a3]):∀ us:List Value,us.length=4->P us:=fun us e=>by
 cases us with
 | nil=>cases e
 | cons a us=>exact us3 (P:=fun us=>P (a::us)) (fun a1 a2 a3=>h a a1 a2 a3) us (Nat.succ.inj e)
theorem us5 {P:List Value->Prop} (h:∀ a0 a1 a2 a3 a4,P [a0,a1,a2,a3,a4]):∀ us:List Value,us.length=5->P us:=fun us e=>by
 cases us with
 | nil=>cases e
 | cons a us=>exact us4 (P:=fun us=>P (a::us)) (fun a1 a2 a3 a4=>h a a1 a2 a3 a4) us (Nat.succ.inj e)
theorem cK:f9 ["stand", "other", "number", "wanted"] ["stand", "other"] (c0 (top 4)):=by trivial
theorem wY:f9 ["stand", "move"] ["stand", "move"] (c0 (top 5)):=by trivial
theorem pq:f9 ["move"] ["move"] (c0 (top 7)):=by trivial
theorem tH:f9 ["stand", "move"] ["stand", "move"] (c0 (top 6)):=by trivial
theorem mB:f9 ["stand", "step", "times"] ["stand", "step", "times"] (c0 (top 9)):=by trivial
theorem wX:f9 ["place", "many"] ["place", "many"] (c0 (top 11)):=by trivial
theorem O5:f9 ["moves", "place", "many", "steps", "table"] ["moves", "place", "many"] (c0 (top 14)):=by trivial
theorem cL:f9 ["table", "column", "gain"] ["table"] (c0 (top 15)):=by trivial
theorem fx:f9 ["table", "held", "column", "lines"] ["table", "held", "column"] (c0 (top 16)):=by trivial
theorem mE:f9 ["row", "by", "column", "scale"] ["row", "by", "column", "scale"] (c0 (top 18)):=by trivial
theorem fw:f9 ["table", "line", "column", "scale", "by"] ["table", "line", "column", "scale"] (c0 (top 17)):=by trivial
theorem A7:f9 ["one", "other", "rest"] ["one", "other"] (c0 (top 22)):=by trivial
theorem A6:f9 ["numbers", "shared", "number"] ["numbers"] (c0 (top 21)):=by trivial
theorem aK:f9 ["table", "place", "scale", "many_moves", "losses"] ["table", "place", "scale", "many_moves"] (c0 (top 20)):=by trivial
theorem Y4:f9 ["table", "held", "column", "scale", "many_moves", "times", "line", "holder"] ["table", "held", "column", "scale", "many_moves"] (c0 (top 19)):=by trivial
theorem A8:f9 ["moves", "place", "many", "table", "held", "scale", "column", "line"] ["moves", "place", "many"] (c0 (top 13)):=by trivial
theorem W3:f9 ["moves", "many", "total", "place", "told"] ["moves", "many"] (c0 (top 23)):=by trivial
theorem P0:f9 ["tree", "number", "numbers", "at"] ["tree", "number"] (c0 (top 25)):=by trivial
theorem Bh:f9 ["tree", "number"] ["tree", "number"] (c0 (top 27)):=by trivial
theorem aj:f9 ["tree", "elder", "number", "path"] ["tree", "elder", "number"] (c0 (top 28)):=by trivial
theorem dg:f9 ["moor", "stand"] ["moor", "stand"] (c0 (top 31)):=by trivial
theorem J4:f9 ["moor", "most", "rows", "known", "at", "stand", "behind", "number"] ["moor", "most"] (c0 (top 30)):=by trivial
theorem jf:f9 ["rows"] ["rows"] (c0 (top 32)):=by trivial
theorem pp:f9 ["rows", "number"] ["rows", "number"] (c0 (top 33)):=by trivial
theorem K1:f9 ["rows", "number", "row", "elder"] ["rows"] (c0 (top 35)):=by trivial
theorem N4:f9 ["moor", "most", "told", "rows", "lift", "height"] ["moor", "most"] (c0 (top 34)):=by trivial
theorem ee:f9 ["_law_script", "_law_k"] ["_law_script", "_law_k"] (c0 (top 37)):=by trivial
theorem jg:f9 ["_law_script", "_law_k", "_law_many"] ["_law_script", "_law_k", "_law_many"] (c0 (top 38)):=by trivial
theorem z6:f9 ["_law_script", "_law_at", "_law_places", "_law_menu", "_law_scale_here", "_law_found", "_law_k", "_law_held"] ["_law_script", "_law_at", "_law_places", "_law_menu", "_law_scale_here"] (c0 (top 39)):=by trivial
theorem aL:f9 ["_law_script", "_law_kind"] ["_law_script"] (c0 (top 40)):=by trivial
theorem o9:f9 ["_law_script", "_law_places", "_law_scale_here", "_law_moves", "_law_k", "_law_at", "_law_take", "_law_put", "_law_far", "_law_times", "_law_begin"] ["_law_script"] (c0 (top 41)):=by trivial
theorem gx:f9 ["_law_found"] ["_law_found"] (c0 (top 42)):=by trivial
theorem fP:f9 ["_law_row", "_law_count"] ["_law_row", "_law_count"] (c0 (top 43)):=by trivial
theorem x9:f9 ["_law_stand", "_law_moves", "_law_row", "_law_times", "_law_low", "_law_total", "_law_number", "_law_take", "_law_put", "_law_k"] ["_law_stand", "_law_moves", "_law_row", "_law_times"] (c0 (top 44)):=by trivial
theorem O6:f9 ["_law_stand", "_law_move", "_law_found", "_law_k"] ["_law_stand", "_law_move"] (c0 (top 45)):=by trivial
theorem D1:f9 ["_law_begin", "_law_moves", "_law_cells", "_law_found", "_law_cell", "_law_steps"] ["_law_begin", "_law_moves", "_law_cells"] (c0 (top 46)):=by trivial
theorem K2:f9 ["_law_begin", "_law_moves", "_law_found", "_law_times", "_law_stand", "_law_high", "_law_gain"] ["_law_begin", "_law_moves", "_law_found", "_law_times"] (c0 (top 47)):=by trivial
theorem F0:f9 ["_law_begin", "_law_moves", "_law_found", "_law_seen", "_law_stand", "_law_move", "_law_step"] ["_law_begin", "_law_moves", "_law_found", "_law_seen"] (c0 (top 48)):=by trivial
theorem Q5:f9 ["_law_begin", "_law_moves", "_law_found", "_law_seen", "_law_limit", "_law_stand"] ["_law_begin", "_law_moves", "_law_found", "_law_seen"] (c0 (top 49)):=by trivial
theorem bK:f9 ["_law_script", "_law_begin", "_law_moves", "_law_most", "_law_found"] ["_law_script"] (c0 (top 50)):=by trivial
section
variable {P:Program} {w:World} {mg:Str->Option Value} {base:Heap} (Y:En w mg)
include Y
theorem fb:Def (hk w) mg "covers" (top 4) ["stand", "other"] 53 (FD "covers" 4 O8 52):=dk Y (by kernel_rfl) fun _ _ _ _ _ _=>us2 fun _ _=>rfl
theorem gR:FnOk P w (hk w) mg base CX0 1 53 (FD "covers" 4 O8 52) ["stand", "other"] (spM (hk w) 2 .F R5):=
 okF (fb Y) cK (.inl rfl) rfl rfl fun hr=>(c7 (A3 PassesOwn.never rfl (xP (by rfl) (bl Y).zip_ (b7 (qv .U 0) (b7 (qv .U 1) b9))) (@z8 _ (hk w) _ _ _ _ 2 rfl (j3 (@e8 _ _ 2 _ cK.nd rfl (by trivial) (by trivial)) (j3 (@e8 _ _ 3 _ cK.nd rfl (by trivial) (by trivial)) z7)) (by rfl) (by rfl) (by rfl)) (C0 (.inr rfl) (j4 (.inr rfl) i3 (j4 (.inr rfl) i3 z9))) (c8 (m9 (h9 bR xLt (qv .B 2) (qv .B 3)) (c8 (g5 E5)) n8))) (c8 (g5 E5)))
theorem ln:Def (hk w) mg "able" (top 5) ["stand", "move"] 60 (FD "able" 5 O8 59):=dk Y (by kernel_rfl) fun _ _ _ _ _ _=>us2 fun _ _=>rfl
theorem nr:FnOk P w (hk w) mg base CX0 2 60 (FD "able" 5 O8 59) ["stand", "move"] (spM (hk w) 2 .F dJ):=
 okF (ln Y) wY (.inl rfl) rfl rfl fun hr=>(c8 (g5 (qcD (gR Y) (fb Y) (b7 (qv .B 0) (b7 (g6 (e9 (qv .B 1) c9)) b9)))))
theorem ff:Def (hk w) mg "change" (top 7) ["move"] 70 (FD "change" 7 O8 69):=dk Y (by kernel_rfl) fun _ _ _ _ _ _=>us1 fun _=>rfl
theorem gW:FnOk P w (hk w) mg base CX0 1 70 (FD "change" 7 O8 69) ["move"] (spM (hk w) 1 .F Z8):=
 okF (ff Y) pq (.inl rfl) rfl rfl fun hr=>(c8 (g5 (O7 J1 (J0 (c:=true)) (by rfl) (bl Y).tuple_ t5 (b7 (i6 (o6 (show f8 (c0 (top 7)) _ ["move"] ["move", "take", "put"] from by trivial) rfl (di (by rfl) (bl Y).zip_ (b7 (g6 (e9 (qv .B 0) c9)) (b7 (g6 (e9 (qv .B 0) c9)) b9))) (fun _ _ _ _=>(@z8 _ (hk w) _ _ _ _ 2 rfl (j3 (@e8 _ _ 1 _ (by decide +kernel:(["move", "take", "put"]:List Str).Nodup) rfl (Or.inl rfl) (.inr rfl)) (j3 (@e8 _ _ 2 _ (by decide +kernel:(["move", "take", "put"]:List Str).Nodup) rfl (Or.inl rfl) (.inr rfl)) z7)) (by rfl) (by rfl) (by rfl))) (C0 (.inr rfl) (j4 (.inr rfl) i3 (j4 (.inr rfl) i3 z9))) (X6 (A5 (show 1<=1 by decide) (A5 (show 1<=2 by decide) X7))) (fun _ _ _ _=>n5) (fun _ _ _ _=>(g7 N8 aB (qv .B 2) (qv .B 1))))) b9))))
theorem oj:Def (hk w) mg "after" (top 6) ["stand", "move"] 65 (FD "after" 6 O8 64):=dk Y (by kernel_rfl) fun _ _ _ _ _ _=>us2 fun _ _=>rfl
theorem uF:FnOk P w (hk w) mg base CX0 3 65 (FD "after" 6 O8 64) ["stand", "move"] (spM (hk w) 2 .F eX):=
 okF (oj Y) tH (.inl rfl) rfl rfl fun hr=>(c7 (m9 (N6 (K4 (l9 (i6 (qcD (nr Y) (ln Y) (b7 (qv .B 0) (b7 (qv .B 1) b9))))))) (c8 ud) n8) (c8 (g5 (O7 J1 (J0 (c:=true)) (by rfl) (bl Y).tuple_ t5 (b7 (i6 (o6 (show f8 (c0 (top 6)) _ ["stand", "move"] ["stand", "move", "number", "step"] from by trivial) rfl (di (by rfl) (bl Y).zip_ (b7 (qv .B 0) (b7 (l9 (i6 (qcD (gW Y) (ff Y) (b7 (qv .B 1) b9)))) b9))) (fun _ _ _ _=>(@z8 _ (hk w) _ _ _ _ 2 rfl (j3 (@e8 _ _ 2 _ (by decide +kernel:(["stand", "move", "number", "step"]:List Str).Nodup) rfl (Or.inl rfl) (.inr rfl)) (j3 (@e8 _ _ 3 _ (by decide +kernel:(["stand", "move", "number", "step"]:List Str).Nodup) rfl (Or.inl rfl) (.inr rfl)) z7)) (by rfl) (by rfl) (by rfl))) (C0 (.inr rfl) (j4 (.inr rfl) i3 (j4 (.inr rfl) i3 z9))) (X6 (A5 (show 2<=2 by decide) (A5 (show 2<=3 by decide) X7))) (fun _ _ _ _=>n5) (fun _ _ _ _=>(g7 o7 A1 (qv .B 2) (qv .B 3))))) b9)))))
theorem cZ:Def (hk w) mg "shifted" (top 9) ["stand", "step", "times"] 75 (FD "shifted" 9 qH 74):=dk Y (by kernel_rfl) fun _ _ _ _ _ _=>us3 fun _ _ _=>rfl
theorem fA:FnOk P w (hk w) mg base CX0 1 75 (FD "shifted" 9 qH 74) ["stand", "step", "times"] (spM (hk w) 3 .F O2):=
 okF (cZ Y) mB (.inl rfl) rfl rfl fun hr=>(c8 (g5 (O7 J1 (J0 (c:=true)) (by rfl) (bl Y).tuple_ t5 (b7 (i6 (o6 (show f8 (c0 (top 9)) _ ["stand", "step", "times"] ["stand", "step", "times", "number", "by"] from by trivial) rfl (di (by rfl) (bl Y).zip_ (b7 (qv .B 0) (b7 (qv .B 1) b9))) (fun _ _ _ _=>(@z8 _ (hk w) _ _ _ _ 2 rfl (j3 (@e8 _ _ 3 _ (by decide +kernel:(["stand", "step", "times", "number", "by"]:List Str).Nodup) rfl (Or.inl rfl) (.inr rfl)) (j3 (@e8 _ _ 4 _ (by decide +kernel:(["stand", "step", "times", "number", "by"]:List Str).Nodup) rfl (Or.inl rfl) (.inr rfl)) z7)) (by rfl) (by rfl) (by rfl))) (C0 (.inr rfl) (j4 (.inr rfl) i3 (j4 (.inr rfl) i3 z9))) (X6 (A5 (show 3<=3 by decide) (A5 (show 3<=4 by decide) X7))) (fun _ _ _ _=>n5) (fun _ _ _ _=>(g7 o7 A1 (qv .B 3) (g7 t0 (o8 (C:=CMulB) (g:=k9) (fun _ _=>rfl) (fun _ _ _=>.int)) (qv .B 2) (qv .B 4)))))) b9))))
theorem ll:Def (hk w) mg "unit" (top 11) ["place", "many"] 80 (FD "unit" 11 qJ 79):=dk Y (by kernel_rfl) fun _ _ _ _ _ _=>us2 fun _ _=>rfl
theorem nh:FnOk P w (hk w) mg base CX0 1 80 (FD "unit" 11 qJ 79) ["place", "many"] (spM (hk w) 2 .F dI):=
 okF (ll Y) wX (.inl rfl) rfl rfl fun hr=>(c8 (g5 (O7 J1 (J0 (c:=true)) (by rfl) (bl Y).tuple_ t5 (b7 (i6 (o6 (show f8 (c0 (top 11)) _ ["place", "many"] ["place", "many", "at"] from by trivial) rfl (B3 (by rfl) (bl Y).range_ (b7 (qv .B 1) b9)) (fun _ _ _ _=>(@e8 _ _ 2 _ (by decide +kernel:(["place", "many", "at"]:List Str).Nodup) rfl (Or.inl rfl) (.inr rfl))) i3 (m8 (show 2<=2 by decide)) (fun _ _ _ _=>n5) (fun _ _ _ _=>(pT (h9 (gM (U9 hr)) (hU (neg:=false)) (qv .B 2) (qv .B 0)) c9 c9)))) b9))))
theorem bz:Def (hk w) mg "first_table" (top 14) ["moves", "place", "many"] 90 (FD "first_table" 14 r6 89):=dk Y (by kernel_rfl) fun _ _ _ _ _ _=>us3 fun _ _ _=>rfl
theorem fQ:FnOk P w (hk w) mg base CX0 2 90 (FD "first_table" 14 r6 89) ["moves", "place", "many"] (spM (hk w) 3 .F G7):=
 okF (bz Y) O5 (.inl rfl) rfl rfl fun hr=>(c7 (j9 (i:=3) O5.nd rfl (by trivial) (o6 (show f8 (c0 (top 14)) _ ["moves", "place", "many", "steps", "table"] ["moves", "place", "many", "steps", "table", "move"] from by trivial) rfl (A2 (qv .B 0)) (fun _ _ _ _=>(@e8 _ _ 5 _ (by decide +kernel:(["moves", "place", "many", "steps", "table", "move"]:List Str).Nodup) rfl (Or.inl rfl) (.inr rfl))) i3 (m8 (show 5<=5 by decide)) (fun _ _ _ _=>n5) (fun _ _ _ _=>(x6 (qcD (gW Y) (ff Y) (b7 (qv .B 5) b9))))) (by rfl) (by trivial)) (c7 (pR (i:=4) (show D0 (c0 (top 14)) _ ["moves", "place", "many", "steps", "table"] ["moves", "place", "many", "steps", "table", "at"] "at" from ⟨rfl,⟨fun _ _=>rfl,fun _=>rfl⟩,by decide +kernel,by rfl,by decide +kernel,by decide +kernel,by decide +kernel,by decide,by decide +kernel,by decide +kernel⟩) rfl (B3 (by rfl) (bl Y).range_ (b7 (qv .B 2) b9)) (fun _ _ _ _=>(@e8 _ _ 5 _ (by decide +kernel:(["moves", "place", "many", "steps", "table", "at"]:List Str).Nodup) rfl (Or.inr rfl) (.inl (by first | rfl | exact beq_self_eq_true _)))) i3 (m8 (show 5<=5 by decide)) (fun _ _ _ _=>n5) (fun _ _ _ _=>(x6 (g7 eC eE (l9 (i6 (O7 J1 (J0 (c:=true)) (by rfl) (bl Y).tuple_ t5 (b7 (i6 (o6 (by exact ot ⟨rfl,by decide +kernel,by decide +kernel,by decide +kernel,by decide +kernel,by decide,by decide +kernel,by decide +kernel⟩) rfl (A2 (qv .B 3)) (fun _ _ _ _=>(@e8 _ _ 6 _ (by decide +kernel:(["moves", "place", "many", "steps", "table", "at", "step"]:List Str).Nodup) rfl (Or.inl rfl) (.inr rfl))) i3 (m8 (show 6<=6 by decide)) (fun _ _ _ _=>n5) (fun _ _ _ _=>(eA V8 (eG (g:=M0) (fun _=>rfl) (fun _ _=>.int)) (g6 (e9 (qv .B 6) (qv .B 5))))))) b9)))) (l9 (i6 (qcD (nh Y) (ll Y) (b7 (qv .B 5) (b7 (qv .B 2) b9)))))))) O5.nd rfl (by trivial)) (c7 (@Y5 _ _ _ _ _ _ _ 4 _ _ _ _ rfl (by trivial) (x6 (g7 eC eE (l9 (i6 (O7 J1 (J0 (c:=true)) (by rfl) (bl Y).tuple_ t5 (b7 (i6 (o6 (show f8 (c0 (top 14)) _ ["moves", "place", "many", "steps", "table"] ["moves", "place", "many", "steps", "table", "step"] from by trivial) rfl (A2 (qv .B 3)) (fun _ _ _ _=>(@e8 _ _ 5 _ (by decide +kernel:(["moves", "place", "many", "steps", "table", "step"]:List Str).Nodup) rfl (Or.inl rfl) (.inr rfl))) i3 (m8 (show 5<=5 by decide)) (fun _ _ _ _=>n5) (fun _ _ _ _=>(dn (e9 (qv .B 5) (qv .B 1)))))) b9)))) (l9 (i6 (g7 jJ jL (i6 (B2 (g4 b9))) (qv .C 2)))))) (by decide) (by decide) (by rfl) (by rfl) (by rfl) (by rfl) (by rfl)) (c8 (@aQ _ _ _ _ _ 4 _ _ (.inl rfl) (by rfl) (by trivial) (by decide) (by decide))))))
theorem fc:Def (hk w) mg "coming" (top 15) ["table"] 97 (FD "coming" 15 r6 96):=dk Y (by kernel_rfl) fun _ _ _ _ _ _=>us1 fun _=>rfl
theorem gU:FnOk P w (hk w) mg base CX0 1 97 (FD "coming" 15 r6 96) ["table"] (spM (hk w) 1 .F R6):=
 okF (fc Y) cL (.inl rfl) rfl rfl fun hr=>(c7 (A3 PassesOwn.never rfl (@gG _ _ _ _ _ _ _ _ _ _ (by rfl) (bl Y).enumerate_ (b7 (e9 (qv .B 0) (eA V8 (eG (g:=M0) (fun _=>rfl) (fun _ _=>.int)) c9)) b9) (by rfl) (by rfl)) (@z8 _ (hk w) _ _ _ _ 2 rfl (j3 (@e8 _ _ 1 _ cL.nd rfl (by trivial) (by trivial)) (j3 (@e8 _ _ 2 _ cL.nd rfl (by trivial) (by trivial)) z7)) (by rfl) (by rfl) (by rfl)) (C0 (.inr rfl) (j4 (.inr rfl) i3 (j4 (.inr rfl) i3 z9))) (c8 (m9 (h9 P3 xGt (qv .B 2) c9) (c8 (@aQ _ _ _ _ _ 1 _ _ (.inl rfl) (by rfl) (by trivial) (by decide) (by decide))) n8))) (c8 (g5 D9)))
theorem iC:Def (hk w) mg "leaving" (top 16) ["table", "held", "column"] 102 (FD "leaving" 16 r6 101):=dk Y (by kernel_rfl) fun _ _ _ _ _ _=>us3 fun _ _ _=>rfl
theorem nj:FnOk P w (hk w) mg base CX0 3 102 (FD "leaving" 16 r6 101) ["table", "held", "column"] (spM (hk w) 3 .F bq):=
 okL (iC Y) fx (.inl rfl) rfl rfl fun hr=>(c7 (L7 (i:=3) (show f8 (c0 (top 16)) _ ["table", "held", "column", "lines"] ["table", "held", "column", "lines", "line"] from by trivial) rfl (B3 (by rfl) (bl Y).range_ (b7 (k6 o5 o0 (by rfl) (bl Y).len_ PySem.boot_len (b7 (qv .B 1) b9)) b9)) (fun _ _ _ _=>(@e8 _ _ 4 _ (by decide +kernel:(["table", "held", "column", "lines", "line"]:List Str).Nodup) rfl (Or.inl rfl) (.inr rfl))) i3 (m8 (show 4<=4 by decide)) (fun _ _ _ _=>(gE (h9 P3 xGt (g6 (e9 (g6 (e9 (qv .B 0) (qv .B 4))) (qv .B 2))) c9))) (fun _ _ _ _=>(qv .V 4)) fx.nd rfl (by trivial)) (c8 (g5 (@xR _ _ _ _ 101 _ _ _ _ _ _ _ _ _ _ _ _ _ 1 _ BO (by kernel_rfl) (by rfl) (by rfl) (by rfl) (by rfl) (by rfl) (by rfl) rfl _ (by exact hr) (by rfl) (bl Y).min_ (b7 (qv .B 3) b9) (by rfl) (by rfl) (by rfl) (by rfl) (by rfl) (by rfl)))))
theorem iG:Def (hk w) mg "cleared" (top 18) ["row", "by", "column", "scale"] 112 (FD "cleared" 18 r6 111):=dk Y (by kernel_rfl) fun _ _ _ _ _ _=>us4 fun _ _ _ _=>rfl
theorem nk:FnOk P w (hk w) mg base CX0 1 112 (FD "cleared" 18 r6 111) ["row", "by", "column", "scale"] (spM (hk w) 4 .F br):=
 okF (iG Y) mE (.inl rfl) rfl rfl fun hr=>(c8 (g5 (O7 J1 (J0 (c:=true)) (by rfl) (bl Y).tuple_ t5 (b7 (i6 (o6 (show f8 (c0 (top 18)) _ ["row", "by", "column", "scale"] ["row", "by", "column", "scale", "number", "mate"] from by trivial) rfl (di (by rfl) (bl Y).zip_ (b7 (qv .B 0) (b7 (qv .B 1) b9))) (fun _ _ _ _=>(@z8 _ (hk w) _ _ _ _ 2 rfl (j3 (@e8 _ _ 4 _ (by decide +kernel:(["row", "by", "column", "scale", "number", "mate"]:List Str).Nodup) rfl (Or.inl rfl) (.inr rfl)) (j3 (@e8 _ _ 5 _ (by decide +kernel:(["row", "by", "column", "scale", "number", "mate"]:List Str).Nodup) rfl (Or.inl rfl) (.inr rfl)) z7)) (by rfl) (by rfl) (by rfl))) (C0 (.inr rfl) (j4 (.inr rfl) i3 (j4 (.inr rfl) i3 z9))) (X6 (A5 (show 4<=4 by decide) (A5 (show 4<=5 by decide) X7))) (fun _ _ _ _=>n5) (fun _ _ _ _=>(g7 gL (o8 (C:=P6) (g:=V0) (fun _ _=>rfl) (fun _ _ _=>.int)) (g7 N8 aB (g7 t0 (o8 (C:=CMulB) (g:=k9) (fun _ _=>rfl) (fun _ _ _=>.int)) (qv .B 4) (g6 (e9 (qv .B 1) (qv .B 2)))) (g7 t0 (o8 (C:=CMulB) (g:=k9) (fun _ _=>rfl) (fun _ _ _=>.int)) (g6 (e9 (qv .B 0) (qv .B 2))) (qv .B 5))) (qv .B 3))))) b9))))
theorem iB:Def (hk w) mg "pivoted" (top 17) ["table", "line", "column", "scale"] 107 (FD "pivoted" 17 r6 106):=dk Y (by kernel_rfl) fun _ _ _ _ _ _=>us4 fun _ _ _ _=>rfl
theorem ni:FnOk P w (hk w) mg base CX0 2 107 (FD "pivoted" 17 r6 106) ["table", "line", "column", "scale"] (spM (hk w) 4 .F U1):=
 okF (iB Y) fw (.inl rfl) rfl rfl fun hr=>(c7 (@gD _ _ _ _ _ _ _ 4 _ _ fw.nd rfl (by trivial) (e9 (qv .B 0) (qv .B 1)) (by rfl) (by trivial)) (c8 (g5 (o6 (show f8 (c0 (top 17)) _ ["table", "line", "column", "scale", "by"] ["table", "line", "column", "scale", "by", "at", "row"] from by trivial) rfl (@mO _ _ _ _ _ _ _ _ _ _ (by rfl) (bl Y).enumerate_ (b7 (qv .B 0) b9) (by rfl) (by rfl)) (fun _ _ _ _=>(@z8 _ (hk w) _ _ _ _ 2 rfl (j3 (@e8 _ _ 5 _ (by decide +kernel:(["table", "line", "column", "scale", "by", "at", "row"]:List Str).Nodup) rfl (Or.inl rfl) (.inr rfl)) (j3 (@e8 _ _ 6 _ (by decide +kernel:(["table", "line", "column", "scale", "by", "at", "row"]:List Str).Nodup) rfl (Or.inl rfl) (.inr rfl)) z7)) (by rfl) (by rfl) (by rfl))) (C0 (.inr rfl) (j4 (.inr rfl) i3 (j4 (.inr rfl) i3 z9))) (X6 (A5 (show 5<=5 by decide) (A5 (show 5<=6 by decide) X7))) (fun _ _ _ _=>n5) (fun _ _ _ _=>(pT (h9 (gM (U9 hr)) (hU (neg:=false)) (qv .B 5) (qv .B 1)) (qv .V 6) (x6 (qcD (nk Y) (iG Y) (b7 (qv .B 6) (b7 (qv .B 4) (b7 (qv .B 2) (b7 (qv .B 3) b9))))))))))))
theorem O9:Def (hk w) mg "greatest_divisor" (top 22) ["one", "other"] 136 (FD "greatest_divisor" 22 r6 135):=dk Y (by kernel_rfl) fun _ _ _ _ _ _=>us2 fun _ _=>rfl
theorem aV:FnOk P w (hk w) mg base CX0 1 136 (FD "greatest_divisor" 22 r6 135) ["one", "other"] (spM (hk w) 2 .F B4):=
 okF (O9 Y) A7 (.inl rfl) rfl rfl fun hr=>(c7 (bN PassesOwn.never (h9 bQ X0 (qv .B 1) c9) (c7 (v4 (i:=2) A7.nd rfl (by trivial) (g7 K6 (o8 (C:=C2) (g:=C7) (fun _ _=>rfl) (fun _ _ _=>.int)) (qv .B 0) (qv .B 1)) (by rfl) (by trivial)) (c7 (v4 (i:=0) A7.nd rfl (by trivial) (qv .V 1) (by rfl) (by trivial)) (c8 (v4 (i:=1) A7.nd rfl (by trivial) (qv .V 2) (by rfl) (by trivial)))))) (c8 (@aQ _ _ _ _ _ 0 _ _ (.inl rfl) (by rfl) (by trivial) (by decide) (by decide))))
theorem B8:Def (hk w) mg "in_least_numbers" (top 21) ["numbers"] 129 (FD "in_least_numbers" 21 r6 128):=dk Y (by kernel_rfl) fun _ _ _ _ _ _=>us1 fun _=>rfl
theorem E6:FnOk P w (hk w) mg base CX0 2 129 (FD "in_least_numbers" 21 r6 128) ["numbers"] (spM (hk w) 1 .F x4):=
 okF (B8 Y) A6 (.inl rfl) rfl rfl fun hr=>(c7 (v4 (i:=1) A6.nd rfl (by trivial) c9 (by rfl) (by trivial)) (c7 (A3 PassesOwn.never rfl (N7 (qv .U 0)) (@e8 _ _ 2 _ A6.nd rfl (by trivial) (by trivial)) i3 (c8 (j9 (i:=1) A6.nd rfl (by trivial) (qcD (aV Y) (O9 Y) (b7 (qv .B 1) (b7 (qv .B 2) b9))) (by rfl) (by trivial)))) (c8 (g5 (O7 J1 (J0 (c:=true)) (by rfl) (bl Y).tuple_ t5 (b7 (i6 (o6 (show f8 (c0 (top 21)) _ ["numbers", "shared", "number"] ["numbers", "shared", "#number", "number"] from by trivial) rfl (A2 (qv .B 0)) (fun _ _ _ _=>(@e8 _ _ 3 _ (by decide +kernel:(["numbers", "shared", "#number", "number"]:List Str).Nodup) rfl (Or.inl rfl) (.inr rfl))) i3 (m8 (show 3<=3 by decide)) (fun _ _ _ _=>n5) (fun _ _ _ _=>(g7 gL (o8 (C:=P6) (g:=V0) (fun _ _=>rfl) (fun _ _ _=>.int)) (qv .B 3) (qv .B 1))))) b9))))))
theorem ck:Def (hk w) mg "weights_of" (top 20) ["table", "place", "scale", "many_moves"] 124 (FD "weights_of" 20 r6 123):=dk Y (by kernel_rfl) fun _ _ _ _ _ _=>us4 fun _ _ _ _=>rfl
theorem gO:FnOk P w (hk w) mg base CX0 3 124 (FD "weights_of" 20 r6 123) ["table", "place", "scale", "many_moves"] (spM (hk w) 4 .F R3):=
 okF (ck Y) aK (.inl rfl) rfl rfl fun hr=>(c7 (L7 (i:=4) (show f8 (c0 (top 20)) _ ["table", "place", "scale", "many_moves", "losses"] ["table", "place", "scale", "many_moves", "losses", "gain"] from by trivial) rfl (A2 (l9 (i6 (@kJ _ _ _ _ _ _ _ _ _ _ _ (g6 (e9 (qv .B 0) (eA V8 (eG (g:=M0) (fun _=>rfl) (fun _ _=>.int)) c9))) (aR (qv .B 3)) aS (by rfl))))) (fun _ _ _ _=>(@e8 _ _ 5 _ (by decide +kernel:(["table", "place", "scale", "many_moves", "losses", "gain"]:List Str).Nodup) rfl (Or.inl rfl) (.inr rfl))) i3 (m8 (show 5<=5 by decide)) (fun _ _ _ _=>n5) (fun _ _ _ _=>(eA V8 (eG (g:=M0) (fun _=>rfl) (fun _ _=>.int)) (qv .B 5))) aK.nd rfl (by trivial)) (c8 (g5 (qcD (E6 Y) (B8 Y) (b7 (l9 (i6 (qcD (fA Y) (cZ Y) (b7 (qv .B 4) (b7 (l9 (i6 (qcD (nh Y) (ll Y) (b7 (qv .B 1) (b7 (k6 o5 o0 (by rfl) (bl Y).len_ PySem.boot_len (b7 (qv .B 4) b9)) b9))))) (b7 (qv .B 2) b9)))))) b9)))))
theorem km:Def (hk w) mg "bag_of" (top 19) ["table", "held", "column", "scale", "many_moves"] 119 (FD "bag_of" 19 r6 118):=dk Y (by kernel_rfl) fun _ _ _ _ _ _=>us5 fun _ _ _ _ _=>rfl
theorem qg:FnOk P w (hk w) mg base CX0 3 119 (FD "bag_of" 19 r6 118) ["table", "held", "column", "scale", "many_moves"] (spM (hk w) 5 .F cY):=
 okF (km Y) Y4 (.inl rfl) rfl rfl fun hr=>(c7 (j9 (i:=5) Y4.nd rfl (by trivial) (g7 yt (yw (c:=true)) (i6 (K5 (g4 b9))) (k6 o5 o0 (by rfl) (bl Y).len_ PySem.boot_len (b7 (g6 (e9 (qv .B 0) c9)) b9))) (by rfl) (by trivial)) (c7 (@dj _ _ _ _ _ _ _ _ 5 _ _ _ _ rfl (by trivial) (qv .B 2) (qv .V 3) (by decide) (by decide) (@aU _ _ _ _ _ _ _ (@pv _ 5 _ _ (by rfl) (by trivial) (by decide) (by decide)) (qv .B 2) set_list (by intro _; rfl)) (by rfl) (by rfl)) (c7 (A3 PassesOwn.never rfl (@gG _ _ _ _ _ _ _ _ _ _ (by rfl) (bl Y).enumerate_ (b7 (qv .U 1) b9) (by rfl) (by rfl)) (@z8 _ (hk w) _ _ _ _ 2 rfl (j3 (@e8 _ _ 6 _ Y4.nd rfl (by trivial) (by trivial)) (j3 (@e8 _ _ 7 _ Y4.nd rfl (by trivial) (by trivial)) z7)) (by rfl) (by rfl) (by rfl)) (C0 (.inr rfl) (j4 (.inr rfl) i3 (j4 (.inr rfl) i3 z9))) (c8 (@dj _ _ _ _ _ _ _ _ 5 _ _ _ _ rfl (by trivial) (qv .B 7) (eA V8 (eG (g:=M0) (fun _=>rfl) (fun _ _=>.int)) (g6 (e9 (g6 (e9 (qv .B 0) (qv .B 6))) (qv .B 2)))) (by decide) (by decide) (@aU _ _ _ _ _ _ _ (@pv _ 5 _ _ (by rfl) (by trivial) (by decide) (by decide)) (qv .B 7) set_list (by intro _; rfl)) (by rfl) (by rfl)))) (c8 (g5 (qcD (E6 Y) (B8 Y) (b7 (l9 (i6 (@gC _ _ _ _ _ _ true _ _ _ _ _ (qv .C 5) aS (aR (qv .B 4)) (by rfl)))) b9)))))))
theorem iH:Def (hk w) mg "ceiling" (top 13) ["moves", "place", "many"] 85 (FD "ceiling" 13 r6 84):=dk Y (by kernel_rfl) fun _ _ _ _ _ _=>us3 fun _ _ _=>rfl
theorem no:FnOk P w (hk w) mg base CX0 4 85 (FD "ceiling" 13 r6 84) ["moves", "place", "many"] (spM (hk w) 3 .F bu):=
 okF (iH Y) A8 (.inl rfl) rfl rfl fun hr=>(c7 (j9 (i:=3) A8.nd rfl (by trivial) (qcD (fQ Y) (bz Y) (b7 (qv .B 0) (b7 (qv .B 1) (b7 (qv .B 2) b9)))) (by rfl) (by trivial)) (c7 (L7 (i:=4) (show f8 (c0 (top 13)) _ ["moves", "place", "many", "table", "held", "scale", "column", "line"] ["moves", "place", "many", "table", "held", "scale", "column", "line", "at"] from by trivial) rfl (B3 (by rfl) (bl Y).range_ (b7 (qv .B 2) b9)) (fun _ _ _ _=>(@e8 _ _ 8 _ (by decide +kernel:(["moves", "place", "many", "table", "held", "scale", "column", "line", "at"]:List Str).Nodup) rfl (Or.inl rfl) (.inr rfl))) i3 (m8 (show 8<=8 by decide)) (fun _ _ _ _=>n5) (fun _ _ _ _=>(g7 o7 A1 (k6 o5 o0 (by rfl) (bl Y).len_ PySem.boot_len (b7 (qv .B 0) b9)) (qv .B 8))) A8.nd rfl (by trivial)) (c7 (v4 (i:=5) A8.nd rfl (by trivial) c9 (by rfl) (by trivial)) (c7 (j9 (i:=6) A8.nd rfl (by trivial) (qcD (gU Y) (fc Y) (b7 (qv .B 3) b9)) (by rfl) (by trivial)) (c7 (bN PassesOwn.never (h9 W8 W9 (qv .B 6) D9) (c7 (j9 (i:=7) A8.nd rfl (by trivial) (qcD (nj Y) (iC Y) (b7 (qv .B 3) (b7 (qv .B 4) (b7 (qv .B 6) b9)))) (by rfl) (by trivial)) (c7 (m9 (h9 gK hJ (qv .B 7) D9) (c8 (g5 (B2 (b7 F1 (b7 (x6 (qcD (qg Y) (km Y) (b7 (qv .B 3) (b7 (qv .B 4) (b7 (qv .B 6) (b7 (qv .B 5) (b7 (k6 o5 o0 (by rfl) (bl Y).len_ PySem.boot_len (b7 (qv .B 0) b9)) b9))))))) b9))))) n8) (c7 (j9 (i:=3) A8.nd rfl (by trivial) (qcD (ni Y) (iB Y) (b7 (qv .B 3) (b7 (qv .B 7) (b7 (qv .B 6) (b7 (qv .B 5) b9))))) (by rfl) (by trivial)) (c7 (bO (@dj _ _ _ _ _ _ _ _ 4 _ _ _ _ rfl (by trivial) (qv .B 7) (qv .V 6) (by decide) (by decide) (@aU _ _ _ _ _ _ _ (@pv _ 4 _ _ (by rfl) (by trivial) (by decide) (by decide)) (qv .B 7) set_list (by intro _; rfl)) (by rfl) (by rfl))) (c7 (v4 (i:=5) A8.nd rfl (by trivial) (P2 (xZ (P2 (qv .C 3) (qv .C 7))) (qv .C 6)) (by rfl) (by trivial)) (c8 (j9 (i:=6) A8.nd rfl (by trivial) (qcD (gU Y) (fc Y) (b7 (qv .B 3) b9)) (by rfl) (by trivial))))))))) (c8 (g5 (B2 (b7 F1 (b7 (x6 (qcD (gO Y) (ck Y) (b7 (qv .B 3) (b7 (qv .B 1) (b7 (qv .B 5) (b7 (k6 o5 o0 (by rfl) (bl Y).len_ PySem.boot_len (b7 (qv .B 0) b9)) b9)))))) b9))))))))))
theorem oa:Def (hk w) mg "level" (top 23) ["moves", "many"] 143 (FD "level" 23 r6 142):=dk Y (by kernel_rfl) fun _ _ _ _ _ _=>us2 fun _ _=>rfl
theorem uD:FnOk P w (hk w) mg base CX0 5 143 (FD "level" 23 r6 142) ["moves", "many"] (spM (hk w) 2 .F bW):=
 okF (oa Y) W3 (.inl rfl) rfl rfl fun hr=>(c7 (j9 (i:=2) W3.nd rfl (by trivial) (g7 jJ jL (i6 (B2 (g4 b9))) (qv .C 1)) (by rfl) (by trivial)) (c7 (A3 PassesOwn.never rfl (B3 (by rfl) (bl Y).range_ (b7 (qv .B 1) b9)) (@e8 _ _ 3 _ W3.nd rfl (by trivial) (by trivial)) i3 (c7 (j9 (i:=4) W3.nd rfl (by trivial) (qcD (no Y) (iH Y) (b7 (qv .B 0) (b7 (qv .B 3) (b7 (qv .B 1) b9)))) (by rfl) (by trivial)) (c7 (m9 (h9 M9 F9 (g6 (e9 (qv .B 4) c9)) F1) (c8 (g5 (B2 (b7 F1 (b7 (qv .V 3) (b7 (P2 (qv .C 4) c9) b9)))))) n8) (c8 (j9 (i:=2) W3.nd rfl (by trivial) (qcD (fA Y) (cZ Y) (b7 (qv .B 2) (b7 (g6 (e9 (qv .B 4) c9)) (g4 b9)))) (by rfl) (by trivial)))))) (c8 (g5 (B2 (b7 F1 (b7 (x6 (qcD (E6 Y) (B8 Y) (b7 (qv .B 2) b9))) b9)))))))
theorem bx:Def (hk w) mg "way_back" (top 25) ["tree", "number"] 150 (FD "way_back" 25 qI 149):=dk Y (by kernel_rfl) fun _ _ _ _ _ _=>us2 fun _ _=>rfl
theorem dz:FnOk P w (hk w) mg base CX0 1 150 (FD "way_back" 25 qI 149) ["tree", "number"] (spM (hk w) 2 .F K8):=
 okF (bx Y) P0 (.inl rfl) rfl rfl fun hr=>(c7 (j9 (i:=2) P0.nd rfl (by trivial) (K5 b9) (by rfl) (by trivial)) (c7 (v4 (i:=3) P0.nd rfl (by trivial) (qv .V 1) (by rfl) (by trivial)) (c7 (bN PassesOwn.never (h9 W8 W9 (qv .B 3) D9) (c7 (@Y5 _ _ _ _ _ _ _ 2 _ _ _ _ rfl (by trivial) (qv .V 3) (by decide) (by decide) (by rfl) (by rfl) (by rfl) (by rfl) (by rfl)) (c8 (@gD _ _ _ _ _ _ _ 3 _ _ P0.nd rfl (by trivial) (e9 (g6 (e9 (qv .B 0) (qv .B 3))) c9) (by rfl) (by trivial))))) (c8 (@aQ _ _ _ _ _ 2 _ _ (.inl rfl) (by rfl) (by trivial) (by decide) (by decide))))))
theorem Ag:Def (hk w) mg "way" (top 27) ["tree", "number"] 157 (FD "way" 27 eR 156):=dk Y (by kernel_rfl) fun _ _ _ _ _ _=>us2 fun _ _=>rfl
theorem BI:FnOk P w (hk w) mg base CX0 2 157 (FD "way" 27 eR 156) ["tree", "number"] (spM (hk w) 2 .F lf):=
 okF (Ag Y) Bh (.inl rfl) rfl rfl fun hr=>(c8 (g5 (@xS _ _ _ _ _ _ _ _ _ rfl (by rfl) (bl Y).list_ (by rfl) (bl Y).reversed_ (b7 (l9 (i6 (qcD (dz Y) (bx Y) (b7 (qv .B 0) (b7 (qv .B 1) b9))))) b9) (by rfl) (by rfl) (by rfl))))
theorem S4:Def (hk w) mg "row_between" (top 28) ["tree", "elder", "number"] 162 (FD "row_between" 28 eR 161):=dk Y (by kernel_rfl) fun _ _ _ _ _ _=>us3 fun _ _ _=>rfl
theorem ak:FnOk P w (hk w) mg base CX0 3 162 (FD "row_between" 28 eR 161) ["tree", "elder", "number"] (spM (hk w) 3 .F D2):=
 okF (S4 Y) aj (.inl rfl) rfl rfl fun hr=>(c7 (j9 (i:=3) aj.nd rfl (by trivial) (qcD (BI Y) (Ag Y) (b7 (qv .B 0) (b7 (qv .B 2) b9))) (by rfl) (by trivial)) (c8 (g5 (o6 (show f8 (c0 (top 28)) _ ["tree", "elder", "number", "path"] ["tree", "elder", "number", "path", "at"] from by trivial) rfl (A2 (l9 (i6 (@gC _ _ _ _ _ _ true _ _ _ _ _ (qv .C 3) (aR (g7 o7 A1 (@uf _ _ _ _ _ _ _ _ _ _ (U9 hr) (qv .B 3) (qv .B 1) (by rfl) (by rfl) (by rfl) (by rfl) (by rfl) (by rfl)) c9)) aS (by rfl))))) (fun _ _ _ _=>(@e8 _ _ 4 _ (by decide +kernel:(["tree", "elder", "number", "path", "at"]:List Str).Nodup) rfl (Or.inl rfl) (.inr rfl))) i3 (m8 (show 4<=4 by decide)) (fun _ _ _ _=>n5) (fun _ _ _ _=>(dn (e9 (g6 (e9 (qv .B 0) (qv .B 4))) c9)))))))
theorem X9:Def (hk w) mg "stands_behind" (top 31) ["moor", "stand"] 174 (FD "stands_behind" 31 D8 173):=dk Y (by kernel_rfl) fun _ _ _ _ _ _=>us2 fun _ _=>rfl
theorem dA:FnOk P w (hk w) mg base CX0 4 174 (FD "stands_behind" 31 D8 173) ["moor", "stand"] (spM (hk w) 2 .F K9):=
 okF (X9 Y) dg (.inl rfl) rfl rfl fun hr=>(c8 (g5 (o6 (show f8 (c0 (top 31)) _ ["moor", "stand"] ["moor", "stand", "number", "move"] from by trivial) rfl (@mO _ _ _ _ _ _ _ _ _ _ (by rfl) (bl Y).enumerate_ (b7 (g6 (e9 (qv .B 0) c9)) b9) (by rfl) (by rfl)) (fun _ _ _ _=>(@z8 _ (hk w) _ _ _ _ 2 rfl (j3 (@e8 _ _ 2 _ (by decide +kernel:(["moor", "stand", "number", "move"]:List Str).Nodup) rfl (Or.inl rfl) (.inr rfl)) (j3 (@e8 _ _ 3 _ (by decide +kernel:(["moor", "stand", "number", "move"]:List Str).Nodup) rfl (Or.inl rfl) (.inr rfl)) z7)) (by rfl) (by rfl) (by rfl))) (C0 (.inr rfl) (j4 (.inr rfl) i3 (j4 (.inr rfl) i3 z9))) (X6 (A5 (show 2<=2 by decide) (A5 (show 2<=3 by decide) X7))) (fun _ _ _ _=>(gE (K4 (l9 (i6 (qcD (nr Y) (ln Y) (b7 (qv .B 1) (b7 (qv .B 3) b9)))))))) (fun _ _ _ _=>(x6 (B2 (b7 (x6 (qcD (uF Y) (oj Y) (b7 (qv .B 1) (b7 (qv .B 3) b9)))) (b7 (qv .V 2) b9))))))))
theorem og:Def (hk w) mg "flood" (top 30) ["moor", "most"] 169 (FD "flood" 30 D8 168):=dk Y (by kernel_rfl) fun _ _ _ _ _ _=>us2 fun _ _=>rfl
theorem uE:FnOk P w (hk w) mg base CX0 5 169 (FD "flood" 30 D8 168) ["moor", "most"] (spM (hk w) 2 .F bX):=
 okF (og Y) J4 (.inl rfl) rfl rfl fun hr=>(c7 (j9 (i:=2) J4.nd rfl (by trivial) (K5 (b7 (x6 (B2 (b7 (dn (e9 (qv .B 0) c9)) (b7 D9 (b7 D9 b9))))) b9)) (by rfl) (by trivial)) (c7 (@xV _ _ _ _ _ _ _ _ _ 3 _ _ _ (U9 hr) J4.nd rfl (by trivial) (g6 (e9 (qv .B 0) c9)) E5 (by rfl) (by first | exact Or.inl rfl | exact Or.inr rfl | assumption)) (c7 (v4 (i:=4) J4.nd rfl (by trivial) c9 (by rfl) (by trivial)) (c7 (bN PassesOwn.never (h9 bR xLt (qv .B 4) (k6 o5 o0 (by rfl) (bl Y).len_ PySem.boot_len (b7 (qv .B 2) b9))) (c7 (v4 (i:=5) J4.nd rfl (by trivial) (P2 (xZ (P2 (qv .C 2) (qv .C 4))) c9) (by rfl) (by trivial)) (c7 (A3 PassesOwn.never rfl (N7 (pU (x6 (qcD (dA Y) (X9 Y) (b7 (qv .B 0) (b7 (qv .B 5) b9)))))) (@z8 _ (hk w) _ _ _ _ 2 rfl (j3 (@e8 _ _ 6 _ J4.nd rfl (by trivial) (by trivial)) (j3 (@e8 _ _ 7 _ J4.nd rfl (by trivial) (by trivial)) z7)) (by rfl) (by rfl) (by rfl)) (C0 (.inr rfl) (j4 (.inr rfl) i3 (j4 (.inr rfl) i3 z9))) (c7 (m9 (@Bs _ _ _ _ _ _ 3 _ _ (U9 hr) rfl (by trivial) (qv .B 6) (by decide) (by decide) (by rfl)) (c8 xW) n8) (c7 (m9 (h9 M9 F9 (k6 o5 o0 (by rfl) (bl Y).len_ PySem.boot_len (b7 (qv .B 2) b9)) (qv .B 1)) (c8 (bO (g5 (B2 (b7 (qv .V 2) (b7 E5 b9)))))) n8) (c7 (@xU _ _ _ _ _ _ _ _ _ 3 _ _ _ (U9 hr) rfl (by trivial) (qv .B 6) E5 (by decide) (by decide) (by rfl)) (c8 (@Y5 _ _ _ _ _ _ _ 2 _ _ _ _ rfl (by trivial) (x6 (B2 (b7 (qv .V 6) (b7 (qv .V 4) (b7 (qv .V 7) b9))))) (by decide) (by decide) (by rfl) (by rfl) (by rfl) (by rfl) (by rfl))))))) (c8 (@Bu _ _ _ _ _ _ _ 4 _ _ _ _ J4.nd rfl (by trivial) c9 zp (by trivial)))))) (c8 (bO (g5 (B2 (b7 (qv .V 2) (b7 E5 b9))))))))))
theorem dN:Def (hk w) mg "stands_in" (top 32) ["rows"] 179 (FD "stands_in" 32 D8 178):=dk Y (by kernel_rfl) fun _ _ _ _ _ _=>us1 fun _=>rfl
theorem jh:FnOk P w (hk w) mg base CX0 1 179 (FD "stands_in" 32 D8 178) ["rows"] (spM (hk w) 1 .F V1):=
 okF (dN Y) jf (.inl rfl) rfl rfl fun hr=>(c8 (g5 (o6 (show f8 (c0 (top 32)) _ ["rows"] ["rows", "row"] from by trivial) rfl (A2 (qv .B 0)) (fun _ _ _ _=>(@e8 _ _ 1 _ (by decide +kernel:(["rows", "row"]:List Str).Nodup) rfl (Or.inl rfl) (.inr rfl))) i3 (m8 (show 1<=1 by decide)) (fun _ _ _ _=>n5) (fun _ _ _ _=>(dn (e9 (qv .B 1) c9))))))
theorem ke:Def (hk w) mg "row_to" (top 33) ["rows", "number"] 186 (FD "row_to" 33 D8 185):=dk Y (by kernel_rfl) fun _ _ _ _ _ _=>us2 fun _ _=>rfl
theorem qf:FnOk P w (hk w) mg base CX0 4 186 (FD "row_to" 33 D8 185) ["rows", "number"] (spM (hk w) 2 .F cX):=
 okF (ke Y) pp (.inl rfl) rfl rfl fun hr=>(c8 (g5 (qcD (ak Y) (S4 Y) (b7 (qv .B 0) (g4 (b7 (qv .B 1) b9))))))
theorem cq:Def (hk w) mg "first_lift" (top 35) ["rows"] 200 (FD "first_lift" 35 D8 199):=dk Y (by kernel_rfl) fun _ _ _ _ _ _=>us1 fun _=>rfl
theorem gQ:FnOk P w (hk w) mg base CX0 2 200 (FD "first_lift" 35 D8 199) ["rows"] (spM (hk w) 1 .F R4):=
 okF (cq Y) K1 (.inl rfl) rfl rfl fun hr=>(c7 (A3 PassesOwn.never rfl (@gG _ _ _ _ _ _ _ _ _ _ (by rfl) (bl Y).enumerate_ (b7 (qv .U 0) b9) (by rfl) (by rfl)) (@z8 _ (hk w) _ _ _ _ 2 rfl (j3 (@e8 _ _ 1 _ K1.nd rfl (by trivial) (by trivial)) (j3 (@e8 _ _ 2 _ K1.nd rfl (by trivial) (by trivial)) z7)) (by rfl) (by rfl) (by rfl)) (C0 (.inr rfl) (j4 (.inr rfl) i3 (j4 (.inr rfl) i3 z9))) (c8 (A3 PassesOwn.never rfl (N7 (pU (x6 (@gC _ _ _ _ _ _ true _ _ _ _ _ (i6 (qcD (dz Y) (bx Y) (b7 (qv .B 0) (b7 (qv .B 1) b9)))) (aR c9) aS (by rfl))))) (@e8 _ _ 3 _ K1.nd rfl (by trivial) (by trivial)) i3 (c8 (m9 (K4 (l9 (i6 (qcD (gR Y) (fb Y) (b7 (g6 (e9 (qv .B 2) c9)) (b7 (g6 (e9 (g6 (e9 (qv .B 0) (qv .B 3))) c9)) b9)))))) (c8 (g5 (B2 (b7 (qv .V 3) (b7 (qv .V 1) b9))))) n8))))) (c8 (g5 D9)))
theorem iI:Def (hk w) mg "bounded" (top 34) ["moor", "most"] 193 (FD "bounded" 34 D8 192):=dk Y (by kernel_rfl) fun _ _ _ _ _ _=>us2 fun _ _=>rfl
theorem nq:FnOk P w (hk w) mg base CX0 6 193 (FD "bounded" 34 D8 192) ["moor", "most"] (spM (hk w) 2 .V bv):=
 okF (iI Y) N4 (.inr rfl) rfl rfl fun hr=>(c7 (j9 (i:=2) N4.nd rfl (by trivial) (qcD (uE Y) (og Y) (b7 (qv .B 0) (b7 (qv .B 1) b9))) (by rfl) (by trivial)) (c7 (v4 (i:=3) N4.nd rfl (by trivial) (P2 (qv .C 2) c9) (by rfl) (by trivial)) (c7 (j9 (i:=4) N4.nd rfl (by trivial) (qcD (gQ Y) (cq Y) (b7 (qv .B 3) b9)) (by rfl) (by trivial)) (c7 (m9 (h9 W8 W9 (qv .B 4) D9) (c8 (g5 (x6 (B2 (b7 F1 (b7 (x6 (qcD (qf Y) (ke Y) (b7 (qv .B 3) (b7 (g6 (e9 (qv .B 4) c9)) b9)))) (b7 (x6 (qcD (ak Y) (S4 Y) (b7 (qv .B 3) (b7 (g6 (e9 (qv .B 4) c9)) (b7 (g6 (e9 (qv .B 4) c9)) b9))))) b9))))))) n8) (c7 (m9 (K4 (g6 (e9 (qv .B 2) c9))) (c8 (g5 (x6 (B2 (b7 F1 (b7 (x6 (qcD (jh Y) (dN Y) (b7 (qv .B 3) b9))) b9)))))) n8) (c7 (j9 (i:=5) N4.nd rfl (by trivial) (qcD (uD Y) (oa Y) (b7 (g6 (e9 (qv .B 0) c9)) (b7 (k6 o5 o0 (by rfl) (bl Y).len_ PySem.boot_len (b7 (g6 (e9 (qv .B 0) c9)) b9)) b9))) (by rfl) (by trivial)) (c8 (bO (g5 (pT (h9 M9 F9 (g6 (e9 (qv .B 5) c9)) F1) (qv .V 5) (x6 (B2 (b7 F1 b9)))))))))))))
theorem D4:Def (hk w) mg "_law_cell_at" (top 37) ["_law_script", "_law_k"] 207 (FD "_law_cell_at" 37 l7 206):=dk Y (by kernel_rfl) fun _ _ _ _ _ _=>us2 fun _ _=>rfl
theorem F2:FnOk P w (hk w) mg base CX0 1 207 (FD "_law_cell_at" 37 l7 206) ["_law_script", "_law_k"] (spM (hk w) 2 .F A0):=
 okF (D4 Y) ee (.inl rfl) rfl rfl fun hr=>(c7 (m9 (h9 P3 xGt (k6 o5 o0 (by rfl) (bl Y).len_ PySem.boot_len (b7 (qv .B 0) b9)) c9) (c8 (g5 (xY (e9 (qv .B 0) (g7 K6 (o8 (C:=C2) (g:=C7) (fun _ _=>rfl) (fun _ _ _=>.int)) (qv .B 1) (k6 o5 o0 (by rfl) (bl Y).len_ PySem.boot_len (b7 (qv .B 0) b9))))))) n8) (c8 (g5 c9)))
theorem j6:Def (hk w) mg "_law_draw" (top 38) ["_law_script", "_law_k", "_law_many"] 214 (FD "_law_draw" 38 l7 213):=dk Y (by kernel_rfl) fun _ _ _ _ _ _=>us3 fun _ _ _=>rfl
theorem v9:FnOk P w (hk w) mg base CX0 2 214 (FD "_law_draw" 38 l7 213) ["_law_script", "_law_k", "_law_many"] (spM (hk w) 3 .F t4):=
 okF (j6 Y) jg (.inl rfl) rfl rfl fun hr=>(c8 (g5 (g7 K6 (o8 (C:=C2) (g:=C7) (fun _ _=>rfl) (fun _ _ _=>.int)) (g7 jK (o8 (C:=V5) (g:=V0) (fun _ _=>rfl) (fun _ _ _=>.int)) (g7 K6 (o8 (C:=C2) (g:=C7) (fun _ _=>rfl) (fun _ _ _=>.int)) (g7 t0 (o8 (C:=CMulB) (g:=k9) (fun _ _=>rfl) (fun _ _ _=>.int)) (g7 o7 A1 (l9 (i6 (qcD (F2 Y) (D4 Y) (b7 (qv .B 0) (b7 (qv .B 1) b9))))) c9) (g7 o7 A1 (g7 o7 A1 (g7 t0 (o8 (C:=CMulB) (g:=k9) (fun _ _=>rfl) (fun _ _ _=>.int)) (qv .B 1) (qv .B 1)) (g7 t0 (o8 (C:=CMulB) (g:=k9) (fun _ _=>rfl) (fun _ _ _=>.int)) c9 (qv .B 1))) c9)) c9) c9) (qv .B 2))))
theorem q5:Def (hk w) mg "_law_numbers" (top 39) ["_law_script", "_law_at", "_law_places", "_law_menu", "_law_scale_here"] 221 (FD "_law_numbers" 39 l7 220):=dk Y (by kernel_rfl) fun _ _ _ _ _ _=>us5 fun _ _ _ _ _=>rfl
theorem L8:FnOk P w (hk w) mg base CX0 3 221 (FD "_law_numbers" 39 l7 220) ["_law_script", "_law_at", "_law_places", "_law_menu", "_law_scale_here"] (spM (hk w) 5 .F t8):=
 okF (q5 Y) z6 (.inl rfl) rfl rfl fun hr=>(c7 (j9 (i:=5) z6.nd rfl (by trivial) (K5 b9) (by rfl) (by trivial)) (c7 (A3 PassesOwn.never rfl (B3 (by rfl) (bl Y).range_ (b7 (qv .B 2) b9)) (@e8 _ _ 6 _ z6.nd rfl (by trivial) (by trivial)) i3 (c7 (@gD _ _ _ _ _ _ _ 7 _ _ z6.nd rfl (by trivial) (e9 (qv .B 3) (l9 (i6 (qcD (v9 Y) (j6 Y) (b7 (qv .B 0) (b7 (g7 o7 A1 (qv .B 1) (qv .B 6)) (b7 (k6 o5 o0 (by rfl) (bl Y).len_ PySem.boot_len (b7 (qv .B 3) b9)) b9))))))) (by rfl) (by trivial)) (c7 (m9 (PW.pt (mN (h9 M9 F9 (qv .B 4) c9) (jF (h9 P3 xGt (qv .B 7) c9)))) (c8 (v4 (i:=7) z6.nd rfl (by trivial) (g7 K6 (o8 (C:=C2) (g:=C7) (fun _ _=>rfl) (fun _ _ _=>.int)) (g7 t0 (o8 (C:=CMulB) (g:=k9) (fun _ _=>rfl) (fun _ _ _=>.int)) (g7 o7 A1 (l9 (i6 (qcD (F2 Y) (D4 Y) (b7 (qv .B 0) (b7 (g7 o7 A1 (qv .B 1) (qv .B 6)) b9))))) (qv .B 6)) c9) (g7 o7 A1 (g7 dw (o8 (C:=M6) (g:=Z7) (fun _ _=>rfl) (fun _ _ _=>.int)) c9 c9) c9)) (by rfl) (by trivial))) (c8 (v4 (i:=7) z6.nd rfl (by trivial) (g7 t0 (o8 (C:=CMulB) (g:=k9) (fun _ _=>rfl) (fun _ _ _=>.int)) (qv .B 7) (qv .B 4)) (by rfl) (by trivial)))) (c8 (@Y5 _ _ _ _ _ _ _ 5 _ _ _ _ rfl (by trivial) (qv .V 7) (by decide) (by decide) (by rfl) (by rfl) (by rfl) (by rfl) (by rfl)))))) (c8 (g5 (O7 J1 (J0 (c:=true)) (by rfl) (bl Y).tuple_ t5 (b7 (qv .C 5) b9))))))
theorem N1:Def (hk w) mg "_law_scale" (top 40) ["_law_script"] 228 (FD "_law_scale" 40 l7 227):=dk Y (by kernel_rfl) fun _ _ _ _ _ _=>us1 fun _=>rfl
theorem gY:FnOk P w (hk w) mg base CX0 3 228 (FD "_law_scale" 40 l7 227) ["_law_script"] (spM (hk w) 1 .F R8):=
 okF (N1 Y) aL (.inl rfl) rfl rfl fun hr=>(c7 (j9 (i:=1) aL.nd rfl (by trivial) (qcD (v9 Y) (j6 Y) (b7 (qv .B 0) (g4 (g4 b9)))) (by rfl) (by trivial)) (c7 (m9 (h9 M9 F9 (qv .B 1) c9) (c8 (g5 c9)) n8) (c7 (m9 (h9 P3 xGt (qv .B 1) c9) (c8 (g5 (g7 o7 A1 c9 (g7 K6 (o8 (C:=C2) (g:=C7) (fun _ _=>rfl) (fun _ _ _=>.int)) (g7 t0 (o8 (C:=CMulB) (g:=k9) (fun _ _=>rfl) (fun _ _ _=>.int)) (l9 (i6 (qcD (F2 Y) (D4 Y) (b7 (qv .B 0) (g4 b9))))) c9) (g7 dw (o8 (C:=M6) (g:=Z7) (fun _ _=>rfl) (fun _ _ _=>.int)) c9 c9))))) n8) (c8 (g5 c9)))))
theorem dO:Def (hk w) mg "_law_moor" (top 41) ["_law_script"] 233 (FD "_law_moor" 41 l7 232):=dk Y (by kernel_rfl) fun _ _ _ _ _ _=>us1 fun _=>rfl
theorem ji:FnOk P w (hk w) mg base CX0 4 233 (FD "_law_moor" 41 l7 232) ["_law_script"] (spM (hk w) 1 .F V2):=
 okF (dO Y) o9 (.inl rfl) rfl rfl fun hr=>(@c7 _ _ _ _ _ _ _ _ (@v4 _ _ _ _ _ _ _ 1 _ _ o9.nd rfl (by trivial) (@P2 _ _ _ _ _ _ _ _ (@i6 _ _ _ _ _ (@xT _ _ _ _ _ _ _ _ _ _ _ _ _ _ _ _ _ _ _ _ _ _ _ _ _ _ _ _)) (@i6 _ _ _ _ _ (@F8 _ _ _ _ _ _ _ _ _ _ _ _ _ _ _ _ (v9 Y) (.inl rfl) (by trivial) (by rfl) (j6 Y).m (j6 Y).F.kp (j6 Y).b (@b7 _ _ _ _ _ _ _ _ (@qv _ _ _ _ .B 0 _ (by rfl) (by trivial) (by decide) (by decide)) (@g4 _ _ _ _ _ _ _ _ _ (@g4 _ _ _ _ _ _ _ _ _ (@b9 _ _ _ _))) (by rfl)) (by decide) (by rfl) (by rfl))) (by exact fun _ _=>rfl) (by rfl)) (by rfl) (by trivial)) (@c7 _ _ _ _ _ _ _ _ (@j9 _ _ _ _ _ _ _ 2 _ _ o9.nd rfl (by trivial) (@F8 _ _ _ _ _ _ _ _ _ _ _ _ _ _ _ _ (gY Y) (.inl rfl) (by trivial) (by rfl) (N1 Y).m (N1 Y).F.kp (N1 Y).b (@b7 _ _ _ _ _ _ _ _ (@qv _ _ _ _ .B 0 _ (by rfl) (by trivial) (by decide) (by decide)) (@b9 _ _ _ _) (by rfl)) (by decide) (by rfl) (by rfl)) (by rfl) (by trivial)) (@c7 _ _ _ _ _ _ _ _ (@j9 _ _ _ _ _ _ _ 3 _ _ o9.nd rfl (by trivial) (@K5 _ _ _ _ _ _ (@b9 _ _ _ _)) (by rfl) (by trivial)) (@c7 _ _ _ _ _ _ _ _ (@A3 _ _ _ _ _ _ _ _ _ _ _ _ _ PassesOwn.never rfl (@B3 _ _ _ _ _ _ _ _ _ (by rfl) (bl Y).range_ (@b7 _ _ _ _ _ _ _ _ (@g6 _ _ _ _ _ (@e9 _ _ _ _ _ _ _ _ (@l9 _ _ _ _ _ (@i6 _ _ _ _ _ (@ue _ _ _ _ _ _ _ _ _ _ _ _ _ _ _ _ _ _ _ _ _ _ _ _ _ _ _ _ _ _ _ _ _ _ _ _ _))) (@l9 _ _ _ _ _ (@i6 _ _ _ _ _ (@F8 _ _ _ _ _ _ _ _ _ _ _ _ _ _ _ _ (v9 Y) (.inl rfl) (by trivial) (by rfl) (j6 Y).m (j6 Y).F.kp (j6 Y).b (@b7 _ _ _ _ _ _ _ _ (@qv _ _ _ _ .B 0 _ (by rfl) (by trivial) (by decide) (by decide)) (@g4 _ _ _ _ _ _ _ _ _ (@g4 _ _ _ _ _ _ _ _ _ (@b9 _ _ _ _))) (by rfl)) (by decide) (by rfl) (by rfl)))) (by exact fun _ _=>rfl) (by rfl))) (@b9 _ _ _ _) (by rfl)) (by rfl)) (@e8 _ _ 4 _ o9.nd rfl (by trivial) (by trivial)) (@i3 _ _) (@c7 _ _ _ _ _ _ _ _ (@v4 _ _ _ _ _ _ _ 5 _ _ o9.nd rfl (by trivial) (@g7 _ _ _ _ _ _ _ _ _ _ _ _ _ o7 A1 (@c9 _ _ _ _ _ _ _) (@g7 _ _ _ _ _ _ _ _ _ _ _ _ _ t0 (o8 (C:=CMulB) (g:=k9) (fun _ _=>rfl) (fun _ _ _=>.int)) (@qv _ _ _ _ .B 1 _ (by rfl) (by trivial) (by decide) (by decide)) (@g7 _ _ _ _ _ _ _ _ _ _ _ _ _ o7 A1 (@g7 _ _ _ _ _ _ _ _ _ _ _ _ _ t0 (o8 (C:=CMulB) (g:=k9) (fun _ _=>rfl) (fun _ _ _=>.int)) (@c9 _ _ _ _ _ _ _) (@qv _ _ _ _ .B 4 _ (by rfl) (by trivial) (by decide) (by decide))) (@c9 _ _ _ _ _ _ _)))) (by rfl) (by trivial)) (@c7 _ _ _ _ _ _ _ _ (@j9 _ _ _ _ _ _ _ 6 _ _ o9.nd rfl (by trivial) (@F8 _ _ _ _ _ _ _ _ _ _ _ _ _ _ _ _ (L8 Y) (.inl rfl) (by trivial) (by rfl) (q5 Y).m (q5 Y).F.kp (q5 Y).b (@b7 _ _ _ _ _ _ _ _ (@qv _ _ _ _ .B 0 _ (by rfl) (by trivial) (by decide) (by decide)) (@b7 _ _ _ _ _ _ _ _ (@qv _ _ _ _ .B 5 _ (by rfl) (by trivial) (by decide) (by decide)) (@b7 _ _ _ _ _ _ _ _ (@qv _ _ _ _ .B 1 _ (by rfl) (by trivial) (by decide) (by decide)) (@b7 _ _ _ _ _ _ _ _ (@l9 _ _ _ _ _ (@i6 _ _ _ _ _ (@gF _ _ _ _ _ _ _ _ _ _ _ _ _ _ _ _ _ _ _ _ _ _))) (@b7 _ _ _ _ _ _ _ _ (@qv _ _ _ _ .B 2 _ (by rfl) (by trivial) (by decide) (by decide)) (@b9 _ _ _ _) (by rfl)) (by rfl)) (by rfl)) (by rfl)) (by rfl)) (by decide) (by rfl) (by rfl)) (by rfl) (by trivial)) (@c7 _ _ _ _ _ _ _ _ (@j9 _ _ _ _ _ _ _ 7 _ _ o9.nd rfl (by trivial) (@F8 _ _ _ _ _ _ _ _ _ _ _ _ _ _ _ _ (L8 Y) (.inl rfl) (by trivial) (by rfl) (q5 Y).m (q5 Y).F.kp (q5 Y).b (@b7 _ _ _ _ _ _ _ _ (@qv _ _ _ _ .B 0 _ (by rfl) (by trivial) (by decide) (by decide)) (@b7 _ _ _ _ _ _ _ _ (@g7 _ _ _ _ _ _ _ _ _ _ _ _ _ o7 A1 (@qv _ _ _ _ .B 5 _ (by rfl) (by trivial) (by decide) (by decide)) (@qv _ _ _ _ .B 1 _ (by rfl) (by trivial) (by decide) (by decide))) (@b7 _ _ _ _ _ _ _ _ (@qv _ _ _ _ .B 1 _ (by rfl) (by trivial) (by decide) (by decide)) (@b7 _ _ _ _ _ _ _ _ (@l9 _ _ _ _ _ (@i6 _ _ _ _ _ (@gF _ _ _ _ _ _ _ _ _ _ _ _ _ _ _ _ _ _ _ _ _ _))) (@b7 _ _ _ _ _ _ _ _ (@qv _ _ _ _ .B 2 _ (by rfl) (by trivial) (by decide) (by decide)) (@b9 _ _ _ _) (by rfl)) (by rfl)) (by rfl)) (by rfl)) (by rfl)) (by decide) (by rfl) (by rfl)) (by rfl) (by trivial)) (@c7 _ _ _ _ _ _ _ _ (@m9 _ _ _ _ _ _ _ _ _ _ _ (@h9 _ _ _ _ _ _ _ _ _ _ _ _ M9 F9 (@l9 _ _ _ _ _ (@i6 _ _ _ _ _ (@F8 _ _ _ _ _ _ _ _ _ _ _ _ _ _ _ _ (v9 Y) (.inl rfl) (by trivial) (by rfl) (j6 Y).m (j6 Y).F.kp (j6 Y).b (@b7 _ _ _ _ _ _ _ _ (@qv _ _ _ _ .B 0 _ (by rfl) (by trivial) (by decide) (by decide)) (@g4 _ _ _ _ _ _ _ _ _ (@g4 _ _ _ _ _ _ _ _ _ (@b9 _ _ _ _))) (by rfl)) (by decide) (by rfl) (by rfl)))) (@c9 _ _ _ _ _ _ _) (by trivial)) (@c7 _ _ _ _ _ _ _ _ (@j9 _ _ _ _ _ _ _ 8 _ _ o9.nd rfl (by trivial) (@F8 _ _ _ _ _ _ _ _ _ _ _ _ _ _ _ _ (v9 Y) (.inl rfl) (by trivial) (by rfl) (j6 Y).m (j6 Y).F.kp (j6 Y).b (@b7 _ _ _ _ _ _ _ _ (@qv _ _ _ _ .B 0 _ (by rfl) (by trivial) (by decide) (by decide)) (@b7 _ _ _ _ _ _ _ _ (@g7 _ _ _ _ _ _ _ _ _ _ _ _ _ o7 A1 (@qv _ _ _ _ .B 5 _ (by rfl) (by trivial) (by decide) (by decide)) (@qv _ _ _ _ .B 1 _ (by rfl) (by trivial) (by decide) (by decide))) (@b7 _ _ _ _ _ _ _ _ (@qv _ _ _ _ .B 1 _ (by rfl) (by trivial) (by decide) (by decide)) (@b9 _ _ _ _) (by rfl)) (by rfl)) (by rfl)) (by decide) (by rfl) (by rfl)) (by rfl) (by trivial)) (@c8 _ _ _ _ _ _ (@v4 _ _ _ _ _ _ _ 7 _ _ o9.nd rfl (by trivial) (@x6 _ _ _ _ _ (@g7 _ _ _ _ _ _ _ _ _ _ _ _ _ eC eE (@l9 _ _ _ _ _ (@i6 _ _ _ _ _ (@kJ _ _ _ _ _ _ _ _ _ _ _ (@qv _ _ _ _ .B 6 _ (by rfl) (by trivial) (by decide) (by decide)) (@aR _ _ _ _ _ (@qv _ _ _ _ .B 8 _ (by rfl) (by trivial) (by decide) (by decide))) (@aS _ _ _) (by rfl)))) (@l9 _ _ _ _ _ (@i6 _ _ _ _ _ (@kJ _ _ _ _ _ _ _ _ _ _ _ (@qv _ _ _ _ .B 6 _ (by rfl) (by trivial) (by decide) (by decide)) (@aS _ _ _) (@aR _ _ _ _ _ (@qv _ _ _ _ .B 8 _ (by rfl) (by trivial) (by decide) (by decide))) (by rfl)))))) (by rfl) (by trivial)))) (@n8 _ _ _ _)) (@c8 _ _ _ _ _ _ (@bO _ _ _ _ _ _ _ (@bO _ _ _ _ _ _ _ (@Y5 _ _ _ _ _ _ _ 3 _ _ _ _ rfl (by trivial) (@x6 _ _ _ _ _ (@B2 _ _ _ _ _ _ _ (@b7 _ _ _ _ _ _ _ _ (@qv _ _ _ _ .V 6 _ (by rfl) (by trivial) (by decide) (by decide)) (@b7 _ _ _ _ _ _ _ _ (@qv _ _ _ _ .V 7 _ (by rfl) (by trivial) (by decide) (by decide)) (@b9 _ _ _ _) (by rfl)) (by rfl)))) (by decide) (by decide) (by rfl) (by rfl) (by rfl) (by rfl) (by rfl))))))))) (by intro _; rfl)) (@c7 _ _ _ _ _ _ _ _ (@v4 _ _ _ _ _ _ _ 9 _ _ o9.nd rfl (by trivial) (@P2 _ _ _ _ _ _ _ _ (@i6 _ _ _ _ _ (@K5 _ _ _ _ _ _ (@g4 _ _ _ _ _ _ _ _ _ (@g4 _ _ _ _ _ _ _ _ _ (@g4 _ _ _ _ _ _ _ _ _ (@b7 _ _ _ _ _ _ _ _ (@g7 _ _ _ _ _ _ _ _ _ _ _ _ _ dw (o8 (C:=M6) (g:=Z7) (fun _ _=>rfl) (fun _ _ _=>.int)) (@c9 _ _ _ _ _ _ _) (@c9 _ _ _ _ _ _ _)) (@b9 _ _ _ _) (by rfl))))))) (@i6 _ _ _ _ _ (@F8 _ _ _ _ _ _ _ _ _ _ _ _ _ _ _ _ (v9 Y) (.inl rfl) (by trivial) (by rfl) (j6 Y).m (j6 Y).F.kp (j6 Y).b (@b7 _ _ _ _ _ _ _ _ (@qv _ _ _ _ .B 0 _ (by rfl) (by trivial) (by decide) (by decide)) (@g4 _ _ _ _ _ _ _ _ _ (@g4 _ _ _ _ _ _ _ _ _ (@b9 _ _ _ _))) (by rfl)) (by decide) (by rfl) (by rfl))) (by exact fun _ _=>rfl) (by rfl)) (by rfl) (by trivial)) (@c7 _ _ _ _ _ _ _ _ (@j9 _ _ _ _ _ _ _ 10 _ _ o9.nd rfl (by trivial) (@F8 _ _ _ _ _ _ _ _ _ _ _ _ _ _ _ _ (L8 Y) (.inl rfl) (by trivial) (by rfl) (q5 Y).m (q5 Y).F.kp (q5 Y).b (@b7 _ _ _ _ _ _ _ _ (@qv _ _ _ _ .B 0 _ (by rfl) (by trivial) (by decide) (by decide)) (@g4 _ _ _ _ _ _ _ _ _ (@b7 _ _ _ _ _ _ _ _ (@qv _ _ _ _ .B 1 _ (by rfl) (by trivial) (by decide) (by decide)) (@b7 _ _ _ _ _ _ _ _ (@l9 _ _ _ _ _ (@i6 _ _ _ _ _ (@gF _ _ _ _ _ _ _ _ _ _ _ _ _ _ _ _ _ _ _ _ _ _))) (@b7 _ _ _ _ _ _ _ _ (@qv _ _ _ _ .B 2 _ (by rfl) (by trivial) (by decide) (by decide)) (@b9 _ _ _ _) (by rfl)) (by rfl)) (by rfl))) (by rfl)) (by decide) (by rfl) (by rfl)) (by rfl) (by trivial)) (@c8 _ _ _ _ _ _ (@g5 _ _ _ _ _ _ _ (@B2 _ _ _ _ _ _ _ (@b7 _ _ _ _ _ _ _ _ (@x6 _ _ _ _ _ (@O7 _ _ _ _ _ _ _ _ _ _ _ _ _ _ J1 (J0 (c:=true)) (by rfl) (bl Y).tuple_ t5 (@b7 _ _ _ _ _ _ _ _ (@i6 _ _ _ _ _ (o6 (show f8 (c0 (top 41)) _ ["_law_script", "_law_places", "_law_scale_here", "_law_moves", "_law_k", "_law_at", "_law_take", "_law_put", "_law_far", "_law_times", "_law_begin"] ["_law_script", "_law_places", "_law_scale_here", "_law_moves", "_law_k", "_law_at", "_law_take", "_law_put", "_law_far", "_law_times", "_law_begin", "_law_held"] from by trivial) rfl (@A2 _ _ _ _ _ _ (@qv _ _ _ _ .B 10 _ (by rfl) (by trivial) (by decide) (by decide)) (by rfl)) (fun _ _ _ _=>(@e8 _ _ 11 _ (by decide +kernel:(["_law_script", "_law_places", "_law_scale_here", "_law_moves", "_law_k", "_law_at", "_law_take", "_law_put", "_law_far", "_law_times", "_law_begin", "_law_held"]:List Str).Nodup) rfl (Or.inl rfl) (.inr rfl))) (@i3 _ _) (m8 (show 11<=11 by decide)) (fun _ _ _ _=>(@n5 _ _ _)) (fun _ _ _ _=>(@g7 _ _ _ _ _ _ _ _ _ _ _ _ _ t0 (o8 (C:=CMulB) (g:=k9) (fun _ _=>rfl) (fun _ _ _=>.int)) (@qv _ _ _ _ .B 11 _ (by rfl) (by trivial) (by decide) (by decide)) (@qv _ _ _ _ .B 9 _ (by rfl) (by trivial) (by decide) (by decide)))))) (@b9 _ _ _ _) (by rfl)) (by decide) (by decide) (by rfl) (by rfl))) (@b7 _ _ _ _ _ _ _ _ (@x6 _ _ _ _ _ (@O7 _ _ _ _ _ _ _ _ _ _ _ _ _ _ J1 (J0 (c:=true)) (by rfl) (bl Y).tuple_ t5 (@b7 _ _ _ _ _ _ _ _ (@qv _ _ _ _ .C 3 _ (by rfl) (by trivial) (by decide) (by decide)) (@b9 _ _ _ _) (by rfl)) (by decide) (by decide) (by rfl) (by rfl))) (@b9 _ _ _ _) (by rfl)) (by rfl)))))))))))
theorem V3:Def (hk w) mg "_law_whole" (top 42) ["_law_found"] 240 (FD "_law_whole" 42 l7 239):=dk Y (by kernel_rfl) fun _ _ _ _ _ _=>us1 fun _=>rfl
theorem aW:FnOk P w (hk w) mg base CX0 1 240 (FD "_law_whole" 42 l7 239) ["_law_found"] (spM (hk w) 1 .F L0):=
 okF (V3 Y) gx (.inl rfl) rfl rfl fun hr=>(c8 (g5 (dq (k6 J3 ag (by rfl) (bl Y).isinstance_ PyProof.Rows.boot_isinstance (b7 (qv .B 0) (b7 (@cM _ _ _ _ _ _ _ (by rfl) (bl Y).int_ AS (by decide) (by decide)) b9))) (dl (Br (k6 J3 ag (by rfl) (bl Y).isinstance_ PyProof.Rows.boot_isinstance (b7 (qv .B 0) (b7 (@cM _ _ _ _ _ _ _ (by rfl) (bl Y).bool_ vU (by decide) (by decide)) b9))))))))
theorem S6:Def (hk w) mg "_law_is_row" (top 43) ["_law_row", "_law_count"] 245 (FD "_law_is_row" 43 l7 244):=dk Y (by kernel_rfl) fun _ _ _ _ _ _=>us2 fun _ _=>rfl
theorem aq:FnOk P w (hk w) mg base CX0 2 245 (FD "_law_is_row" 43 l7 244) ["_law_row", "_law_count"] (spM (hk w) 2 .F G9):=
 okF (S6 Y) fP (.inl rfl) rfl rfl fun hr=>(c8 (g5 (dq (k6 J3 ag (by rfl) (bl Y).isinstance_ PyProof.Rows.boot_isinstance (b7 (qv .B 0) (b7 (@cM _ _ _ _ _ _ _ (by rfl) (bl Y).list_ fk (by decide) (by decide)) b9))) (dl (k6 (bD rfl) (fm (g:=bp)) (by rfl) (bl Y).all_ iT (b7 (l9 (i6 (o6 (show f8 (c0 (top 43)) _ ["_law_row", "_law_count"] ["_law_row", "_law_count", "_law_number"] from by trivial) rfl (A2 (qv .B 0)) (fun _ _ _ _=>(@e8 _ _ 2 _ (by decide +kernel:(["_law_row", "_law_count", "_law_number"]:List Str).Nodup) rfl (Or.inl rfl) (.inr rfl))) i3 (m8 (show 2<=2 by decide)) (fun _ _ _ _=>n5) (fun _ _ _ _=>(dq (l9 (i6 (qcD (aW Y) (V3 Y) (b7 (qv .B 2) b9)))) (dl (@ug _ _ _ _ _ _ _ _ _ _ _ _ _ _ _ _ _ _ BG (bT (g:=gLe) (fun _ _=>rfl) (fun _ _ _=>.bl)) bR xLt c9 (qv .B 2) (qv .B 1) (by with_unfolding_all rfl)))))))) b9))))))
theorem aa:Def (hk w) mg "_law_gone" (top 44) ["_law_stand", "_law_moves", "_law_row", "_law_times"] 250 (FD "_law_gone" 44 l7 249):=dk Y (by kernel_rfl) fun _ _ _ _ _ _=>us4 fun _ _ _ _=>rfl
theorem ce:FnOk P w (hk w) mg base CX0 1 250 (FD "_law_gone" 44 l7 249) ["_law_stand", "_law_moves", "_law_row", "_law_times"] (spM (hk w) 4 .F N0):=
 okF (aa Y) x9 (.inl rfl) rfl rfl fun hr=>(c7 (L7 (i:=4) (show f8 (c0 (top 44)) _ ["_law_stand", "_law_moves", "_law_row", "_law_times", "_law_low", "_law_total", "_law_number", "_law_take", "_law_put", "_law_k"] ["_law_stand", "_law_moves", "_law_row", "_law_times", "_law_low", "_law_total", "_law_number", "_law_take", "_law_put", "_law_k", "_law_held"] from by trivial) rfl (A2 (qv .B 0)) (fun _ _ _ _=>(@e8 _ _ 10 _ (by decide +kernel:(["_law_stand", "_law_moves", "_law_row", "_law_times", "_law_low", "_law_total", "_law_number", "_law_take", "_law_put", "_law_k", "_law_held"]:List Str).Nodup) rfl (Or.inl rfl) (.inr rfl))) i3 (m8 (show 10<=10 by decide)) (fun _ _ _ _=>n5) (fun _ _ _ _=>c9) x9.nd rfl (by trivial)) (c7 (j9 (i:=5) x9.nd rfl (by trivial) (o6 (show f8 (c0 (top 44)) _ ["_law_stand", "_law_moves", "_law_row", "_law_times", "_law_low", "_law_total", "_law_number", "_law_take", "_law_put", "_law_k"] ["_law_stand", "_law_moves", "_law_row", "_law_times", "_law_low", "_law_total", "_law_number", "_law_take", "_law_put", "_law_k", "_law_held"] from by trivial) rfl (A2 (qv .B 0)) (fun _ _ _ _=>(@e8 _ _ 10 _ (by decide +kernel:(["_law_stand", "_law_moves", "_law_row", "_law_times", "_law_low", "_law_total", "_law_number", "_law_take", "_law_put", "_law_k", "_law_held"]:List Str).Nodup) rfl (Or.inl rfl) (.inr rfl))) i3 (m8 (show 10<=10 by decide)) (fun _ _ _ _=>n5) (fun _ _ _ _=>c9)) (by rfl) (by trivial)) (c7 (A3 PassesOwn.never rfl (N7 (qv .U 2)) (@e8 _ _ 6 _ x9.nd rfl (by trivial) (by trivial)) i3 (c7 (@si _ _ _ _ _ _ _ _ _ _ _ (e9 (qv .B 1) (qv .B 6)) (@z8 _ (hk w) _ _ _ _ 2 rfl (j3 (@e8 _ _ 7 _ x9.nd rfl (by trivial) (by trivial)) (j3 (@e8 _ _ 8 _ x9.nd rfl (by trivial) (by trivial)) z7)) (by rfl) (by rfl) (by rfl)) (C0 (.inr rfl) (j4 (.inr rfl) i3 (j4 (.inr rfl) i3 z9))) (by rfl) (by rfl) (by rfl)) (c8 (A3 PassesOwn.never rfl (B3 (by rfl) (bl Y).range_ (b7 (k6 o5 o0 (by rfl) (bl Y).len_ PySem.boot_len (b7 (qv .B 0) b9)) b9)) (@e8 _ _ 9 _ x9.nd rfl (by trivial) (by trivial)) i3 (c7 (@dj _ _ _ _ _ _ _ _ 4 _ _ _ _ rfl (by trivial) (qv .B 9) (k6 (fN rfl) (b_2 (g:=eU)) (by rfl) (bl Y).max_ iR (b7 (g6 (e9 (qv .B 4) (qv .B 9))) (b7 (g7 N8 aB (g6 (e9 (qv .B 7) (qv .B 9))) (g6 (e9 (qv .B 5) (qv .B 9)))) b9))) (by decide) (by decide) (@aU _ _ _ _ _ _ _ (@pv _ 4 _ _ (by rfl) (by trivial) (by decide) (by decide)) (qv .B 9) set_list (by intro _; rfl)) (by rfl) (by rfl)) (c8 (@dj _ _ _ _ _ _ _ _ 5 _ _ _ _ rfl (by trivial) (qv .B 9) (g7 N8 aB (g7 o7 A1 (g6 (e9 (qv .B 5) (qv .B 9))) (g6 (e9 (qv .B 8) (qv .B 9)))) (g6 (e9 (qv .B 7) (qv .B 9)))) (by decide) (by decide) (@aU _ _ _ _ _ _ _ (@pv _ 5 _ _ (by rfl) (by trivial) (by decide) (by decide)) (qv .B 9) set_list (by intro _; rfl)) (by rfl) (by rfl)))))))) (c7 (A3 PassesOwn.never rfl (B3 (by rfl) (bl Y).range_ (b7 (k6 o5 o0 (by rfl) (bl Y).len_ PySem.boot_len (b7 (qv .B 0) b9)) b9)) (@e8 _ _ 9 _ x9.nd rfl (by trivial) (by trivial)) i3 (c8 (m9 (h9 bR xLt (g6 (e9 (qv .B 0) (qv .B 9))) (g7 o7 A1 (g6 (e9 (qv .B 4) (qv .B 9))) (g7 t0 (o8 (C:=CMulB) (g:=k9) (fun _ _=>rfl) (fun _ _ _=>.int)) (g7 N8 aB (qv .B 3) c9) (k6 (fN rfl) (b_2 (g:=eU)) (by rfl) (bl Y).max_ iR (b7 (g7 N8 aB c9 (g6 (e9 (qv .B 5) (qv .B 9)))) (g4 b9)))))) (c8 (g5 D9)) n8))) (c8 (g5 (o6 (show f8 (c0 (top 44)) _ ["_law_stand", "_law_moves", "_law_row", "_law_times", "_law_low", "_law_total", "_law_number", "_law_take", "_law_put", "_law_k"] ["_law_stand", "_law_moves", "_law_row", "_law_times", "_law_low", "_law_total", "_law_number", "_law_take", "_law_put", "#_law_k", "_law_k"] from by trivial) rfl (B3 (by rfl) (bl Y).range_ (b7 (k6 o5 o0 (by rfl) (bl Y).len_ PySem.boot_len (b7 (qv .B 0) b9)) b9)) (fun _ _ _ _=>(@e8 _ _ 10 _ (by decide +kernel:(["_law_stand", "_law_moves", "_law_row", "_law_times", "_law_low", "_law_total", "_law_number", "_law_take", "_law_put", "#_law_k", "_law_k"]:List Str).Nodup) rfl (Or.inl rfl) (.inr rfl))) i3 (m8 (show 10<=10 by decide)) (fun _ _ _ _=>n5) (fun _ _ _ _=>(g7 o7 A1 (g6 (e9 (qv .B 0) (qv .B 10))) (g7 t0 (o8 (C:=CMulB) (g:=k9) (fun _ _=>rfl) (fun _ _ _=>.int)) (qv .B 3) (g6 (e9 (qv .B 5) (qv .B 10)))))))))))))
theorem S7:Def (hk w) mg "_law_behind" (top 45) ["_law_stand", "_law_move"] 257 (FD "_law_behind" 45 l7 256):=dk Y (by kernel_rfl) fun _ _ _ _ _ _=>us2 fun _ _=>rfl
theorem ar:FnOk P w (hk w) mg base CX0 1 257 (FD "_law_behind" 45 l7 256) ["_law_stand", "_law_move"] (spM (hk w) 2 .F D3):=
 okF (S7 Y) O6 (.inl rfl) rfl rfl fun hr=>(c7 (j9 (i:=2) O6.nd rfl (by trivial) (K5 b9) (by rfl) (by trivial)) (c7 (A3 PassesOwn.never rfl (B3 (by rfl) (bl Y).range_ (b7 (k6 o5 o0 (by rfl) (bl Y).len_ PySem.boot_len (b7 (qv .B 0) b9)) b9)) (@e8 _ _ 3 _ O6.nd rfl (by trivial) (by trivial)) i3 (c7 (m9 (h9 bR xLt (g6 (e9 (qv .B 0) (qv .B 3))) (g6 (e9 (g6 (e9 (qv .B 1) c9)) (qv .B 3)))) (c8 (g5 D9)) n8) (c8 (@Y5 _ _ _ _ _ _ _ 2 _ _ _ _ rfl (by trivial) (g7 o7 A1 (g7 N8 aB (g6 (e9 (qv .B 0) (qv .B 3))) (g6 (e9 (g6 (e9 (qv .B 1) c9)) (qv .B 3)))) (g6 (e9 (g6 (e9 (qv .B 1) c9)) (qv .B 3)))) (by decide) (by decide) (by rfl) (by rfl) (by rfl) (by rfl) (by rfl))))) (c8 (g5 (O7 J1 (J0 (c:=true)) (by rfl) (bl Y).tuple_ t5 (b7 (qv .C 2) b9))))))
theorem S5:Def (hk w) mg "_law_stands" (top 46) ["_law_begin", "_law_moves", "_law_cells"] 262 (FD "_law_stands" 46 l7 261):=dk Y (by kernel_rfl) fun _ _ _ _ _ _=>us3 fun _ _ _=>rfl
theorem ao:FnOk P w (hk w) mg base CX0 2 262 (FD "_law_stands" 46 l7 261) ["_law_begin", "_law_moves", "_law_cells"] (spM (hk w) 3 .F G8):=
 okF (S5 Y) D1 (.inl rfl) rfl rfl fun hr=>(c7 (j9 (i:=3) D1.nd rfl (by trivial) (K5 (b7 (qv .V 0) b9)) (by rfl) (by trivial)) (c7 (A3 PassesOwn.never rfl (N7 (qv .U 2)) (@e8 _ _ 4 _ D1.nd rfl (by trivial) (by trivial)) i3 (c7 (L7 (i:=5) (show f8 (c0 (top 46)) _ ["_law_begin", "_law_moves", "_law_cells", "_law_found", "_law_cell", "_law_steps"] ["_law_begin", "_law_moves", "_law_cells", "_law_found", "_law_cell", "_law_steps", "_law_move"] from by trivial) rfl (A2 (qv .B 1)) (fun _ _ _ _=>(@e8 _ _ 6 _ (by decide +kernel:(["_law_begin", "_law_moves", "_law_cells", "_law_found", "_law_cell", "_law_steps", "_law_move"]:List Str).Nodup) rfl (Or.inl rfl) (.inr rfl))) i3 (m8 (show 6<=6 by decide)) (fun _ _ _ _=>n5) (fun _ _ _ _=>(x6 (qcD (ar Y) (S7 Y) (b7 (g6 (e9 (qv .B 3) (eA V8 (eG (g:=M0) (fun _=>rfl) (fun _ _=>.int)) c9))) (b7 (qv .B 6) b9))))) D1.nd rfl (by trivial)) (c7 (L7 (i:=5) (show f8 (c0 (top 46)) _ ["_law_begin", "_law_moves", "_law_cells", "_law_found", "_law_cell", "_law_steps"] ["_law_begin", "_law_moves", "_law_cells", "_law_found", "_law_cell", "_law_steps", "_law_step"] from by trivial) rfl (A2 (qv .B 5)) (fun _ _ _ _=>(@e8 _ _ 6 _ (by decide +kernel:(["_law_begin", "_law_moves", "_law_cells", "_law_found", "_law_cell", "_law_steps", "_law_step"]:List Str).Nodup) rfl (Or.inl rfl) (.inr rfl))) i3 (m8 (show 6<=6 by decide)) (fun _ _ _ _=>(gE (h9 W8 W9 (qv .B 6) D9))) (fun _ _ _ _=>(qv .V 6)) D1.nd rfl (by trivial)) (c8 (m9 (h9 P3 xGt (k6 o5 o0 (by rfl) (bl Y).len_ PySem.boot_len (b7 (qv .B 5) b9)) c9) (c8 (@Y5 _ _ _ _ _ _ _ 3 _ _ _ _ rfl (by trivial) (P2 (qv .C 5) (g7 K6 (o8 (C:=C2) (g:=C7) (fun _ _=>rfl) (fun _ _ _=>.int)) (g7 jK (o8 (C:=V5) (g:=V0) (fun _ _=>rfl) (fun _ _ _=>.int)) (g7 K6 (o8 (C:=C2) (g:=C7) (fun _ _=>rfl) (fun _ _ _=>.int)) (g7 t0 (o8 (C:=CMulB) (g:=k9) (fun _ _=>rfl) (fun _ _ _=>.int)) (qv .B 4) c9) c9) c9) (k6 o5 o0 (by rfl) (bl Y).len_ PySem.boot_len (b7 (qv .B 5) b9)))) (by decide) (by decide) (by rfl) (by rfl) (by rfl) (by rfl) (by rfl))) n8))))) (c8 (@aQ _ _ _ _ _ 3 _ _ (.inl rfl) (by rfl) (by trivial) (by decide) (by decide)))))
theorem cz:Def (hk w) mg "_law_lifts" (top 47) ["_law_begin", "_law_moves", "_law_found", "_law_times"] 267 (FD "_law_lifts" 47 l7 266):=dk Y (by kernel_rfl) fun _ _ _ _ _ _=>us4 fun _ _ _ _=>rfl
theorem gZ:FnOk P w (hk w) mg base CX0 3 267 (FD "_law_lifts" 47 l7 266) ["_law_begin", "_law_moves", "_law_found", "_law_times"] (spM (hk w) 4 .F R9):=
 okF (cz Y) K2 (.inl rfl) rfl rfl fun hr=>(c7 (m9 (PW.pt (P1 (h9 bQ X0 (k6 o5 o0 (by rfl) (bl Y).len_ PySem.boot_len (b7 (qv .B 2) b9)) c9) (P1 (N6 (K4 (l9 (i6 (qcD (aq Y) (S6 Y) (b7 (g6 (e9 (qv .B 2) c9)) (b7 (k6 o5 o0 (by rfl) (bl Y).len_ PySem.boot_len (b7 (qv .B 1) b9)) b9))))))) (W5 (N6 (K4 (l9 (i6 (qcD (aq Y) (S6 Y) (b7 (g6 (e9 (qv .B 2) c9)) (b7 (k6 o5 o0 (by rfl) (bl Y).len_ PySem.boot_len (b7 (qv .B 1) b9)) b9))))))))))) (c8 (g5 E5)) n8) (c7 (j9 (i:=4) K2.nd rfl (by trivial) (qcD (ce Y) (aa Y) (b7 (qv .B 0) (b7 (qv .B 1) (b7 (g6 (e9 (qv .B 2) c9)) (g4 b9))))) (by rfl) (by trivial)) (c7 (m9 (h9 gK hJ (qv .B 4) D9) (c8 (g5 E5)) n8) (c7 (j9 (i:=5) K2.nd rfl (by trivial) (qcD (ce Y) (aa Y) (b7 (qv .B 4) (b7 (qv .B 1) (b7 (g6 (e9 (qv .B 2) c9)) (b7 (g7 o7 A1 c9 (qv .B 3)) b9))))) (by rfl) (by trivial)) (c7 (m9 (h9 gK hJ (qv .B 5) D9) (c8 (g5 E5)) n8) (c7 (L7 (i:=6) (show f8 (c0 (top 47)) _ ["_law_begin", "_law_moves", "_law_found", "_law_times", "_law_stand", "_law_high", "_law_gain"] ["_law_begin", "_law_moves", "_law_found", "_law_times", "_law_stand", "_law_high", "_law_gain", "_law_k"] from by trivial) rfl (B3 (by rfl) (bl Y).range_ (b7 (k6 o5 o0 (by rfl) (bl Y).len_ PySem.boot_len (b7 (qv .B 4) b9)) b9)) (fun _ _ _ _=>(@e8 _ _ 7 _ (by decide +kernel:(["_law_begin", "_law_moves", "_law_found", "_law_times", "_law_stand", "_law_high", "_law_gain", "_law_k"]:List Str).Nodup) rfl (Or.inl rfl) (.inr rfl))) i3 (m8 (show 7<=7 by decide)) (fun _ _ _ _=>n5) (fun _ _ _ _=>(g7 N8 aB (g6 (e9 (qv .B 5) (qv .B 7))) (g6 (e9 (qv .B 4) (qv .B 7))))) K2.nd rfl (by trivial)) (c8 (g5 (dq (dm sk xGe (k6 (oy rfl) (oJ (g:=U6)) (by rfl) (bl Y).min_ AR (b7 (qv .B 6) b9)) c9) (dl (dm sk xGe (k6 (bC rfl) (iV (g:=bj)) (by rfl) (bl Y).sum_ iQ (b7 (qv .B 6) b9)) (g7 o7 A1 c9 (qv .B 3)))))))))))))
theorem aA:Def (hk w) mg "_law_are_all" (top 48) ["_law_begin", "_law_moves", "_law_found", "_law_seen"] 272 (FD "_law_are_all" 48 l7 271):=dk Y (by kernel_rfl) fun _ _ _ _ _ _=>us4 fun _ _ _ _=>rfl
theorem eD:FnOk P w (hk w) mg base CX0 2 272 (FD "_law_are_all" 48 l7 271) ["_law_begin", "_law_moves", "_law_found", "_law_seen"] (spM (hk w) 4 .F M3):=
 okF (aA Y) F0 (.inl rfl) rfl rfl fun hr=>(c7 (m9 (PW.pt (P1 (h9 bQ X0 (k6 o5 o0 (by rfl) (bl Y).len_ PySem.boot_len (b7 (qv .B 2) b9)) c9) (P1 (N6 (K4 (k6 J3 ag (by rfl) (bl Y).isinstance_ PyProof.Rows.boot_isinstance (b7 (g6 (e9 (qv .B 2) c9)) (b7 (@cM _ _ _ _ _ _ _ (by rfl) (bl Y).list_ fk (by decide) (by decide)) b9))))) (W5 (h9 (ng (U9 hr)) (kN (neg:=true)) (qv .B 0) (g6 (e9 (qv .B 2) c9))))))) (c8 (g5 E5)) n8) (c7 (A3 PassesOwn.never rfl (N7 (e9 (qv .B 2) c9)) (@e8 _ _ 4 _ F0.nd rfl (by trivial) (by trivial)) i3 (c7 (m9 (PW.pt (P1 (N6 (K4 (k6 J3 ag (by rfl) (bl Y).isinstance_ PyProof.Rows.boot_isinstance (b7 (qv .B 4) (b7 (@cM _ _ _ _ _ _ _ (by rfl) (bl Y).tuple_ t5 (by decide) (by decide)) b9))))) (W5 (h9 bQ X0 (k6 o5 o0 (by rfl) (bl Y).len_ PySem.boot_len (b7 (qv .B 4) b9)) (k6 o5 o0 (by rfl) (bl Y).len_ PySem.boot_len (b7 (qv .B 0) b9)))))) (c8 (g5 E5)) n8) (c8 (A3 PassesOwn.never rfl (N7 (qv .U 1)) (@e8 _ _ 5 _ F0.nd rfl (by trivial) (by trivial)) i3 (c7 (j9 (i:=6) F0.nd rfl (by trivial) (qcD (ar Y) (S7 Y) (b7 (qv .B 4) (b7 (qv .B 5) b9))) (by rfl) (by trivial)) (c8 (m9 (PW.pt (mN (h9 W8 W9 (qv .B 6) D9) (jF (h9 (ng (U9 hr)) (kN (neg:=true)) (qv .B 6) (g6 (e9 (qv .B 2) c9)))))) (c8 (g5 E5)) n8))))))) (c8 (g5 (k6 (bD rfl) (fm (g:=bp)) (by rfl) (bl Y).all_ iT (b7 (l9 (i6 (o6 (show f8 (c0 (top 48)) _ ["_law_begin", "_law_moves", "_law_found", "_law_seen", "_law_stand", "_law_move", "_law_step"] ["_law_begin", "_law_moves", "_law_found", "_law_seen", "#_law_stand", "_law_move", "_law_step", "_law_stand"] from by trivial) rfl (A2 (qv .B 3)) (fun _ _ _ _=>(@e8 _ _ 7 _ (by decide +kernel:(["_law_begin", "_law_moves", "_law_found", "_law_seen", "#_law_stand", "_law_move", "_law_step", "_law_stand"]:List Str).Nodup) rfl (Or.inl rfl) (.inr rfl))) i3 (m8 (show 7<=7 by decide)) (fun _ _ _ _=>n5) (fun _ _ _ _=>(dm (BH (U9 hr)) (kN (neg:=false)) (qv .B 7) (g6 (e9 (qv .B 2) c9))))))) b9))))))
theorem cw:Def (hk w) mg "_law_weigh" (top 49) ["_law_begin", "_law_moves", "_law_found", "_law_seen"] 277 (FD "_law_weigh" 49 l7 276):=dk Y (by kernel_rfl) fun _ _ _ _ _ _=>us4 fun _ _ _ _=>rfl
theorem gX:FnOk P w (hk w) mg base CX0 2 277 (FD "_law_weigh" 49 l7 276) ["_law_begin", "_law_moves", "_law_found", "_law_seen"] (spM (hk w) 4 .F R7):=
 okF (cw Y) Q5 (.inl rfl) rfl rfl fun hr=>(c7 (m9 (PW.pt (P1 (h9 bQ X0 (k6 o5 o0 (by rfl) (bl Y).len_ PySem.boot_len (b7 (qv .B 2) b9)) c9) (P1 (N6 (K4 (k6 J3 ag (by rfl) (bl Y).isinstance_ PyProof.Rows.boot_isinstance (b7 (g6 (e9 (qv .B 2) c9)) (b7 (@cM _ _ _ _ _ _ _ (by rfl) (bl Y).tuple_ t5 (by decide) (by decide)) b9))))) (W5 (h9 bQ X0 (k6 o5 o0 (by rfl) (bl Y).len_ PySem.boot_len (b7 (g6 (e9 (qv .B 2) c9)) b9)) (k6 o5 o0 (by rfl) (bl Y).len_ PySem.boot_len (b7 (qv .B 0) b9))))))) (c8 (g5 E5)) n8) (c7 (m9 (N6 (K4 (k6 (bD rfl) (fm (g:=bp)) (by rfl) (bl Y).all_ iT (b7 (l9 (i6 (o6 (show f8 (c0 (top 49)) _ ["_law_begin", "_law_moves", "_law_found", "_law_seen", "_law_limit", "_law_stand"] ["_law_begin", "_law_moves", "_law_found", "_law_seen", "_law_limit", "_law_stand", "_law_number"] from by trivial) rfl (A2 (g6 (e9 (qv .B 2) c9))) (fun _ _ _ _=>(@e8 _ _ 6 _ (by decide +kernel:(["_law_begin", "_law_moves", "_law_found", "_law_seen", "_law_limit", "_law_stand", "_law_number"]:List Str).Nodup) rfl (Or.inl rfl) (.inr rfl))) i3 (m8 (show 6<=6 by decide)) (fun _ _ _ _=>n5) (fun _ _ _ _=>(dq (l9 (i6 (qcD (aW Y) (V3 Y) (b7 (qv .B 6) b9)))) (dl (dm P3 xGt (qv .B 6) c9))))))) b9)))) (c8 (g5 E5)) n8) (c7 (j9 (i:=4) Q5.nd rfl (by trivial) (k6 (bC rfl) (iV (g:=bj)) (by rfl) (bl Y).sum_ iQ (b7 (l9 (i6 (o6 (show f8 (c0 (top 49)) _ ["_law_begin", "_law_moves", "_law_found", "_law_seen", "_law_limit", "_law_stand"] ["_law_begin", "_law_moves", "_law_found", "_law_seen", "_law_limit", "_law_stand", "_law_k"] from by trivial) rfl (B3 (by rfl) (bl Y).range_ (b7 (k6 o5 o0 (by rfl) (bl Y).len_ PySem.boot_len (b7 (qv .B 0) b9)) b9)) (fun _ _ _ _=>(@e8 _ _ 6 _ (by decide +kernel:(["_law_begin", "_law_moves", "_law_found", "_law_seen", "_law_limit", "_law_stand", "_law_k"]:List Str).Nodup) rfl (Or.inl rfl) (.inr rfl))) i3 (m8 (show 6<=6 by decide)) (fun _ _ _ _=>n5) (fun _ _ _ _=>(g7 t0 (o8 (C:=CMulB) (g:=k9) (fun _ _=>rfl) (fun _ _ _=>.int)) (g6 (e9 (g6 (e9 (qv .B 2) c9)) (qv .B 6))) (g6 (e9 (qv .B 0) (qv .B 6)))))))) b9)) (by rfl) (by trivial)) (c7 (A3 PassesOwn.never rfl (N7 (qv .U 3)) (@e8 _ _ 5 _ Q5.nd rfl (by trivial) (by trivial)) i3 (c8 (m9 (PW.pt (P1 (h9 P3 xGt (k6 (bC rfl) (iV (g:=bj)) (by rfl) (bl Y).sum_ iQ (b7 (l9 (i6 (o6 (show f8 (c0 (top 49)) _ ["_law_begin", "_law_moves", "_law_found", "_law_seen", "_law_limit", "_law_stand"] ["_law_begin", "_law_moves", "_law_found", "_law_seen", "_law_limit", "_law_stand", "_law_k"] from by trivial) rfl (B3 (by rfl) (bl Y).range_ (b7 (k6 o5 o0 (by rfl) (bl Y).len_ PySem.boot_len (b7 (qv .B 0) b9)) b9)) (fun _ _ _ _=>(@e8 _ _ 6 _ (by decide +kernel:(["_law_begin", "_law_moves", "_law_found", "_law_seen", "_law_limit", "_law_stand", "_law_k"]:List Str).Nodup) rfl (Or.inl rfl) (.inr rfl))) i3 (m8 (show 6<=6 by decide)) (fun _ _ _ _=>n5) (fun _ _ _ _=>(g7 t0 (o8 (C:=CMulB) (g:=k9) (fun _ _=>rfl) (fun _ _ _=>.int)) (g6 (e9 (g6 (e9 (qv .B 2) c9)) (qv .B 6))) (g6 (e9 (qv .B 5) (qv .B 6)))))))) b9)) (qv .B 4)) (W5 (h9 P3 xGt (k6 (oz rfl) (oJ (g:=Q8)) (by rfl) (bl Y).max_ iR (b7 (qv .B 5) b9)) (qv .B 4))))) (c8 (g5 E5)) n8))) (c8 (g5 E5))))))
theorem Ah:Def (hk w) mg "law" (top 50) ["_law_script"] 284 (FD "law" 50 l7 283):=dk Y (by kernel_rfl) fun _ _ _ _ _ _=>us1 fun _=>rfl
theorem BJ:FnOk P w (hk w) mg base CX0 7 284 (FD "law" 50 l7 283) ["_law_script"] (spM (hk w) 1 .F gc):=
 okF (Ah Y) bK (.inl rfl) rfl rfl fun hr=>(c7 (@si _ _ _ _ _ _ _ _ _ _ _ (pU (x6 (qcD (ji Y) (dO Y) (b7 (qv .B 0) b9)))) (@z8 _ (hk w) _ _ _ _ 2 rfl (j3 (@e8 _ _ 1 _ bK.nd rfl (by trivial) (by trivial)) (j3 (@e8 _ _ 2 _ bK.nd rfl (by trivial) (by trivial)) z7)) (by rfl) (by rfl) (by rfl)) (C0 (.inr rfl) (j4 (.inr rfl) i3 (j4 (.inr rfl) i3 z9))) (by rfl) (by rfl) (by rfl)) (c7 (v4 (i:=3) bK.nd rfl (by trivial) c9 (by rfl) (by trivial)) (c7 (m9 (h9 M9 F9 (l9 (i6 (qcD (v9 Y) (j6 Y) (b7 (qv .B 0) (g4 (g4 b9)))))) c9) (c8 (v4 (i:=3) bK.nd rfl (by trivial) (g7 o7 A1 c9 (l9 (i6 (qcD (v9 Y) (j6 Y) (b7 (qv .B 0) (g4 (g4 b9))))))) (by rfl) (by trivial))) n8) (c7 (v4 (i:=4) bK.nd rfl (by trivial) (qcD (nq Y) (iI Y) (b7 (g6 (mL (b7 (qv .U 1) (b7 (qv .U 2) b9)))) (b7 (qv .B 3) b9))) (by rfl) (by trivial)) (c7 (m9 (PW.pt (P1 (N6 (K4 (k6 J3 ag (by rfl) (bl Y).isinstance_ PyProof.Rows.boot_isinstance (b7 (qv .B 4) (b7 (@cM _ _ _ _ _ _ _ (by rfl) (bl Y).tuple_ t5 (by decide) (by decide)) b9))))) (W5 (h9 bR xLt (k6 o5 o0 (by rfl) (bl Y).len_ PySem.boot_len (b7 (qv .B 4) b9)) c9)))) (c8 (g5 E5)) n8) (c7 (m9 (h9 M9 F9 (g6 (e9 (qv .B 4) c9)) F1) (c8 (g5 (qcD (gZ Y) (cz Y) (b7 (qv .B 1) (b7 (qv .B 2) (b7 (qv .B 4) (b7 (g7 K6 (o8 (C:=C2) (g:=C7) (fun _ _=>rfl) (fun _ _ _=>.int)) (g7 t0 (o8 (C:=CMulB) (g:=k9) (fun _ _=>rfl) (fun _ _ _=>.int)) (l9 (i6 (qcD (F2 Y) (D4 Y) (b7 (qv .B 0) (g4 b9))))) c9) (g7 dw (o8 (C:=M6) (g:=Z7) (fun _ _=>rfl) (fun _ _ _=>.int)) c9 c9)) b9))))))) n8) (c7 (m9 (h9 M9 F9 (g6 (e9 (qv .B 4) c9)) F1) (c8 (g5 (qcD (eD Y) (aA Y) (b7 (qv .B 1) (b7 (qv .B 2) (b7 (qv .B 4) (b7 (l9 (i6 (qcD (ao Y) (S5 Y) (b7 (qv .B 1) (b7 (qv .B 2) (b7 (l9 (i6 (@gC _ _ _ _ _ _ false _ _ _ _ _ (qv .B 0) aS (aR c9) (by rfl)))) b9)))))) b9))))))) n8) (c7 (m9 (h9 M9 F9 (g6 (e9 (qv .B 4) c9)) F1) (c8 (g5 (qcD (gX Y) (cw Y) (b7 (qv .B 1) (b7 (qv .B 2) (b7 (qv .B 4) (b7 (l9 (i6 (qcD (ao Y) (S5 Y) (b7 (qv .B 1) (b7 (qv .B 2) (b7 (l9 (i6 (@gC _ _ _ _ _ _ false _ _ _ _ _ (qv .B 0) aS (aR c9) (by rfl)))) b9)))))) b9))))))) n8) (c8 (g5 (dm (gM (U9 hr)) (hU (neg:=false)) (qv .B 4) (g6 (mL (b7 F1 b9))))))))))))))
end
def spLaw (K:Frag):Sp:=fun vs H Q _=>∃ (a:Addr) (ns:List Int),vs = [.ref a]/\SqL K H a (ns.map V.int)/\ns.length<=63/\(∀ x∈ns,Builtin.Int.intBits x<=1048576)/\∀ H',Q (.bl true) H'
theorem all_ {l:PySem.W.OpenLaw} {w:World} {mg:Str->Option Value} {fa:Addr} (Y:En w mg) (hp:∀ ns:List Int,ns.length<=63->(∀ x∈ns,Builtin.Int.intBits x<=1048576)->gc [.scr (ns.map W.int)]=.ok (.bl true)) (e:mg "law" = some (.ref fa)):∃ fd:FuncData,(∀ (s:Shared) (v:Value),BindsTo s fd ⟨[v],[]⟩ [("_law_script",v)])/\∀ base:Heap,(hk w).In base->base.Ns mainGlobals mg->FnOk l.prog w (hk w) mg base CX0 7 fa fd ["_law_script"] (spLaw (hk w)):=by
 cases e.symm.trans (Ah Y).m
 exact ⟨FD "law" 50 l7 283,fun s v=>.of_eq rfl,fun base _ _=>vf (BJ Y) hp⟩
end K77
open PySem PySem.W PyProof.Rows
namespace K77
def hxas:List Addr:=[2,3,15,22,23,25,28,40,42,43,52,53,59,60,64,65,69,70,74,75,79,80,84,85,89,90,96,97,101,102,106,107,111,112,118,119,123,124,128,129,135,136,142,143,149,150,156,157,161,162,168,169,173,174,178,179,185,186,192,193,199,200,206,207,213,214,220,221,227,228,232,233,239,240,244,245,249,250,256,257,261,262,266,267,271,272,276,277,283,284]
def view:Program:={ PySem.Challenge.pw_tokenmoor_k77_whole_what_is_told_of_boun with main:={ PySem.Challenge.pw_tokenmoor_k77_whole_what_is_told_of_boun.main with body:=[1,2,4,5,6,7,9,11,13,14,15,16,17,18,19,20,21,22,23,25,27,28,30,31,32,33,34,35,37,38,39,40,41,42,43,44,45,46,47,48,49,50].map top } }
def hook:PySem.W.Hook:=PySem.W.kmHook nT hxas (fun _=>by kernel_rfl) [99]
end K77
set_option maxHeartbeats 0 in
theorem PySem.Challenge.cw_tokenmoor_k77_whole_what_is_told_of_boun_holds : PySem.Challenge.rw_tokenmoor_k77_whole_what_is_told_of_boun.Holds := by
 w_on; o_law
 refine holds_open (q:=K77.view) (loose:=[]) (Xt:=fun s=>xlAt K77.view [] s&&recOk [] s) (XP:=XL K77.view [])
  (Yf:=K77.hook.obs) (Ya:=K77.hook.val) (YP:=K77.hook.says) (N:=3458) ?hl K77.hook.of K77.hook.keeps
  (fun s e=>xl_of s (Bool.and_eq_true_iff.mp e).1) XL.keeps (by rfl) (by rfl) (by rfl)
  (fun s e=>recFacts_of (Bool.and_eq_true_iff.mp e).2) (by rfl) (by first | assumption | decide +kernel)
  (by decide +kernel) ⟨rfl,rfl,rfl,rfl,rfl,by decide +kernel⟩ ?hw ?hc
 (case hl=>intro w; kernel_rfl)
 (case hw=>w_witness2)
 refine L2.walk_ofKB (l:=PySem.Challenge.rw_tokenmoor_k77_whole_what_is_told_of_boun) (n:=63) (k:=7) (x := "_law_script") (CX:=L2.CX0) (sp:=K77.spLaw) rfl (by decide) rfl ⟨rfl,by decide,by decide⟩ (fun w h Y=>PySem.W.km_in_of Y) (fun w h Y p hp=>by
  obtain rfl:p=((99,55,26, "leaving.<locals>.<lambda>"):PySem.Addr×Nat×Nat×PySem.Str):=by simpa [L2.lamT] using hp
  exact ⟨PySem.W.km_tabs_of Y 99 (by simp),L2.codeTab (PySem.W.codeHd_of_K (c:=101) (PySem.W.km_in_of Y) (by kernel_rfl)),by kernel_rfl,by unfold L2.lamT; rfl⟩)
  (fun w mg fa h X G e=>K77.all_ ⟨h,X,G⟩ K77.law_pure e)
  (fun K H a ns hl hb hO hS=>⟨a,ns,rfl,hS,hl,hb,fun _=>rfl⟩) fun _ _ _ _ z=>z
