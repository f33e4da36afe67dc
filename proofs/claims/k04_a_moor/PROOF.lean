import PyProof.Rows.All
import Wide.All
import OpenK.AllK
import Wide.FinOn
import Lean
import PyProof.EqAt
import PyProof.EqKinds
import PyProof.TupleCall
import PyProof.ZipIter
import PyProof.TupleIter
import PyProof.WalksMore
import PyProof.EnumMake
import PyProof.Draws
import PyProof.P3In
import KE.KSortTup
import PyProof.Rows.SortWalk
import KE.IntBitsLaws
import KE.KRevIter
import PyProof.TupleOfGen
import PySem.Challenge.RW_tokenmoor_k04_a_moor
open PySem.W (Frag)
set_option Elab.async false
set_option linter.all false
set_option maxRecDepth 100000
theorem Z1 {p q:Prop} (a:p) (b:q):p/\q:=⟨a,b⟩
noncomputable section
local macro_rules | `(tactic| omega)=>`(tactic| first | with_reducible assumption | decide | lia)
set_option genSizeOf false
set_option genSizeOfSpec false
namespace L2
open PySem PySem.Spec PyProof.Rows
abbrev Key:=Sum Int Str
def keyIs:Key->Value->Bool
 | .inl k,v=>Value.isInt k v
 | .inr x,v=>Value.isStrOf x v
def keyH (w:World):Key->Int
 | .inl k=>hashInt k
 | .inr x=>hashStr w x
theorem keyIs_shape:∀ {k:Key} {v:Value},keyIs k v=true->(∃ i t,k=Sum.inl i/\v=Value.int i t)\/(∃ x t,k=Sum.inr x/\v=Value.str x t)
 | .inl i,v,h=>by
  obtain ⟨t,e⟩:=Value.isInt_shape (k:=i) (v:=v) h
  exact .inl ⟨i,t,rfl,e⟩
 | .inr x,v,h=>by
  obtain ⟨t,e⟩:=Value.isStrOf_shape (x:=x) (v:=v) h
  exact .inr ⟨x,t,rfl,e⟩
theorem key_ll (a b:Int):decide ((Sum.inl a:Key)=Sum.inl b)=(a == b):=by
 by_cases e:a=b
 ·subst e; simp
 ·have h:¬ (Sum.inl a:Key)=Sum.inl b:=fun q=>e (Sum.inl.inj q)
  rw [decide_eq_false h]
  exact (beq_eq_false_iff_ne.mpr e).symm
theorem key_rr (a b:Str):decide ((Sum.inr a:Key)=Sum.inr b)=decide (a=b):=by
 by_cases e:a=b
 ·subst e; simp
 ·have h:¬ (Sum.inr a:Key)=Sum.inr b:=fun q=>e (Sum.inr.inj q)
  rw [decide_eq_false h,decide_eq_false e]
theorem key_lr (a:Int) (b:Str):decide ((Sum.inl a:Key)=Sum.inr b)=false:=decide_eq_false (fun q=>nomatch q)
theorem key_rl (a:Str) (b:Int):decide ((Sum.inr a:Key)=Sum.inl b)=false:=decide_eq_false (fun q=>nomatch q)
def mixKind (prog:Program) (w:World):PySem.KeyKind prog w Key where
 is:=keyIs
 hash:=keyH w
 inj:=fun v a b ha hb=>by
  rcases keyIs_shape ha with ⟨i,t,rfl,rfl⟩ | ⟨x,t,rfl,rfl⟩
  ·rcases keyIs_shape hb with ⟨j,u,rfl,e⟩ | ⟨y,u,rfl,e⟩
   ·injection e with e1 _; rw [e1]
   ·exact nomatch e
  ·rcases keyIs_shape hb with ⟨j,u,rfl,e⟩ | ⟨y,u,rfl,e⟩
   ·exact nomatch e
   ·injection e with e1 _; rw [e1]
 byValue:=fun k v h=>by
  rcases keyIs_shape h with ⟨i,t,rfl,rfl⟩ | ⟨x,t,rfl,rfl⟩ <;> rfl
 pyHash:=fun hv h=>by
  rcases keyIs_shape hv with ⟨i,t,rfl,rfl⟩ | ⟨x,t,rfl,rfl⟩
  ·exact wpAny_pyHash_int h
  ·exact wpAny_pyHash_str h
 eqBool:=fun hu hv h=>by
  rcases keyIs_shape hu with ⟨i,t,rfl,rfl⟩ | ⟨x,t,rfl,rfl⟩
  ·rcases keyIs_shape hv with ⟨j,u,rfl,rfl⟩ | ⟨y,u,rfl,rfl⟩
   ·rw [key_ll] at h; exact wpAny_eqBool_int h
   ·rw [key_lr] at h; exact SeqAt.EqAt.int_str i t y u _ _ _ _ h
  ·rcases keyIs_shape hv with ⟨j,u,rfl,rfl⟩ | ⟨y,u,rfl,rfl⟩
   ·rw [key_rl] at h; exact SeqAt.EqAt.str_int x t j u _ _ _ _ h
   ·rw [key_rr] at h; exact wpAny_eqBool_str h
 «strs»:=fun k x t v h=>by
  rcases keyIs_shape h with ⟨i,u,rfl,e⟩ | ⟨y,u,rfl,e⟩
  ·exact nomatch e
  ·injection e with e1 _
   subst e1
   cases v <;> rfl
end L2
namespace L2
open PySem PySem.Spec PyProof.Rows
inductive V where
 | non | bl (b:Bool) | int (i:Int) | str (x:Str) | byt (b:Array UInt8) | flt (b:UInt64) | ref (a:Addr) | ty (n:String)
 deriving DecidableEq
def RelV:V->Value->Prop
 | .non,u=>u=Value.none
 | .bl b,u=>u=Value.bool b
 | .int i,u=>∃ t,u=Value.int i t
 | .str x,u=>∃ t,u=Value.str x t
 | .byt b,u=>∃ t,u=Value.bytes b t
 | .flt b,u=>∃ t,u=Value.float b t
 | .ref a,u=>u=Value.ref a
 | .ty n,u=>u=Value.type n
abbrev Vals:List V->List Value->Prop:=Paired RelV
theorem Vals.length {xs:List V} {us:List Value} (r:Vals xs us):xs.length=us.length:=Paired.length r
theorem Vals.get:∀ {xs:List V} {us:List Value} {i:Nat} {x:V},Vals xs us->xs[i]?=some x->∃ u,us[i]?=some u/\RelV x u:=by
 intro xs us i x a
 induction a generalizing i with
 | nil=>intro e; cases e
 | cons r t ih=>
  intro e
  cases i with
  | zero=>cases e; exact ⟨_,rfl,r⟩
  | succ i=>exact ih e
theorem Vals.set {x:V} {u:Value} (r:RelV x u):∀ {xs:List V} {us:List Value} (i:Nat),Vals xs us->Vals (xs.set i x) (us.set i u):=by
 intro xs us i h
 induction h generalizing i with
 | nil=>exact .nil
 | cons q t ih=>
  cases i with
  | zero=>exact .cons r t
  | succ i=>exact .cons q (ih i)
theorem Vals.append:∀ {xs ys:List V} {us ws:List Value},Vals xs us->Vals ys ws->Vals (xs++ys) (us++ws):=by
 intro xs ys us ws a s
 induction a with
 | nil=>exact s
 | cons r t ih=>exact .cons r ih
theorem Vals.take:∀ {xs:List V} {us:List Value} (n:Nat),Vals xs us->Vals (xs.take n) (us.take n):=by
 intro xs us n h
 induction h generalizing n with
 | nil=>cases n <;> exact .nil
 | cons r t ih=>
  cases n with
  | zero=>exact .nil
  | succ n=>exact .cons r (ih n)
theorem Vals.drop:∀ {xs:List V} {us:List Value} (n:Nat),Vals xs us->Vals (xs.drop n) (us.drop n)
 | _,_,0,r=>r
 | _,_,_+1,.nil=>.nil
 | _,_,n+1,.cons _ t=>Vals.drop n t
def RelO:Option V->Option Value->Prop
 | some v,some u=>RelV v u
 | none,none=>True
 | _,_=>False
def KV {κ:Type}:List (κ×V)->List (κ×Value)->Prop:=Paired fun (p:κ×V) (q:κ×Value)=>p.1=q.1/\RelV p.2 q.2
def kV:Key->V
 | .inl i=>.int i
 | .inr x=>.str x
inductive HO where
 | lst (xs:List V)
 | tup (xs:List V)
 | dK (kvs:List (Key×V)) | dT (kvs:List (List Key×V))
 | set (S:Int->Bool) (n:Nat)
 | ins (C dx:Addr) (fs:List (Str×V))
 | own (x:Addr)
 | xd (fs:List (Str×V))
 | met (f x:Addr)
 | rng (lo hi:Int)
 | frz (o:Obj) (u:HO)
 | tbl (ps:Array Value)
 | ext (φ:Heap->Prop)
abbrev Hp:=Addr->Option HO
def upd (H:Hp) (a:Addr) (o:HO):Hp:=fun b=>if b=a then some o else H b
theorem upd_same {H:Hp} {a:Addr} {o:HO}:upd H a o a=some o:=by unfold upd; rw [if_pos rfl]
theorem upd_ne {H:Hp} {a b:Addr} {o:HO} (h:b≠a):upd H a o b=H b:=by unfold upd; rw [if_neg h]
theorem ne_of_none {H:Hp} {a b:Addr} {o:HO} (h:H a=some o) (h':H b=none):a≠b:=by
 intro e; subst e; rw [h] at h'; cases h'
section
variable (P:Program) (w:World)
def ObjOk (H:Hp) (h:Heap) (a:Addr):HO->Prop
 | .lst xs=>xs.length<=sizeLine/\∃ (its:List Value) (n:Nat),Vals xs its/\h.get? a=some { cls:=.type "list",data:=.seq its.toArray n }
 | .tup xs=>xs.length<=sizeLine/\∃ its:List Value,Vals xs its/\IsTup h a its.toArray
 | .dK kvs=>kvs.length<=sizeLine/\(a == sysModules)=false/\∃ vs,KV kvs vs/\h.DictOf (mixKind P w) a vs
 | .dT kvs=>kvs.length<=sizeLine/\(a == sysModules)=false/\∃ xs:List (List Key×Addr×Value),
   Paired (fun (p:List Key×V) (q:List Key×Addr×Value)=>p.1=q.1/\H q.2.1=some (.tup (p.1.map kV))/\RelV p.2 q.2.2) kvs xs /\
   ∃ o es ep,h.get? a=some o/\o.ExactDict/\o.data=.dict es ep/\es.toList=xs.map (entryOfKey (tupleKind (mixKind P w)))/\(xs.map (·.1)).Nodup
 | .set S n=>h.SetOf (intKind P w) a S n
 | .ins C dx fs=>H dx=some (.own a)/\fs.length<=1000/\dx≠a/\h.get? a=some (PySem.W.instObj C dx) /\
   ∃ mA,h.Ns1 dx mA/\(∀ f,RelO (fs.lookup f) (mA f))/\PySem.Within mA (fs.map (·.1))
 | .own _=>∃ o,h.get? a=some o
 | .xd fs=>∃ mA,h.Ns1 a mA/\∀ f,RelO (fs.lookup f) (mA f)
 | .rng lo hi=>∃ t u v,h.get? a=some { cls:=.type "range",data:=.fields #[.int lo t,.int hi u,.int 1 v] }
 | .frz o u=>h.get? a=some o/\ObjOk H h a u
 | .tbl ps=>h.get? a=some { cls:=.none,data:=.fields ps }
 | .met f x=>h.get? a=some (PySem.W.methodObj (.ref f) (.ref x))
 | .ext φ=>φ h/\(∃ o,h.get? a=some o)/\∀ h1 h2:Heap,φ h1->(∀ o,h1.get? a=some o->h2.get? a=some o)->φ h2
def HOk (H:Hp) (h:Heap):Prop:=∀ a o,H a=some o->ObjOk P w H h a o
end
section
variable {P:Program} {w:World} {H H':Hp} {h h':Heap} {a:Addr} {o:HO}
theorem ObjOk.lt (x:ObjOk P w H h a o):a<h.objs.size:=by
 cases o with
 | lst xs=>obtain ⟨_,_,_,_,e⟩:=x; exact Heap.lt_size e
 | tup xs=>obtain ⟨_,_,_,p⟩:=x; exact p.lt
 | dK kvs=>obtain ⟨_,_,_,_,o,_,_,e,_⟩:=x; exact Heap.lt_size e
 | dT kvs=>obtain ⟨_,_,_,_,o,_,_,e,_⟩:=x; exact Heap.lt_size e
 | set S n=>obtain ⟨o,_,_,_,e,_⟩:=x; exact Heap.lt_size e
 | ins C dx fs=>obtain ⟨_,_,_,e,_⟩:=x; exact Heap.lt_size e
 | own y=>obtain ⟨_,e⟩:=x; exact Heap.lt_size e
 | xd fs=>obtain ⟨_,⟨_,_,_,e,_⟩,_⟩:=x; exact Heap.lt_size e
 | rng lo hi=>obtain ⟨_,_,_,e⟩:=x; exact Heap.lt_size e
 | frz ob u=>obtain ⟨e,_⟩:=x; exact Heap.lt_size e
 | tbl ps=>exact Heap.lt_size (show h.get? a=some _ from x)
 | met f y=>exact Heap.lt_size (show h.get? a=some _ from x)
 | ext φ=>obtain ⟨_,⟨_,e⟩,_⟩:=x; exact Heap.lt_size e
theorem Paired.mapP {α β:Type} {F G:α->β->Prop}:∀ {l₁:List α} {l₂:List β},Paired F l₁ l₂->(∀ a b,F a b->G a b)->Paired G l₁ l₂:=by
 intro l₁ l₂ h f
 induction h with
 | nil=>exact .nil
 | cons r t ih=>exact .cons (f _ _ r) ih
theorem ObjOk.stay (x:ObjOk P w H h a o) (k:∀ b u,(b=a\/H b=some (.own a))->h.get? b=some u->h'.get? b=some u)
  (ho:∀ b,H b=some (.own a)->H' b=some (.own a)) (ht:∀ b xs,H b=some (.tup xs)->H' b=some (.tup xs)):ObjOk P w H' h' a o:=by
 induction o with
 | lst xs=>obtain ⟨z,its,n,r,e⟩:=x; exact ⟨z,its,n,r,k _ _ (.inl rfl) e⟩
 | tup xs=>obtain ⟨z,its,r,ob,e,c⟩:=x; exact ⟨z,its,r,ob,k _ _ (.inl rfl) e,c⟩
 | dK kvs=>obtain ⟨z,y,vs,r,ob,es,ep,e,c⟩:=x; exact ⟨z,y,vs,r,ob,es,ep,k _ _ (.inl rfl) e,c⟩
 | dT kvs=>
  obtain ⟨z,y,xs,r,ob,es,ep,e,c⟩:=x
  exact ⟨z,y,xs,Paired.mapP r fun p q z=>⟨z.1,ht _ _ z.2.1,z.2.2⟩,ob,es,ep,k _ _ (.inl rfl) e,c⟩
 | set S n=>obtain ⟨ob,es,ep,t,e,c⟩:=x; exact ⟨ob,es,ep,t,k _ _ (.inl rfl) e,c⟩
 | ins C dx fs=>
  obtain ⟨d,z,ne,e,mA,⟨od,es,ep,e2,c⟩,r⟩:=x
  exact ⟨ho _ d,z,ne,k _ _ (.inl rfl) e,mA,⟨od,es,ep,k _ _ (.inr d) e2,c⟩,r⟩
 | own y=>obtain ⟨ob,e⟩:=x; exact ⟨ob,k _ _ (.inl rfl) e⟩
 | xd fs=>obtain ⟨mA,⟨od,es,ep,e,c⟩,r⟩:=x; exact ⟨mA,⟨od,es,ep,k _ _ (.inl rfl) e,c⟩,r⟩
 | rng lo hi=>obtain ⟨t,u,v,e⟩:=x; exact ⟨t,u,v,k _ _ (.inl rfl) e⟩
 | frz ob u ih=>obtain ⟨e,q⟩:=x; exact ⟨k _ _ (.inl rfl) e,ih q⟩
 | tbl ps=>
  have e:h.get? a=some { cls:=.none,data:=.fields ps }:=x
  show h'.get? a=some { cls:=.none,data:=.fields ps }
  exact k a _ (.inl rfl) e
 | met f y=>
  have e:h.get? a=some (PySem.W.methodObj (.ref f) (.ref y)):=x
  show h'.get? a=some (PySem.W.methodObj (.ref f) (.ref y))
  exact k a _ (.inl rfl) e
 | ext φ=>obtain ⟨p,⟨o,e⟩,st⟩:=x; exact ⟨st _ _ p fun o q=>k _ _ (.inl rfl) q,⟨o,k _ _ (.inl rfl) e⟩,st⟩
theorem HOk.lt (x:HOk P w H h) (e:H a=some o):a<h.objs.size:=(x a o e).lt
theorem HOk.fresh (x:HOk P w H h) (e:h.objs.size<=a):H a=none:=by
 cases q:H a with
 | none=>rfl
 | some u=>exact absurd (Nat.lt_of_lt_of_le (x.lt q) e) (Nat.lt_irrefl _)
theorem HOk.kept (x:HOk P w H h) (k:∀ b u,h.get? b=some u->h'.get? b=some u):HOk P w H h':=fun a o e=>
 (x a o e).stay (fun b u _ q=>k b u q) (fun _ q=>q) fun _ _ q=>q
theorem HOk.laid (x:HOk P w H h) (k:∀ b u,h.get? b=some u->h'.get? b=some u) (hp:h.objs.size<=a) (new:ObjOk P w (upd H a o) h' a o):HOk P w (upd H a o) h':=fun b u e=>by
 have hn:=x.fresh hp
 by_cases hb:b=a
 ·subst hb; rw [upd_same] at e; cases e; exact new
 ·rw [upd_ne hb] at e
  exact (x b u e).stay (fun c v _ q=>k c v q) (fun c q=>by rw [upd_ne (ne_of_none q hn)]; exact q) fun c xs q=>by rw [upd_ne (ne_of_none q hn)]; exact q
end
def Rd (H:Hp) (a:Addr) (u:HO):Prop:=H a=some u\/∃ o,H a=some (.frz o u)
theorem Rd.ok {P:Program} {w:World} {H:Hp} {h:Heap} {a:Addr} {u:HO} (r:Rd H a u) (x:HOk P w H h):ObjOk P w H h a u:=by
 rcases r with r | ⟨o,r⟩
 ·exact x a u r
 ·obtain ⟨_,q⟩:=x a _ r
  exact q
def Mut:Option HO->Prop
 | some (.lst _)=>True
 | some (.dK _)=>True
 | some (.dT _)=>True
 | some (.set _ _)=>True
 | some (.ins _ _ _)=>True
 | some (.ext _)=>True
 | _=>False
section
variable {P:Program} {w:World} {H:Hp} {h h':Heap} {x e:Addr} {o':HO}
theorem HOk.write (ok:HOk P w H h) (mu:Mut (H x)) (he:e=x\/H e=some (.own x)) (k:∀ b u,b≠e->h.get? b=some u->h'.get? b=some u) (heo:∃ u,h'.get? e=some u)
  (new:ObjOk P w (upd H x o') h' x o'):HOk P w (upd H x o') h':=fun b u q=>by
 have nown:∀ c y,H c=some (.own y)->c≠x:=fun c y r z=>by subst z; rw [r] at mu; exact mu
 have ntup:∀ c xs,H c=some (.tup xs)->c≠x:=fun c xs r z=>by subst z; rw [r] at mu; exact mu
 by_cases hb:b=x
 ·subst hb; rw [upd_same] at q; cases q; exact new
 ·rw [upd_ne hb] at q
  by_cases hbe:b=e
  ·have q':H b=some (.own x):=by
    rcases he with z | z
    ·exact absurd (hbe.trans z) hb
    ·rw [hbe]; exact z
   rw [q] at q'; cases q'
   obtain ⟨v,hv⟩:=heo
   exact ⟨v,by rw [hbe]; exact hv⟩
  ·refine (ok b u q).stay (fun c v hc r=>k c v ?_ r) (fun c r=>by rw [upd_ne (nown c b r)]; exact r) fun c xs r=>by rw [upd_ne (ntup c xs r)]; exact r
   rcases hc with rfl | hc
   ·exact hbe
   ·rintro rfl
    rcases he with z | z
    ·exact nown c b hc z
    ·rw [hc] at z; cases z; exact hb rfl
end
structure Un (fs ex:List Addr) (H H':Hp) (h h':Heap):Prop where
 keep:∀ b o,h.get? b=some o->H b=none->b∉fs->b∉ex->h'.get? b=some o
 slot:∀ b o,h.get? b=some o->H b=none->b∈fs->b∉ex->∃ sl,h'.get? b=some { o with slots:=sl }
 free:∀ b o,h.get? b=some o->H b=none->b∉ex->H' b=none
 there:∀ b o,h.get? b=some o->b∉ex->∃ o',h'.get? b=some o'
 tups:∀ b xs,H b=some (.tup xs)->H' b=some (.tup xs)
 frzs:∀ b o u,H b=some (.frz o u)->H' b=some (.frz o u)
 tbls:∀ b ps,H b=some (.tbl ps)->∃ more,H' b=some (.tbl (ps++more))
section
variable {fs fs' ex ex':List Addr} {H H1 H2:Hp} {h h1 h2 h':Heap} {a x e:Addr} {o:HO}
theorem Un.any (u:Un fs ex H H1 h h1) {b:Addr} {ob:Obj} (q:h.get? b=some ob) (n:H b=none) (hx:b∉ex):∃ sl,h1.get? b=some { ob with slots:=sl }:=by
 by_cases hb:b∈fs
 ·exact u.slot b ob q n hb hx
 ·exact ⟨ob.slots,u.keep b ob q n hb hx⟩
theorem Un.kept (k:∀ b u,h.get? b=some u->h'.get? b=some u):Un fs ex H H h h':=
 ⟨fun b ob q _ _ _=>k b ob q,fun b ob q _ _ _=>⟨ob.slots,k b ob q⟩,fun _ _ _ n _=>n,fun b ob q _=>⟨ob,k b ob q⟩,fun _ _ q=>q,fun _ _ _ q=>q,fun _ ps q=>⟨#[],by rw [q]; simp⟩⟩
theorem Un.refl:Un fs ex H H h h:=Un.kept fun _ _ q=>q
theorem Un.laid (k:∀ b u,h.get? b=some u->h'.get? b=some u) (hp:h.objs.size<=a) (hn:H a=none):Un fs ex H (upd H a o) h h' where
 keep:=fun b u q _ _ _=>k b u q
 slot:=fun b u q _ _ _=>⟨u.slots,k b u q⟩
 free:=fun b u q n _=>by rw [upd_ne (Nat.ne_of_lt (Nat.lt_of_lt_of_le (Heap.lt_size q) hp))]; exact n
 there:=fun b u q _=>⟨u,k b u q⟩
 tups:=fun b xs q=>by rw [upd_ne (ne_of_none q hn)]; exact q
 frzs:=fun b u xs q=>by rw [upd_ne (ne_of_none q hn)]; exact q
 tbls:=fun b ps q=>⟨#[],by rw [upd_ne (ne_of_none q hn),q]; simp⟩
theorem Un.write (mu:Mut (H x)) (he:e=x\/H e=some (.own x)) (k:∀ b u,b≠e->h.get? b=some u->h'.get? b=some u) (heo:∃ u,h'.get? e=some u):Un fs ex H (upd H x o) h h':=by
 have hx:∀ b,H b=none->b≠x:=fun b n z=>by subst z; rw [n] at mu; exact mu
 have hb:∀ b,H b=none->b≠e:=fun b n z=>by
  subst z
  rcases he with r | r
  ·exact hx b n r
  ·rw [n] at r; cases r
 have hm:∀ b u,H b=some u->¬ Mut (some u)->b≠x:=fun b u q nm z=>by subst z; rw [q] at mu; exact nm mu
 refine ⟨fun b u q n _ _=>k b u (hb b n) q,fun b u q n _ _=>⟨u.slots,k b u (hb b n) q⟩,fun b u q n _=>by rw [upd_ne (hx b n)]; exact n,fun b u q _=>?_,
  fun b xs q=>by rw [upd_ne (hm b _ q fun z=>z)]; exact q,fun b u xs q=>by rw [upd_ne (hm b _ q fun z=>z)]; exact q,fun b ps q=>⟨#[],by rw [upd_ne (hm b _ q fun z=>z),q]; simp⟩⟩
 by_cases hbe:b=e
 ·subst hbe; exact heo
 ·exact ⟨u,k b u hbe q⟩
end
def trk (h:Heap) (H:Hp):List Addr:=(List.range h.objs.size).filter fun a=>(H a).isSome
def hidT (h:Heap) (H:Hp):Heap:=PySem.W.hideAll h (trk h H)
theorem hidT_size (h:Heap) (H:Hp):(hidT h H).objs.size=h.objs.size:=PySem.W.hideAll_size _ _
theorem hidT_get {h:Heap} {H:Hp} {b:Addr} {o:Obj} (e:h.get? b=some o) (n:H b=none):(hidT h H).get? b=some o:=
 PySem.W.hideAll_get _ e fun hm=>by
  have q:(H b).isSome=true:=(List.mem_filter.mp hm).2
  rw [n] at q; simp at q
theorem of_hidT {h:Heap} {H:Hp} {b:Addr} {o:Obj} (e:(hidT h H).get? b=some o):h.get? b=some o/\H b=none:=by
 have e':h.get? b=some o:=PySem.W.of_hideAll (trk h H) e
 refine ⟨e',?_⟩
 cases q:H b with
 | none=>rfl
 | some x=>
  have hm:b∈trk h H:=List.mem_filter.mpr ⟨List.mem_range.mpr (Heap.lt_size e'),by simp [q]⟩
  have z:(hidT h H).get? b=none:=PySem.W.hideAll_none (trk h H) hm
  rw [z] at e; cases e
def allNews (g h:Heap) (L:Addr):List (Addr×Obj):=(List.range h.objs.size).filterMap fun a=>if a=L\/(g.get? a).isSome=true then none else (h.get? a).map fun o=>(a,o)
def rest (g h:Heap) (L d:Addr):List (Addr×Obj):=(allNews g h L).filter fun p=>decide (p.1≠d)
end L2
namespace L2
open PySem PySem.Spec PyProof.Rows
structure Mod (K:Frag) (mg:Str->Option Value) (base:Heap):Prop where
 kin:K.In base
 glob:base.Ns mainGlobals mg
 blt:∃ mb,base.Ns builtinsNs mb/\∀ x:Str,x ≠ "__name__" -> mb x=bootBuiltins x
 nolimit:base.NoLimit
structure Cx where
 prog:Program
 w:World
 K:Frag
 mg:Str->Option Value
 base:Heap
 A:Around
 N:List Str
 s₀:Shared
 H₀:Hp
 env:Env
 outer:List Env
 stack:List Env
 ex:List Addr
 fn:Str->Bool
 calm:Bool
 pn:List (Addr×Obj)
 xe:Value->Shared->Prop
def frs (l:List Env):List Addr:=l.filterMap (·.frame)
abbrev Cx.fs (X:Cx):List Addr:=frs X.outer
def Vis (sc:Scope) (x:Str):Prop:=sc.names.lookup x=some .local\/sc.names.lookup x=some .cell\/sc.names.lookup x=some .free
def Loc (sc:Scope) (x:Str):Prop:=sc.names.lookup x=some .local\/sc.names.lookup x=some .cell
def Look (env:Env) (h:Heap) (m:Str->Option Value) (x:Str) (u:Value):Prop:=
 (env.kindOf x=some .local/\m x=some u)\/((env.kindOf x=some .cell\/env.kindOf x=some .free)/\∃ c,env.cells.lookup x=some c/\h.IsCell c (some u))
structure Cx.Ok (X:Cx):Prop where
 mod:Mod X.K X.mg X.base
 kind:X.env.scope.kind=.function
 glob:X.env.globals=mainGlobals
 blt:X.env.builtins=builtinsNs
 above:X.s₀.heap.objs.size<=X.env.locals
 inj:∀ x y c,X.env.cells.lookup x=some c->X.env.cells.lookup y=some c->x=y
 has:∀ x,(X.env.kindOf x=some .cell\/X.env.kindOf x=some .free)->∃ c,X.env.cells.lookup x=some c
 cab:∀ x c,X.fn x=true->X.env.cells.lookup x=some c->X.s₀.heap.objs.size<=c
 hd:X.calm=true->X.A.handled=none
 frames:X.A.frames=some X.stack
 stk:X.stack=X.outer\/(X.stack=X.env::X.outer/\X.env.frame=some X.env.locals)
 exf:∀ b∈X.ex,b≠X.env.locals/\∀ x c,X.env.cells.lookup x=some c->c≠b
 bs:∀ b o,X.base.get? b=some o->X.s₀.heap.get? b=some o/\X.H₀ b=none
 bsz:X.base.objs.size<=X.s₀.heap.objs.size
 noex:∀ b o,X.base.get? b=some o->b∉X.ex
 exfs:∀ b∈X.ex,b∉X.fs
 funs:X.s₀.heap.FunFrames X.base X.outer
 frf:∀ b∈X.fs,X.H₀ b=none
structure Inv (X:Cx) (pins:List (Addr×Obj)) (σ:List (Option V)) (H:Hp) (s:Shared):Prop where
 ok:X.Ok
 os:s.os=X.s₀.os
 bare:AllBare s.gens
 base:Un X.fs X.ex X.H₀ H X.s₀.heap s.heap
 loc:∃ m,s.heap.Ns X.env.locals m/\∀ (i:Nat) (x:Str) (v:V),X.N[i]?=some x->σ[i]?=some (some v)->Vis X.env.scope x->∃ u,RelV v u/\Look X.env s.heap m x u
 cell:∀ x c,X.env.cells.lookup x=some c->∃ v,s.heap.IsCell c v
 free:H X.env.locals=none
 freeC:∀ x c,X.env.cells.lookup x=some c->H c=none
 pin:∀ p∈X.pn++pins,s.heap.get? p.1=some p.2/\H p.1=none/\p.1≠X.env.locals/\p.1∉X.fs/\∀ v,p.2.data≠.cell v
 hok:HOk X.prog X.w H s.heap
 len:σ.length=X.N.length
section
variable {X:Cx} {pins:List (Addr×Obj)} {σ:List (Option V)} {H H':Hp} {s:Shared} {h':Heap}
theorem Cx.Ok.nofr (ok:X.Ok) {b:Addr} {o:Obj} (e:X.base.get? b=some o):b∉X.fs:=fun hb=>by
 have:=(ok.funs.mem hb).1
 rw [e] at this; cases this
theorem Inv.bs (I:Inv X pins σ H s):∀ b o,X.base.get? b=some o->s.heap.get? b=some o/\H b=none:=fun b o e=>
 ⟨I.base.keep b o (I.ok.bs b o e).1 (I.ok.bs b o e).2 (I.ok.nofr e) (I.ok.noex b o e),I.base.free b o (I.ok.bs b o e).1 (I.ok.bs b o e).2 (I.ok.noex b o e)⟩
theorem Inv.bk (I:Inv X pins σ H s):∀ b o,X.base.get? b=some o->s.heap.get? b=some o:=fun b o e=>(I.bs b o e).1
theorem Inv.mod (I:Inv X pins σ H s):Mod X.K X.mg X.base:=I.ok.mod
theorem Inv.kIn (I:Inv X pins σ H s):X.K.In s.heap:=I.ok.mod.kin.keeps I.bk
theorem Inv.fr (I:Inv X pins σ H s):∃ m,Fr X.base X.env.locals s.heap m:=
 let ⟨m,hn,_⟩:=I.loc
 ⟨m,hn,I.bk,Nat.le_trans I.ok.bsz I.ok.above⟩
theorem Inv.lt (I:Inv X pins σ H s):X.env.locals<s.heap.objs.size:=let ⟨_,hn,_⟩:=I.loc; hn.lt
theorem Inv.sz (I:Inv X pins σ H s):X.s₀.heap.objs.size<=s.heap.objs.size:=Nat.le_trans I.ok.above (Nat.le_of_lt I.lt)
theorem Inv.nofs (I:Inv X pins σ H s) {a:Addr} (h:s.heap.objs.size<=a):a∉X.fs:=fun hb=>by
 obtain ⟨_,o,ho,_⟩:=I.ok.funs.mem hb
 exact absurd (Nat.lt_of_lt_of_le (Heap.lt_size ho) (Nat.le_trans I.sz h)) (Nat.lt_irrefl _)
theorem Inv.cne (I:Inv X pins σ H s):∀ x c,X.env.cells.lookup x=some c->c≠X.env.locals:=fun x c e z=>by
 obtain ⟨v,o,ho,hd⟩:=I.cell x c e
 obtain ⟨m,⟨o',es,ep,ho',hd',_⟩,_⟩:=I.loc
 rw [z,ho'] at ho; cases ho; rw [hd'] at hd; cases hd
theorem Inv.funs (I:Inv X pins σ H s):s.heap.FunFrames X.base X.outer:=by
 have all:∀ (l:List Env),(∀ b∈frs l,b∈X.fs)->X.s₀.heap.FunFrames X.base l->s.heap.FunFrames X.base l:=by
  intro l
  induction l with
  | nil=>intro _ _; trivial
  | cons env r ih=>
   intro hs hl
   obtain ⟨hk,⟨L,o,hf,hn,ho,hd⟩,hr⟩:=hl
   have hL:L∈X.fs:=hs L (by unfold frs; rw [List.filterMap_cons,hf]; exact List.mem_cons_self)
   obtain ⟨sl,e⟩:=I.base.slot L o ho (I.ok.frf L hL) hL fun z=>I.ok.exfs L z hL
   exact ⟨hk,⟨L,_,hf,hn,e,hd⟩,ih (fun b hb=>hs b (by unfold frs; rw [List.filterMap_cons,hf]; exact List.mem_cons_of_mem _ hb)) hr⟩
 exact all X.outer (fun _ hb=>hb) I.ok.funs
theorem Inv.stack (I:Inv X pins σ H s):s.heap.FunFrames X.base X.stack:=by
 rcases I.ok.stk with e | ⟨e,hf⟩
 ·rw [e]; exact I.funs
 ·rw [e]
  obtain ⟨m,hn,_⟩:=I.loc
  refine .cons (by rw [I.ok.kind]; decide) hf hn ?_ I.funs
  exact Heap.get?_none_of_le (Nat.le_trans I.ok.bsz I.ok.above)
theorem Inv.stkSub (I:Inv X pins σ H s):∀ b∈frs X.stack,b∈X.env.locals::X.fs:=fun b hb=>by
 rcases I.ok.stk with e | ⟨e,hf⟩
 ·rw [e] at hb; exact List.mem_cons_of_mem _ hb
 ·rw [e] at hb
  unfold frs at hb
  rw [List.filterMap_cons,hf] at hb
  exact hb
theorem Inv.stkFree (I:Inv X pins σ H s):∀ b∈frs X.stack,H b=none:=fun b hb=>by
 rcases List.mem_cons.mp (I.stkSub b hb) with e | hb
 ·rw [e]; exact I.free
 ·obtain ⟨_,o,ho,_⟩:=I.ok.funs.mem hb
  exact I.base.free b o ho (I.ok.frf b hb) fun z=>I.ok.exfs b z hb
theorem Inv.step {g':Array GenState} {t':Nat} {d':Drawn} {ch:List Addr} (I:Inv X pins σ H s)
  (hch:∀ b∈ch,(b∈X.ex\/X.s₀.heap.objs.size<=b)/\b≠X.env.locals/\(∀ x c,X.env.cells.lookup x=some c->c≠b)/\∀ p∈X.pn++pins,p.1≠b)
  (keep:∀ b o,b≠X.env.locals->b∉X.fs->b∉ch->s.heap.get? b=some o->H b=none->h'.get? b=some o)
  (slot:∀ b o,b≠X.env.locals->b∈X.fs->b∉ch->s.heap.get? b=some o->H b=none->∃ sl,h'.get? b=some { o with slots:=sl }) (free:∀ b o,b∉ch->s.heap.get? b=some o->H b=none->H' b=none)
  (there:∀ b o,b∉ch->s.heap.get? b=some o->∃ o',h'.get? b=some o')
  (tups:∀ b xs,H b=some (.tup xs)->H' b=some (.tup xs)) (frzs:∀ b o u,H b=some (.frz o u)->H' b=some (.frz o u)) (tbls:∀ b ps,H b=some (.tbl ps)->∃ more,H' b=some (.tbl (ps++more)))
  (ns:∀ m,s.heap.Ns X.env.locals m->h'.Ns X.env.locals m) (hok:HOk X.prog X.w H' h') (hg:AllBare g') :
  Inv X pins σ H' { s with heap:=h',gens:=g',drawn:=d',toks:=t' }:=by
 have neL:∀ b o,X.s₀.heap.get? b=some o->b≠X.env.locals:=fun b o e=>Nat.ne_of_lt (Nat.lt_of_lt_of_le (Heap.lt_size e) I.ok.above)
 have neC:∀ b o,X.s₀.heap.get? b=some o->b∉X.ex->b∉ch:=fun b o e hx hb=>by
  rcases (hch b hb).1 with z | z
  ·exact hx z
  ·exact absurd (Nat.lt_of_lt_of_le (Heap.lt_size e) z) (Nat.lt_irrefl _)
 have cellK:∀ x c,X.env.cells.lookup x=some c->∀ v,s.heap.IsCell c v->h'.IsCell c v:=fun x c e v zz1=>by
  obtain ⟨o,ho,hd⟩:=zz1
  have nch:c∉ch:=fun z=>(hch c z).2.2.1 x c e rfl
  by_cases hc:c∈X.fs
  ·obtain ⟨sl,q⟩:=slot c o (I.cne x c e) hc nch ho (I.freeC x c e)
   exact ⟨_,q,hd⟩
  ·exact ⟨o,keep c o (I.cne x c e) hc nch ho (I.freeC x c e),hd⟩
 refine ⟨I.ok,I.os,hg,⟨fun b o e n hb hx=>?_,fun b o e n hb hx=>?_,fun b o e n hx=>?_,fun b o e hx=>?_,fun b xs e=>tups b xs (I.base.tups b xs e),fun b o xs e=>frzs b o xs (I.base.frzs b o xs e),fun b ps e=>?_⟩,?_,fun x c e=>?_,?_,fun x c e=>?_,fun p hp=>?_,hok,I.len⟩
 ·exact keep b o (neL b o e) hb (neC b o e hx) (I.base.keep b o e n hb hx) (I.base.free b o e n hx)
 ·obtain ⟨sl,e1⟩:=I.base.slot b o e n hb hx
  obtain ⟨sl',e2⟩:=slot b _ (neL b o e) hb (neC b o e hx) e1 (I.base.free b o e n hx)
  exact ⟨sl',e2⟩
 ·obtain ⟨o',e1⟩:=I.base.there b o e hx
  exact free b o' (neC b o e hx) e1 (I.base.free b o e n hx)
 ·obtain ⟨o',e1⟩:=I.base.there b o e hx
  exact there b o' (neC b o e hx) e1
 ·obtain ⟨m1,e1⟩:=I.base.tbls b ps e
  obtain ⟨m2,e2⟩:=tbls b _ e1
  exact ⟨m1++m2,by rw [e2,Array.append_assoc]⟩
 ·obtain ⟨m,hn,hl⟩:=I.loc
  refine ⟨m,ns m hn,fun i x v e1 e2 e3=>?_⟩
  obtain ⟨u,r,l⟩:=hl i x v e1 e2 e3
  refine ⟨u,r,?_⟩
  rcases l with l | ⟨k,c,e,z⟩
  ·exact .inl l
  ·exact .inr ⟨k,c,e,cellK x c e _ z⟩
 ·obtain ⟨v,z⟩:=I.cell x c e
  exact ⟨v,cellK x c e v z⟩
 ·obtain ⟨m,⟨o,_,_,ho,_⟩,_⟩:=I.loc
  exact free _ o (fun z=>(hch _ z).2.1 rfl) ho I.free
 ·obtain ⟨v,o,ho,hd⟩:=I.cell x c e
  exact free c o (fun z=>(hch c z).2.2.1 x c e rfl) ho (I.freeC x c e)
 ·obtain ⟨e,n,ne,nf,d⟩:=I.pin p hp
  have nch:p.1∉ch:=fun z=>(hch p.1 z).2.2.2 p hp rfl
  exact ⟨keep p.1 p.2 ne nf nch e n,free p.1 p.2 nch e n,ne,nf,d⟩
theorem Inv.un {t':Nat} (I:Inv X pins σ H s) (u:Un X.fs [] H H' s.heap h') (hok:HOk X.prog X.w H' h'):Inv X pins σ H' { s with heap:=h',toks:=t' }:=by
 obtain ⟨m,⟨o,es,ep,ho,r⟩,_⟩:=id I.loc
 obtain ⟨sl,hL⟩:=u.any ho I.free (by simp)
 exact I.step (g':=s.gens) (d':=s.drawn) (ch:=[]) (fun _ z=>nomatch z) (fun b o _ hb _ e n=>u.keep b o e n hb (by simp)) (fun b o _ hb _ e n=>u.slot b o e n hb (by simp)) (fun b o _ e n=>u.free b o e n (by simp)) (fun b o _ e=>u.there b o e (by simp)) u.tups u.frzs u.tbls (fun m' hm=>by
  obtain ⟨o',es',ep',ho',r'⟩:=hm
  rw [ho] at ho'; cases ho'
  exact ⟨_,es',ep',hL,r'⟩) hok I.bare
theorem Inv.call {g':Array GenState} {t':Nat} {d':Drawn} {ch:List Addr} (I:Inv X pins σ H s) (u:Un (frs X.stack) ch H H' s.heap h') (hok:HOk X.prog X.w H' h') (hg:AllBare g')
  (hch:∀ b∈ch,(b∈X.ex\/X.s₀.heap.objs.size<=b)/\b≠X.env.locals/\(∀ x c,X.env.cells.lookup x=some c->c≠b)/\∀ p∈X.pn++pins,p.1≠b) :
  Inv X pins σ H' { s with heap:=h',gens:=g',drawn:=d',toks:=t' }:=by
 obtain ⟨m,⟨o,es,ep,ho,r⟩,_⟩:=id I.loc
 obtain ⟨sl,hL⟩:=u.any ho I.free fun z=>(hch _ z).2.1 rfl
 exact I.step (ch:=ch) hch (fun b o hL hb hc e n=>u.keep b o e n (fun z=>(List.mem_cons.mp (I.stkSub b z)).elim hL hb) hc) (fun b o _ _ hc e n=>u.any e n hc) (fun b o hc e n=>u.free b o e n hc) (fun b o hc e=>u.there b o e hc) u.tups u.frzs u.tbls (fun m' hm=>by
  obtain ⟨o',es',ep',ho',r'⟩:=hm
  rw [ho] at ho'; cases ho'
  exact ⟨_,es',ep',hL,r'⟩) hok hg
theorem Inv.turned {t':Nat} {it:Addr} (I:Inv X pins σ H s) (k:∀ b o,b≠it->s.heap.get? b=some o->h'.get? b=some o) (hn:H it=none) (hL:it≠X.env.locals)
  (h1:it∈X.ex\/X.s₀.heap.objs.size<=it) (h2:∀ x c,X.env.cells.lookup x=some c->c≠it) (h3:∀ p∈X.pn++pins,p.1≠it):Inv X pins σ H { s with heap:=h',toks:=t' }:=by
 have nit:∀ b u,H b=some u->b≠it:=fun b u e z=>by rw [z,hn] at e; cases e
 refine I.step (g':=s.gens) (d':=s.drawn) (ch:=[it]) (fun b hb=>?_) (fun b o _ _ hc e _=>k b o (fun z=>hc (by simp [z])) e) (fun b o _ _ hc e _=>⟨o.slots,k b o (fun z=>hc (by simp [z])) e⟩) (fun _ _ _ _ n=>n)
  (fun b o hc e=>⟨o,k b o (fun z=>hc (by simp [z])) e⟩) (fun _ _ e=>e) (fun _ _ _ e=>e) (fun b ps e=>⟨#[],by rw [e]; simp⟩) (fun m hm=>?_) (fun b u e=>?_) I.bare
 ·have e:b=it:=by simpa using hb
  subst e
  exact ⟨h1,hL,h2,h3⟩
 ·obtain ⟨o,es,ep,ho,r⟩:=hm
  exact ⟨o,es,ep,k _ o (Ne.symm hL) ho,r⟩
 ·refine (I.hok b u e).stay (fun c v hc q=>k c v ?_ q) (fun _ q=>q) fun _ _ q=>q
  rcases hc with z | z
  ·rw [z]; exact nit b u e
  ·exact nit c _ z
theorem Inv.tok (I:Inv X pins σ H s) (t:Nat):Inv X pins σ H { s with toks:=t }:=I.un (h':=s.heap) (t':=t) Un.refl I.hok
theorem Inv.kept {t':Nat} (I:Inv X pins σ H s) (k:∀ b u,s.heap.get? b=some u->h'.get? b=some u):Inv X pins σ H { s with heap:=h',toks:=t' }:=I.un (Un.kept k) (I.hok.kept k)
theorem Inv.laid {a:Addr} {o:HO} {t':Nat} (I:Inv X pins σ H s) (k:∀ b u,s.heap.get? b=some u->h'.get? b=some u) (hp:s.heap.objs.size<=a) (new:ObjOk X.prog X.w (upd H a o) h' a o) :
  Inv X pins σ (upd H a o) { s with heap:=h',toks:=t' }:=I.un (Un.laid k hp (I.hok.fresh hp)) (I.hok.laid k hp new)
theorem Inv.write {x e:Addr} {o:HO} {t':Nat} (I:Inv X pins σ H s) (mu:Mut (H x)) (he:e=x\/H e=some (.own x)) (k:∀ b u,b≠e->s.heap.get? b=some u->h'.get? b=some u) (heo:∃ u,h'.get? e=some u)
  (new:ObjOk X.prog X.w (upd H x o) h' x o):Inv X pins σ (upd H x o) { s with heap:=h',toks:=t' }:=I.un (Un.write mu he k heo) (I.hok.write mu he k heo new)
theorem Inv.weak {σ':List (Option V)} (I:Inv X pins σ H s) (hl:σ'.length=σ.length) (w:∀ (i:Nat) v,σ'[i]?=some (some v)->σ[i]?=some (some v)):Inv X pins σ' H s:=
 ⟨I.ok,I.os,I.bare,I.base,let ⟨m,hn,hl'⟩:=I.loc; ⟨m,hn,fun i x v e1 e2 e3=>hl' i x v e1 (w i v e2) e3⟩,I.cell,I.free,I.freeC,I.pin,I.hok,hl.trans I.len⟩
theorem Inv.pins_of {pins':List (Addr×Obj)} (I:Inv X pins σ H s) (h:∀ p∈pins',s.heap.get? p.1=some p.2/\H p.1=none/\p.1≠X.env.locals/\p.1∉X.fs/\∀ v,p.2.data≠.cell v):Inv X pins' σ H s:=
 ⟨I.ok,I.os,I.bare,I.base,I.loc,I.cell,I.free,I.freeC,fun p hp=>(List.mem_append.mp hp).elim (fun z=>I.pin p (List.mem_append_left _ z)) (h p),I.hok,I.len⟩
theorem nodup_ix {N:List Str} (hN:N.Nodup) {i j:Nat} {x:Str} (a:N[i]?=some x) (b:N[j]?=some x):i=j:=by
 obtain ⟨h1,e1⟩:=List.getElem?_eq_some_iff.mp a
 obtain ⟨h2,e2⟩:=List.getElem?_eq_some_iff.mp b
 exact (List.getElem_inj hN).mp (e1.trans e2.symm)
theorem store_ok2 {M:Model} {A:Around} {E:Value->Shared->Prop} {i:Nat} {x:Str} {v:V} {u:Value} {Q:Unit->Shared->Prop} (I:Inv X pins σ H s) (hN:X.N.Nodup) (hi:X.N[i]?=some x) (hx:Loc X.env.scope x) (r:RelV v u)
  (h:∀ s',Inv X pins (σ.set i (some v)) H s'->(∃ a,Heap.SameBut a s.heap s'.heap/\(a=X.env.locals\/X.env.cells.lookup x=some a))->Q () s') (hf:X.fn x=true\/X.env.scope.names.lookup x=some .local:=by first | exact .inl rfl | exact .inr rfl | assumption):wpAny M A (storeName X.env x u) Q E s:=by
 obtain ⟨m,hn,hl⟩:=id I.loc
 have hcls:(X.env.scope.kind == .class||(X.env.scope.kind == .module&&X.env.locals != X.env.globals))=false:=by rw [I.ok.kind]; rfl
 have hiσ:i<σ.length:=by rw [I.len]; exact (List.getElem?_eq_some_iff.mp hi).1
 have cne:=I.cne
 have tracked:∀ {a:Addr} {h':Heap},(∃ o,s.heap.get? a=some o/\H a=none)->Heap.SameBut a s.heap h'->HOk X.prog X.w H h':=fun {a h'} ha hs b ob e=>by
  obtain ⟨_,_,hfree⟩:=ha
  refine (I.hok b ob e).stay (fun c w' hc q=>(hs.2 c ?_).trans q) (fun _ q=>q) fun _ _ q=>q
  rintro rfl
  rcases hc with rfl | hc
  ·rw [hfree] at e; cases e
  ·rw [hfree] at hc; cases hc
 rcases hx with hk | hk
 ·refine wpAny_storeName_local hk hn (fun h' hn' hs=>?_) hcls
  obtain ⟨oL,_,_,hoL,_⟩:=id hn
  refine h _ ⟨I.ok,I.os,I.bare,⟨fun b o e n hb hx=>?_,fun b o e n hb hx=>?_,I.base.free,fun b o e hx=>?_,I.base.tups,I.base.frzs,I.base.tbls⟩,⟨_,hn',fun j y v' e1 e2 e3=>?_⟩,fun y c e=>?_,I.free,I.freeC,fun p hp=>?_,tracked ⟨oL,hoL,I.free⟩ hs,by simpa using I.len⟩ ⟨_,hs,.inl rfl⟩
  ·exact (hs.2 b (Nat.ne_of_lt (Nat.lt_of_lt_of_le (Heap.lt_size e) I.ok.above))).trans (I.base.keep b o e n hb hx)
  ·obtain ⟨sl,e1⟩:=I.base.slot b o e n hb hx
   exact ⟨sl,(hs.2 b (Nat.ne_of_lt (Nat.lt_of_lt_of_le (Heap.lt_size e) I.ok.above))).trans e1⟩
  ·obtain ⟨o',e1⟩:=I.base.there b o e hx
   exact ⟨o',(hs.2 b (Nat.ne_of_lt (Nat.lt_of_lt_of_le (Heap.lt_size e) I.ok.above))).trans e1⟩
  ·by_cases hj:j=i
   ·subst hj
    rw [hi] at e1; cases e1
    rw [List.getElem?_set_self hiσ] at e2
    cases e2
    exact ⟨u,r,.inl ⟨hk,by simp⟩⟩
   ·rw [List.getElem?_set_ne (Ne.symm hj)] at e2
    obtain ⟨u',r',q⟩:=hl j y v' e1 e2 e3
    refine ⟨u',r',?_⟩
    rcases q with ⟨k,e⟩ | ⟨k,c,e,z⟩
    ·refine .inl ⟨k,?_⟩
     have:y≠x:=fun e=>hj (nodup_ix hN e1 (e ▸ hi))
     simp [this,e]
    ·exact .inr ⟨k,c,e,z.sameBut hs (cne y c e)⟩
  ·obtain ⟨w',z⟩:=I.cell y c e
   exact ⟨w',z.sameBut hs (cne y c e)⟩
  ·obtain ⟨e,n,ne,nf,d⟩:=I.pin p hp
   exact ⟨(hs.2 p.1 ne).trans e,n,ne,nf,d⟩
 ·have hfn:X.fn x=true:=by
   rcases hf with z | z
   ·exact z
   ·rw [z] at hk; cases hk
  obtain ⟨c,hc⟩:=I.ok.has x (.inl hk)
  obtain ⟨w',z⟩:=I.cell x c hc
  refine wpAny_storeName_cell I.ok.kind hk hc z (fun h' hc' hs=>?_)
  obtain ⟨oc,hoc,hocd⟩:=id z
  refine h { s with heap:=h' } ⟨I.ok,I.os,I.bare,⟨fun b o e n hb hx=>?_,fun b o e n hb hx=>?_,I.base.free,fun b o e hx=>?_,I.base.tups,I.base.frzs,I.base.tbls⟩,⟨m,hn.sameBut hs (Ne.symm (cne x c hc)),fun j y v' e1 e2 e3=>?_⟩,fun y c' e=>?_,I.free,I.freeC,fun p hp=>?_,tracked ⟨oc,hoc,I.freeC x c hc⟩ hs,by simpa using I.len⟩ ⟨c,hs,.inr hc⟩
  ·exact (hs.2 b (Nat.ne_of_lt (Nat.lt_of_lt_of_le (Heap.lt_size e) (I.ok.cab x c hfn hc)))).trans (I.base.keep b o e n hb hx)
  ·obtain ⟨sl,e1⟩:=I.base.slot b o e n hb hx
   exact ⟨sl,(hs.2 b (Nat.ne_of_lt (Nat.lt_of_lt_of_le (Heap.lt_size e) (I.ok.cab x c hfn hc)))).trans e1⟩
  ·obtain ⟨o',e1⟩:=I.base.there b o e hx
   exact ⟨o',(hs.2 b (Nat.ne_of_lt (Nat.lt_of_lt_of_le (Heap.lt_size e) (I.ok.cab x c hfn hc)))).trans e1⟩
  ·by_cases hj:j=i
   ·subst hj
    rw [hi] at e1; cases e1
    rw [List.getElem?_set_self hiσ] at e2
    cases e2
    exact ⟨u,r,.inr ⟨.inl hk,c,hc,hc'⟩⟩
   ·rw [List.getElem?_set_ne (Ne.symm hj)] at e2
    obtain ⟨u',r',q⟩:=hl j y v' e1 e2 e3
    refine ⟨u',r',?_⟩
    rcases q with q | ⟨k,c',e,z'⟩
    ·exact .inl q
    ·refine .inr ⟨k,c',e,z'.sameBut hs ?_⟩
     rintro rfl
     exact hj (nodup_ix hN e1 (I.ok.inj _ _ _ e hc ▸ hi))
  ·by_cases hcc:c'=c
   ·subst hcc; exact ⟨_,hc'⟩
   ·obtain ⟨w2,z2⟩:=I.cell y c' e
    exact ⟨w2,z2.sameBut hs hcc⟩
  ·obtain ⟨e,n,ne,nf,d⟩:=I.pin p hp
   refine ⟨(hs.2 p.1 ?_).trans e,n,ne,nf,d⟩
   intro q
   rw [q,hoc] at e
   have q':oc=p.2:=Option.some.inj e
   exact d w' (by rw [<- q']; exact hocd)
theorem store_ok {M:Model} {A:Around} {E:Value->Shared->Prop} {i:Nat} {x:Str} {v:V} {u:Value} {Q:Unit->Shared->Prop} (I:Inv X pins σ H s) (hN:X.N.Nodup) (hi:X.N[i]?=some x) (hx:Loc X.env.scope x) (r:RelV v u)
  (h:∀ s',Inv X pins (σ.set i (some v)) H s'->Q () s') (hf:X.fn x=true\/X.env.scope.names.lookup x=some .local:=by first | exact .inl rfl | exact .inr rfl | assumption):wpAny M A (storeName X.env x u) Q E s:=
 store_ok2 I hN hi hx r (fun s' I' _=>h s' I') hf
theorem Inv.call' {s':Shared} {ch:List Addr} (I:Inv X pins σ H s) (ho:s'.os=s.os) (u:Un (frs X.stack) ch H H' s.heap s'.heap) (hok:HOk X.prog X.w H' s'.heap) (hg:AllBare s'.gens)
  (hch:∀ b∈ch,(b∈X.ex\/X.s₀.heap.objs.size<=b)/\b≠X.env.locals/\(∀ x c,X.env.cells.lookup x=some c->c≠b)/\∀ p∈X.pn++pins,p.1≠b):Inv X pins σ H' s':=by
 obtain ⟨h',g',d',t',o'⟩:=s'
 have e:o'=s.os:=ho
 subst e
 exact I.call (g':=g') (t':=t') (d':=d') u hok hg hch
end
abbrev XK:=Value->Option Addr->Hp->Prop
abbrev St:=List (Option V)
abbrev VK:=V->Hp->Prop
abbrev TE:=St->Hp->VK->Prop
abbrev TT:=St->Hp->(Bool->Hp->Prop)->Prop
abbrev TA:=St->Hp->(List V->Hp->Prop)->Prop
structure Ends where
 nx:St->Hp->Prop
 rt:VK
 bk:St->Hp->Prop:=fun _ _=>False
 ct:St->Hp->Prop:=fun _ _=>False
abbrev TS:=Ends->St->Hp->Prop
def EP (X:Cx) (pins:List (Addr×Obj)) (σ:St) (Q:VK) (u:Value) (s':Shared):Prop:=∃ v H',Inv X pins σ H' s'/\RelV v u/\Q v H'
def TP (X:Cx) (pins:List (Addr×Obj)) (σ:St) (Q:Bool->Hp->Prop) (b:Bool) (s':Shared):Prop:=∃ H',Inv X pins σ H' s'/\Q b H'
def AP (X:Cx) (pins:List (Addr×Obj)) (σ:St) (Q:List V->Hp->Prop) (us:List Value) (s':Shared):Prop:=∃ vs H',Inv X pins σ H' s'/\Vals vs us/\Q vs H'
def SP (X:Cx) (pins:List (Addr×Obj)) (D:Ends) (f:Flow) (s':Shared):Prop:=
 match f with
 | .next=>∃ σ' H',Inv X pins σ' H' s'/\D.nx σ' H'
 | .brk=>∃ σ' H',Inv X pins σ' H' s'/\D.bk σ' H'
 | .cont=>∃ σ' H',Inv X pins σ' H' s'/\D.ct σ' H'
 | .ret u=>∃ v σ' H',Inv X pins σ' H' s'/\RelV v u/\D.rt v H'
def PE (X:Cx) (e:Expr) (t:TE):Prop:=
 ∀ (pins:List (Addr×Obj)) (s:Shared) (σ:St) (H:Hp) (Q:VK),Inv X pins σ H s->t σ H Q->wpAny (model X.prog X.w) X.A (eval e X.env) (EP X pins σ Q) X.xe s
def PT (X:Cx) (e:Expr) (t:TT):Prop:=
 ∀ (pins:List (Addr×Obj)) (s:Shared) (σ:St) (H:Hp) (Q:Bool->Hp->Prop),Inv X pins σ H s->t σ H Q->wpAny (model X.prog X.w) X.A (isTrue e X.env (eval e X.env)) (TP X pins σ Q) X.xe s
def PW (X:Cx) (e:Expr) (t:TT):Prop:=
 ∀ (whole:Sem Value) (pins:List (Addr×Obj)) (s:Shared) (σ:St) (H:Hp) (Q:Bool->Hp->Prop),Inv X pins σ H s->t σ H Q->wpAny (model X.prog X.w) X.A (isTrue e X.env whole) (TP X pins σ Q) X.xe s
theorem PW.pt {X:Cx} {e:Expr} {t:TT} (h:PW X e t):PT X e t:=h _
def PA (X:Cx) (es:List Expr) (t:TA):Prop:=
 ∀ (pos:Pos) (pins:List (Addr×Obj)) (s:Shared) (σ:St) (H:Hp) (Q:List V->Hp->Prop),Inv X pins σ H s->t σ H Q->wpAny (model X.prog X.w) X.A (spliced (backTo pos (starEach es X.env))) (AP X pins σ Q) X.xe s
def PS (X:Cx) (st:Stmt) (t:TS):Prop:=
 ∀ (pins:List (Addr×Obj)) (s:Shared) (σ:St) (H:Hp) (D:Ends),Inv X pins σ H s->t D σ H->wpAny (model X.prog X.w) X.A (exec st X.env) (SP X pins D) X.xe s
def PSs (X:Cx) (st:List Stmt) (t:TS):Prop:=
 ∀ (pins:List (Addr×Obj)) (s:Shared) (σ:St) (H:Hp) (D:Ends),Inv X pins σ H s->t D σ H->wpAny (model X.prog X.w) X.A (execs st X.env) (SP X pins D) X.xe s
theorem thn {α:Type} {t:Sem α} {Q Q':α->Shared->Prop} {M:Model} {A:Around} {E:Value->Shared->Prop} {s:Shared} (h:wpAny M A t Q E s) (hQ:∀ a s,Q a s->Q' a s):wpAny M A t Q' E s:=wpAny_mono h hQ fun _ _ x=>x
end L2
namespace L2
open PySem PySem.Spec PyProof.Rows
section
variable {X:Cx}
def tVar (i:Nat):TE:=fun σ H Q=>∃ v,σ[i]?=some (some v)/\Q v H
def tC (v:V):TE:=fun _ H Q=>Q v H
theorem pe_var {i:Nat} {x:Str} {pos:Pos} (hN:X.N[i]?=some x) (hv:Vis X.env.scope x) (hd:(x == ("__debug__" : Str))=false:=by decide) (hcd:(x == ("__classdict__" : Str))=false:=by decide):PE X (.Name x pos) (tVar i):=by
 intro pins s σ H Q I h
 obtain ⟨v,e,h⟩:=h
 obtain ⟨m,hn,hl⟩:=I.loc
 obtain ⟨u,r,l⟩:=hl i x v hN e hv
 have fin:EP X pins σ Q u s:=⟨v,H,I,r,h⟩
 rcases l with ⟨hk,hm⟩ | ⟨hk,c,hc,hcell⟩
 ·exact wpAny_Name (wpAny_loadName_local I.ok.kind hk hn hm fin) hd
 ·rcases hk with hk | hk
  ·exact wpAny_Name (wpAny_loadName_cell I.ok.kind hk hc hcell fin) hd
  ·exact wpAny_Name (wpAny_loadName_free I.ok.kind hk hc hcell fin hcd) hd
theorem pe_int {i j pos}:PE X (.Constant (.int i) j pos) (tC (.int i)):=fun _ _ _ H _ I h=>wpAny_Constant_int ⟨.int i,H,I.tok _,⟨_,rfl⟩,h⟩
theorem pe_bl {b j pos}:PE X (.Constant (.bool b) j pos) (tC (.bl b)):=fun _ _ _ H _ I h=>Constant_bool ⟨.bl b,H,I,rfl,h⟩
theorem pe_str {x j pos}:PE X (.Constant (.str x) j pos) (tC (.str x)):=fun _ _ _ H _ I h=>Calls.Constant_str ⟨.str x,H,I.tok _,⟨_,rfl⟩,h⟩
def Gl (X:Cx) (x:Str):Prop:=X.env.kindOf x=some .globalImplicit
theorem ld_glob {E:Value->Shared->Prop} {pins:List (Addr×Obj)} {s:Shared} {σ:St} {H:Hp} {x:Str} {u:Value} {pos:Pos} {Q:Value->Shared->Prop} (I:Inv X pins σ H s) (hg:Gl X x) (hm:X.mg x=some u) (h:Q u s)
  (hd:(x == ("__debug__" : Str))=false:=by decide):wpAny (model X.prog X.w) X.A (eval (.Name x pos) X.env) Q E s:=
 Calls.Name_function_global I.ok.kind hg (Calls.loadGlobal_global (by rw [I.ok.glob]; exact I.mod.glob.keeps I.bk) hm h) hd
theorem ld_blt {E:Value->Shared->Prop} {pins:List (Addr×Obj)} {s:Shared} {σ:St} {H:Hp} {x:Str} {u:Value} {pos:Pos} {Q:Value->Shared->Prop} (I:Inv X pins σ H s) (hg:Gl X x) (hm:X.mg x=none) (hv:bootBuiltins x=some u) (h:Q u s)
  (hn:x ≠ "__name__" := by decide) (hd:(x == ("__debug__" : Str))=false:=by decide):wpAny (model X.prog X.w) X.A (eval (.Name x pos) X.env) Q E s:=by
 obtain ⟨mb,h1,h2⟩:=I.mod.blt
 exact Calls.Name_function_global I.ok.kind hg (Calls.loadGlobal_builtin (by rw [I.ok.glob]; exact I.mod.glob.keeps I.bk) hm (by rw [I.ok.blt]; exact h1.keeps I.bk) ((h2 x hn).trans hv) h) hd
theorem pe_glob {x:Str} {v:V} {u:Value} {pos:Pos} (hg:Gl X x) (hm:X.mg x=some u) (r:RelV v u) (hd:(x == ("__debug__" : Str))=false:=by decide):PE X (.Name x pos) (tC v):=
 fun _ _ _ H _ I h=>ld_glob I hg hm ⟨v,H,I,r,h⟩ hd
theorem pe_bltn {x:Str} {v:V} {u:Value} {pos:Pos} (hg:Gl X x) (hm:X.mg x=none) (hv:bootBuiltins x=some u) (r:RelV v u) (hn:x ≠ "__name__" := by decide) (hd:(x == ("__debug__" : Str))=false:=by decide):PE X (.Name x pos) (tC v):=
 fun _ _ _ H _ I h=>ld_blt I hg hm hv ⟨v,H,I,r,h⟩ hn hd
variable {a b:Expr} {ta tb:TE} {pos:Pos}
def tB (t:TE):TT:=fun σ H Q=>t σ H fun x H1=>∃ c,x=.bl c/\Q c H1
theorem pt_val {e:Expr} {t:TE} (h:PE X e t) (he:∀ whole,isTrue e X.env whole=(do let v <- whole; standAt e.pos; holding [v] (truthy v)):=by intro _; rfl):PT X e (tB t):=by
 intro pins s σ H Q I hw
 refine isTrue_plain (thn (h pins s σ H _ I hw) fun v s1 zz2=>?_) (he _)
 obtain ⟨x,H1,I1,r1,q1⟩:=zz2
 obtain ⟨d,rfl,q⟩:=q1
 cases r1
 exact wpAny_truthy_bool ⟨H1,I1,q⟩
variable {tA tB':TT} {rest:List Expr}
def tOr (t u:TT):TT:=fun σ H Q=>t σ H fun c H1=>if c=true then Q true H1 else u σ H1 Q
def tNot (t:TT):TT:=fun σ H Q=>t σ H fun c H1=>Q (!c) H1
theorem pw_or1 (ha:PT X a tA):PW X (.BoolOp .Or [a] pos) tA:=by
 intro wh pins s σ H Q I h
 refine isTrue_or (thn (ha pins s σ H Q I h) fun c s1 e=>?_)
 cases c with
 | false=>exact isTrue_or_nil e
 | true=>exact e
theorem pw_or (ha:PT X a tA) (hb:PW X (.BoolOp .Or (b::rest) pos) tB'):PW X (.BoolOp .Or (a::b::rest) pos) (tOr tA tB'):=by
 intro wh pins s σ H Q I h
 refine isTrue_or (thn (ha pins s σ H _ I h) fun c s1 zz3=>?_)
 obtain ⟨H1,I1,q1⟩:=zz3
 cases c with
 | true=>exact ⟨H1,I1,q1⟩
 | false=>exact hb wh pins s1 σ H1 Q I1 q1
theorem pt_not (ha:PT X a tA):PT X (.UnaryOp .Not a pos) (tNot tA):=by
 intro pins s σ H Q I h
 exact isTrue_not (ha pins s σ H (fun c H1=>Q (!c) H1) I h)
def tAndV (ta tb:TE):TE:=fun σ H Q=>ta σ H fun x H1=>∃ c,x=.bl c/\if c=true then tb σ H1 Q else Q (.bl false) H1
theorem pe_one {op} {t:TE} (h:PE X a t):PE X (.BoolOp op [a] pos) t:=fun pins s σ H Q I hw=>BoolOp_one (h pins s σ H Q I hw)
theorem pe_and (ha:PE X a ta) (hb:PE X (.BoolOp .And (b::rest) pos) tb):PE X (.BoolOp .And (a::b::rest) pos) (tAndV ta tb):=by
 intro pins s σ H Q I h
 refine BoolOp_and (thn (ha pins s σ H _ I h) fun v s1 zz4=>?_)
 obtain ⟨x,H1,I1,r1,q1⟩:=zz4
 obtain ⟨c,rfl,q1⟩:=q1
 cases r1
 refine wpAny_truthy_bool ?_
 cases c with
 | true=>exact hb pins s1 σ H1 Q I1 q1
 | false=>exact ⟨.bl false,H1,I1,rfl,q1⟩
end
end L2
namespace L2
open PySem PySem.Spec PyProof.Rows
def SqL (K:Frag) (H:Hp) (a:Addr) (xs:List V):Prop:=
 Rd H a (.lst xs) \/
  ∃ (o:Obj) (its:Array Value) (n:Nat),K.lookup a=some o/\o.cls=.type "list" /\ o.dict=none/\o.data=.seq its n/\its.size<=sizeLine/\Vals xs its.toList
def SqT (K:Frag) (H:Hp) (a:Addr) (xs:List V):Prop:=
 Rd H a (.tup xs) \/
  ∃ (o:Obj) (its:Array Value) (n:Nat),K.lookup a=some o/\o.cls=.type "tuple" /\ o.data=.seq its n/\its.size<=sizeLine/\Vals xs its.toList
def absV:Value->Option V
 | .none=>some .non
 | .bool b=>some (.bl b)
 | .int i _=>some (.int i)
 | .str x _=>some (.str x)
 | .bytes b _=>some (.byt b)
 | .float b _=>some (.flt b)
 | .ref a=>some (.ref a)
 | .type n=>some (.ty n)
 | _=>none
theorem RelV.abs {x:V} {u:Value} (r:RelV x u):absV u=some x:=by
 cases x with
 | non=>cases r; rfl
 | bl _=>cases r; rfl
 | int _=>obtain ⟨t,rfl⟩:=r; rfl
 | str _=>obtain ⟨t,rfl⟩:=r; rfl
 | byt _=>obtain ⟨t,rfl⟩:=r; rfl
 | flt _=>obtain ⟨t,rfl⟩:=r; rfl
 | ref _=>cases r; rfl
 | ty _=>cases r; rfl
theorem RelV.inj {x y:V} {u:Value} (r:RelV x u) (q:RelV y u):x=y:=Option.some.inj (r.abs.symm.trans q.abs)
theorem Vals.inj:∀ {xs ys:List V} {us:List Value},Vals xs us->Vals ys us->xs=ys:=by
 intro xs ys us a
 induction a generalizing ys with
 | nil=>intro b; cases b; rfl
 | cons r t ih=>
  intro b
  cases b with
  | cons r' t'=>rw [r.inj r',ih t']
section
variable {X:Cx} {pins:List (Addr×Obj)} {σ:St} {H:Hp} {s:Shared} {a:Addr} {xs ys:List V}
theorem SqL.of {K:Frag} (h:H a=some (.lst xs)):SqL K H a xs:=.inl (.inl h)
theorem SqT.of {K:Frag} (h:H a=some (.tup xs)):SqT K H a xs:=.inl (.inl h)
theorem Inv.list (I:Inv X pins σ H s) (h:SqL X.K H a xs):∃ its:List Value,Vals xs its/\PlainL s.heap a its.toArray/\xs.length<=sizeLine:=by
 rcases h with h | ⟨o,its,n,hk,hc,hd,hs,hz,r⟩
 ·obtain ⟨z,its,n,r,e⟩:=h.ok I.hok
  exact ⟨its,r,⟨_,n,e,rfl,rfl,rfl⟩,z⟩
 ·refine ⟨its.toList,r,⟨o,n,I.kIn a o hk,hc,hd,by simpa using hs⟩,?_⟩
  have e:=r.length
  simp only [Array.length_toList] at e
  omega
theorem Inv.tuple (I:Inv X pins σ H s) (h:SqT X.K H a xs):∃ its:List Value,Vals xs its/\IsTup s.heap a its.toArray/\xs.length<=sizeLine:=by
 rcases h with h | ⟨o,its,n,hk,hc,hs,hz,r⟩
 ·obtain ⟨z,its,r,p⟩:=h.ok I.hok
  exact ⟨its,r,p,z⟩
 ·refine ⟨its.toList,r,⟨o,I.kIn a o hk,hc,n,by simpa using hs⟩,?_⟩
  have e:=r.length
  simp only [Array.length_toList] at e
  omega
theorem Inv.list_inj (I:Inv X pins σ H s) (h:SqL X.K H a xs) (h':SqL X.K H a ys):xs=ys:=by
 obtain ⟨its,r,⟨o,n,e,_,_,d⟩,_⟩:=I.list h
 obtain ⟨its',r',⟨o',n',e',_,_,d'⟩,_⟩:=I.list h'
 rw [e] at e'; cases e'
 rw [d] at d'
 injection d' with d1 _
 have:its=its':=by simpa using congrArg Array.toList d1
 subst this
 exact r.inj r'
theorem Inv.tuple_inj (I:Inv X pins σ H s) (h:SqT X.K H a xs) (h':SqT X.K H a ys):xs=ys:=by
 obtain ⟨its,r,⟨o,e,_,n,d⟩,_⟩:=I.tuple h
 obtain ⟨its',r',⟨o',e',_,n',d'⟩,_⟩:=I.tuple h'
 rw [e] at e'; cases e'
 rw [d] at d'
 injection d' with d1 _
 have:its=its':=by simpa using congrArg Array.toList d1
 subst this
 exact r.inj r'
end
abbrev Cx.wish (X:Cx) (E:Value->Shared->Prop):Cx:={ X with xe:=E }
abbrev Cx.nox (X:Cx):Cx:=X.wish fun _ _=>False
theorem Cx.Ok.wish {X:Cx} (ok:X.Ok) (E:Value->Shared->Prop):(X.wish E).Ok:=
 ⟨ok.mod,ok.kind,ok.glob,ok.blt,ok.above,ok.inj,ok.has,ok.cab,ok.hd,ok.frames,ok.stk,ok.exf,ok.bs,ok.bsz,ok.noex,ok.exfs,ok.funs,ok.frf⟩
theorem Cx.Ok.unwish {X:Cx} {E:Value->Shared->Prop} (ok:(X.wish E).Ok):X.Ok:=
 ⟨ok.mod,ok.kind,ok.glob,ok.blt,ok.above,ok.inj,ok.has,ok.cab,ok.hd,ok.frames,ok.stk,ok.exf,ok.bs,ok.bsz,ok.noex,ok.exfs,ok.funs,ok.frf⟩
section
variable {X:Cx} {pins:List (Addr×Obj)} {σ:St} {H:Hp} {s:Shared} {E:Value->Shared->Prop}
theorem Inv.wish (I:Inv X pins σ H s) (E:Value->Shared->Prop):Inv (X.wish E) pins σ H s:=⟨I.ok.wish E,I.os,I.bare,I.base,I.loc,I.cell,I.free,I.freeC,I.pin,I.hok,I.len⟩
theorem Inv.unwish (I:Inv (X.wish E) pins σ H s):Inv X pins σ H s:=⟨I.ok.unwish,I.os,I.bare,I.base,I.loc,I.cell,I.free,I.freeC,I.pin,I.hok,I.len⟩
theorem SP.unwish {D:Ends} {f:Flow} {s':Shared} (h:SP (X.wish E) pins D f s'):SP X pins D f s':=by
 cases f with
 | next=>obtain ⟨σ',H',I,q⟩:=h; exact ⟨σ',H',I.unwish,q⟩
 | brk=>obtain ⟨σ',H',I,q⟩:=h; exact ⟨σ',H',I.unwish,q⟩
 | cont=>obtain ⟨σ',H',I,q⟩:=h; exact ⟨σ',H',I.unwish,q⟩
 | ret u=>obtain ⟨v,σ',H',I,r,q⟩:=h; exact ⟨v,σ',H',I.unwish,r,q⟩
theorem PSs.nox {st:List Stmt} {t:TS} (h:PSs X.nox st t):PSs X st t:=fun pins s σ H D I hw=>
 wpAny_mono (h pins s σ H D (I.wish _) hw) (fun _ _ q=>q.unwish) fun _ _ z=>False.elim z
end
section
variable {X:Cx} {st:Stmt} {rest:List Stmt} {t u:TS} {e:Expr} {te:TE} {pos:Pos}
def tNext:TS:=fun D σ H=>D.nx σ H
def tSeq (t u:TS):TS:=fun D σ H=>t { D with nx:=u D } σ H
theorem pss_nil:PSs X [] tNext:=fun _ _ σ H _ I h=>wpAny_execs_nil ⟨σ,H,I,h⟩
theorem pss_cons (h1:PS X st t) (h2:PSs X rest u):PSs X (st::rest) (tSeq t u):=by
 intro pins s σ H D I h
 refine wpAny_execs_cons (thn (h1 pins s σ H { D with nx:=u D } I h) fun f s1 q=>?_)
 cases f with
 | next=>
  obtain ⟨σ',H',I',q⟩:=q
  exact h2 pins s1 σ' H' D I' q
 | ret v=>exact q
 | brk=>exact q
 | cont=>exact q
theorem pss_one (h1:PS X st t):PSs X [st] t:=by
 intro pins s σ H D I h
 refine wpAny_execs_cons (thn (h1 pins s σ H D I h) fun f s1 q=>?_)
 cases f with
 | next=>exact wpAny_execs_nil q
 | ret v=>exact q
 | brk=>exact q
 | cont=>exact q
theorem Inv.quiet {pins:List (Addr×Obj)} {σ:St} {H:Hp} {s:Shared} (I:Inv X pins σ H s):interactive X.env=false:=by simp [interactive,I.ok.kind]
def tDrop (te:TE):TS:=fun D σ H=>te σ H fun _ H1=>D.nx σ H1
theorem ps_expr (he:PE X e te) (hs:swapsWith e none pos.line X.env=pure false:=by rfl):PS X (.Expr e pos) (tDrop te):=by
 intro pins s σ H D I h
 exact wpAny_Expr_any (thn (he pins s σ H _ I h) fun v s1 zz5=>by obtain ⟨x,H1,I1,r1,q1⟩:=zz5; exact ⟨σ,H1,I1,q1⟩) I.quiet hs
def tRet (te:TE):TS:=fun D σ H=>te σ H D.rt
theorem ps_ret (he:PE X e te):PS X (.Return (some e) pos) (tRet te):=by
 intro pins s σ H D I h
 exact wpAny_Return_some (thn (he pins s σ H _ I h) fun v s1 zz6=>by obtain ⟨x,H1,I1,r1,q1⟩:=zz6; exact ⟨x,σ,H1,I1,r1,q1⟩)
def tIfS (c:TT) (t u:TS):TS:=fun D σ H=>c σ H fun b H1=>if b=true then t D σ H1 else u D σ H1
theorem ps_if {c:Expr} {a b:List Stmt} {tc:TT} (hc:PT X c tc) (ha:PSs X a t) (hb:PSs X b u):PS X (.If c a b pos) (tIfS tc t u):=by
 intro pins s σ H D I h
 refine wpAny_If (thn (hc pins s σ H _ I h) fun d s1 zz7=>?_)
 obtain ⟨H1,I1,q1⟩:=zz7
 cases d with
 | true=>exact ha pins s1 σ H1 D I1 q1
 | false=>exact hb pins s1 σ H1 D I1 q1
def tNever:TS:=fun _ _ _=>False
theorem ps_never:PS X st tNever:=fun _ _ _ _ _ _ h=>h.elim
end
abbrev TG:=V->St->Hp->(St->Hp->Prop)->Prop
abbrev TGs:=List V->St->Hp->(St->Hp->Prop)->Prop
def PG (X:Cx) (target:Expr) (t:TG):Prop:=
 ∀ (pins:List (Addr×Obj)) (s:Shared) (σ:St) (H:Hp) (v:V) (u:Value) (Q:St->Hp->Prop),Inv X pins σ H s->RelV v u->t v σ H Q ->
  wpAny (model X.prog X.w) X.A (assign target X.env u) (fun _ s'=>∃ σ' H',Inv X pins σ' H' s'/\Q σ' H') X.xe s
def PGs (X:Cx) (ts:List Expr) (t:TGs):Prop:=
 ∀ (pins:List (Addr×Obj)) (s:Shared) (σ:St) (H:Hp) (vs:List V) (us:List Value) (Q:St->Hp->Prop),Inv X pins σ H s->Vals vs us->t vs σ H Q ->
  wpAny (model X.prog X.w) X.A (assignInOrder ((assignEach ts X.env).map (·.2)) us) (fun _ s'=>∃ σ' H',Inv X pins σ' H' s'/\Q σ' H') X.xe s
abbrev TSet:=V->V->V->Hp->(Hp->Prop)->Prop
def PSet (X:Cx) (t:TSet):Prop:=
 ∀ (pins:List (Addr×Obj)) (s:Shared) (σ:St) (H:Hp) (o i v:V) (ov iv u:Value) (Q:Hp->Prop),Inv X pins σ H s->RelV o ov->RelV i iv->RelV v u->t o i v H Q ->
  wpAny (model X.prog X.w) X.A (setItem ov iv u) (fun _ s'=>∃ H',Inv X pins σ H' s'/\Q H') X.xe s
section
variable {X:Cx} {pos:Pos}
def gName (i:Nat):TG:=fun v σ H Q=>Q (σ.set i (some v)) H
theorem pg_name {i:Nat} {x:Str} (hN:X.N.Nodup) (hi:X.N[i]?=some x) (hx:Loc X.env.scope x) (hf:X.fn x=true\/X.env.scope.names.lookup x=some .local:=by first | exact .inl rfl | exact .inr rfl | assumption):PG X (.Name x pos) (gName i):=by
 intro pins s σ H v u Q I r h
 exact wpAny_assign_Name (store_ok I hN hi hx r (fun s' I'=>⟨_,H,I',h⟩) hf)
def gNil:TGs:=fun vs σ H Q=>vs = []/\Q σ H
def gCons (t:TG) (u:TGs):TGs:=fun vs σ H Q=>∃ v r,vs=v::r/\t v σ H fun σ' H'=>u r σ' H' Q
theorem pgs_nil:PGs X [] gNil:=by
 intro pins s σ H vs us Q I r h
 obtain ⟨e,h⟩:=h
 subst e
 cases r
 exact assignInOrder_nil ⟨σ,H,I,h⟩
theorem pgs_cons {e:Expr} {es:List Expr} {t:TG} {u:TGs} (h1:PG X e t) (h2:PGs X es u)
  (hs:(assignEach (e::es) X.env).map (·.2)=assign e X.env::(assignEach es X.env).map (·.2):=by rfl):PGs X (e::es) (gCons t u):=by
 intro pins s σ H vs us Q I r h
 obtain ⟨v,vr,e1,h⟩:=h
 subst e1
 cases r with
 | cons r rr=>
  rw [hs]
  refine assignInOrder_cons (thn (h1 pins s σ H _ _ _ I r h) fun _ s1 zz8=>?_)
  obtain ⟨σ1,H1,I1,q1⟩:=zz8
  exact h2 pins s1 σ1 H1 _ _ Q I1 rr q1
def gTup (K:Frag) (n:Nat) (t:TGs):TG:=fun v σ H Q=>∃ a xs,v=.ref a/\SqT K H a xs/\xs.length=n/\t xs σ H Q
theorem pg_tup {es:List Expr} {k:Nat} {t:TGs} {n:Nat} (hc:X.calm=true) (h:PGs X es t)
  (hn:(assignEach es X.env).length=n:=by rfl) (hst:(assignEach es X.env).findIdx? (·.1)=none:=by rfl):PG X (.Tuple es k pos) (gTup X.K n t):=by
 intro pins s σ H v u Q I r hw
 obtain ⟨a,xs,e1,hq,hl,hw⟩:=hw
 subst e1
 cases r
 obtain ⟨its,rv,ht,hz⟩:=I.tuple hq
 refine assign_Tuple_tuple (I.ok.hd hc) ht (by simp [hn,<- hl,rv.length]) hst fun h' hx=>?_
 have I1:Inv X pins σ H { s with heap:=h' }:=I.kept (t':=s.toks) fun b o e=>hx b o (Nat.ne_of_lt (Heap.lt_size e)) e
 exact h pins _ σ H xs _ Q I1 (by simpa using rv) hw
def gSub (to ti:TE) (t:TSet):TG:=fun v σ H Q=>to σ H fun o H1=>ti σ H1 fun i H2=>t o i v H2 fun H3=>Q σ H3
theorem pg_sub {o i:Expr} {to ti:TE} {t:TSet} (ho:PE X o to) (hi:PE X i ti) (hs:PSet X t)
  (ha:∀ v,assign (.Subscript o i pos) X.env v=(do
   let ov <- holding [v] (eval o X.env)
   let iv <- holding [v,ov] (eval i X.env)
   standAt pos
   holding [v,ov,iv] (setItem ov iv v)
   release [v,ov,iv] []):=by intro _; rfl):PG X (.Subscript o i pos) (gSub to ti t):=by
 intro pins s σ H v u Q I r h
 rw [ha]
 refine wpAny_bind (wpAny_holding (thn (ho pins s σ H _ I h) fun ov s1 zz9=>?_))
 obtain ⟨x,H1,I1,r1,q1⟩:=zz9
 refine wpAny_bind (wpAny_holding (thn (hi pins s1 σ H1 _ I1 q1) fun iv s2 zz10=>?_))
 obtain ⟨y,H2,I2,r2,q2⟩:=zz10
 refine wpAny_bind (wpAny_standAt (wpAny_bind (wpAny_holding (thn (hs pins s2 σ H2 x y v ov iv u _ I2 r1 r2 r q2) fun _ s3 zz11=>?_))))
 obtain ⟨H3,I3,q3⟩:=zz11
 exact wpAny_release ⟨σ,H3,I3,q3⟩
def tAsg (te:TE) (g:TG):TS:=fun D σ H=>te σ H fun x H1=>g x σ H1 D.nx
theorem ps_asg {tg e:Expr} {te:TE} {g:TG} (he:PE X e te) (hg:PG X tg g) (hs:swapsWithSole [tg] e pos.line X.env=pure false:=by rfl) (hw:swappedStores [tg] e X.env=pure none:=by rfl)
  (h1:(assignEach [tg] X.env).map (·.2) = [assign tg X.env]:=by rfl):PS X (.Assign [tg] e pos) (tAsg te g):=by
 intro pins s σ H D I h
 refine wpAny_Assign_stores (thn (he pins s σ H _ I h) fun v s1 zz12=>?_) hs hw
 obtain ⟨x,H1,I1,r1,q1⟩:=zz12
 rw [h1]
 exact thn (hg pins s1 σ H1 x v _ I1 r1 q1) fun _ s2 q=>q
theorem ps_set {i:Nat} {x:Str} {e:Expr} {te:TE} {pos':Pos} (hN:X.N.Nodup) (hi:X.N[i]?=some x) (hx:Loc X.env.scope x) (he:PE X e te) (hs:swapsWith e (some (.Name x pos')) pos.line X.env=pure false:=by rfl) (hf:X.fn x=true\/X.env.scope.names.lookup x=some .local:=by first | exact .inl rfl | exact .inr rfl | assumption) :
  PS X (.Assign [.Name x pos'] e pos) (tAsg te (gName i)):=by
 intro pins s σ H D I h
 refine wpAny_Assign_Name (thn (he pins s σ H _ I h) fun v s1 zz13=>?_) hs
 obtain ⟨y,H1,I1,r1,q1⟩:=zz13
 exact store_ok I1 hN hi hx r1 (fun s2 I2=>⟨_,H1,I2,q1⟩) hf
end
section
variable {X:Cx} {pos:Pos}
end
structure It where
 go:Nat->Hp->Prop
 yld:Nat->Hp->V->Hp->Prop
 stop:Nat->Hp->Prop
def FpOk (X:Cx) (pins:List (Addr×Obj)) (H:Hp) (b:Addr):Prop:=
 H b=none/\b≠X.env.locals/\b∉X.fs/\(b∈X.ex\/X.s₀.heap.objs.size<=b)/\(∀ x c,X.env.cells.lookup x=some c->c≠b)/\∀ p∈X.pn++pins,p.1≠b
theorem Inv.fpOk {X:Cx} {pins:List (Addr×Obj)} {σ:St} {H H':Hp} {s:Shared} {b:Addr} (I:Inv X pins σ H s) (hb:s.heap.objs.size<=b) (hn:H' b=none):FpOk X pins H' b:=by
 refine ⟨hn,Nat.ne_of_gt (Nat.lt_of_lt_of_le I.lt hb),I.nofs hb,.inr (Nat.le_trans I.sz hb),fun x c e z=>?_,fun p hp z=>?_⟩
 ·obtain ⟨v,q⟩:=I.cell x c e
  exact absurd (Nat.lt_of_lt_of_le q.lt (by rw [z]; exact hb)) (Nat.lt_irrefl _)
 ·exact absurd (Nat.lt_of_lt_of_le (Heap.lt_size (I.pin p hp).1) (by rw [z]; exact hb)) (Nat.lt_irrefl _)
structure Turn (P:Program) (w:World) (K:Frag) (tg:Expr) (J:It) (fp:List Addr) (it:Addr) (tn:Nat->Heap->Prop):Prop where
 mem:it∈fp
 obj:∀ i h,tn i h->∀ b∈fp,∃ o,h.get? b=some o/\∀ v,o.data≠.cell v
 keep:∀ i h h',tn i h->(∀ b∈fp,∀ o,h.get? b=some o->h'.get? b=some o)->tn i h'
 item:∀ (X:Cx),X.prog=P->X.w=w->X.K=K->X.calm=true->∀ (i:Nat) (pins:List (Addr×Obj)) (s:Shared) (σ:St) (H:Hp) (E:Value->Shared->Prop),Inv X pins σ H s->(∀ b∈fp,FpOk X pins H b)->tn i s.heap->J.go i H ->
  wpAny (model P w) X.A (pyNext (.ref it)) (fun r s1=>∃ u,r=some u /\
   wpAny (model P w) X.A (letOwnedTupleGo tg (.ref it) u) (fun _ s2=>∃ x H',Inv X pins σ H' s2/\RelV x u/\J.yld i H x H'/\tn (i+1) s2.heap/\∀ b∈fp,H' b=none) E s1) E s
 done:∀ (X:Cx),X.prog=P->X.w=w->X.K=K->X.calm=true->∀ (i:Nat) (pins:List (Addr×Obj)) (s:Shared) (σ:St) (H:Hp) (E:Value->Shared->Prop),Inv X pins σ H s->(∀ b∈fp,FpOk X pins H b)->tn i s.heap->J.stop i H ->
  wpAny (model P w) X.A (pyNext (.ref it)) (fun r s1=>r=none/\Inv X pins σ H s1) E s
 self:∀ (A:Around) (i:Nat) (s:Shared) (Q:Value->Shared->Prop) (E:Value->Shared->Prop),tn i s.heap->Q (.ref it) s->wpAny (model P w) A (pyIter (.ref it)) Q E s
abbrev TI:=St->Hp->(It->Hp->Prop)->Prop
def PIE (X:Cx) (pins:List (Addr×Obj)) (σ:St) (tg:Expr) (R:It->Hp->Prop) (itv:Value) (s2:Shared):Prop:=
 ∃ (it:Addr) (fp:List Addr) (tn:Nat->Heap->Prop) (J:It) (H':Hp),itv=.ref it/\Inv X pins σ H' s2/\Turn X.prog X.w X.K tg J fp it tn/\tn 0 s2.heap/\(∀ b∈fp,FpOk X pins H' b)/\R J H'
def PI (X:Cx) (tg iter:Expr) (wi:TI):Prop:=
 ∀ (pins:List (Addr×Obj)) (s:Shared) (σ:St) (H:Hp) (R:It->Hp->Prop),Inv X pins σ H s->wi σ H R ->
  wpAny (model X.prog X.w) X.A (eval iter X.env) (fun v s1=>wpAny (model X.prog X.w) X.A (pyIter v) (PIE X pins σ tg R) X.xe s1) X.xe s
theorem go_of {M:Model} {A:Around} {E:Value->Shared->Prop} {s:Shared} {tg:Expr} {it:Addr} {u:Value} {o:Obj} {n:String} {vs:Array Value} {Q:Unit->Shared->Prop} (ho:s.heap.get? it=some o) (hc:o.cls=.type n) (hd:o.data=.fields vs)
    (hn:["enumerate", "zip", "dict_itemiterator", "dict_reverseitemiterator", "odict_iterator", "itertools.zip_longest", "itertools.pairwise"].contains n=false) (hQ:Q () s):wpAny M A (letOwnedTupleGo tg (.ref it) u) Q E s:=by
  unfold letOwnedTupleGo
  cases tg <;> first
    | exact wpAny_pure hQ
    | (cases u <;> first
        | exact wpAny_pure hQ
        | (refine wpAny_bind (wpAny_load ho ?_)
           rw [hc,hd]
           show wpAny M A (if (["enumerate", "zip", "dict_itemiterator", "dict_reverseitemiterator", "odict_iterator", "itertools.zip_longest", "itertools.pairwise"].contains n&&vs[0]? == some (rawInt _))=true then _ else _) Q E s
           rw [if_neg (by intro h; rw [hn,Bool.false_and] at h; cases h)]
           exact wpAny_pure hQ))
def Itl (K:Frag) (a:Addr):It:=
 ⟨fun i H=>∃ xs x,SqL K H a xs/\xs[i]?=some x,fun i H x H'=>H'=H/\∀ xs,SqL K H a xs->xs[i]?=some x,fun i H=>∃ xs,SqL K H a xs/\xs.length<=i⟩
def Itt (K:Frag) (a:Addr):It:=
 ⟨fun i H=>∃ xs x,SqT K H a xs/\xs[i]?=some x,fun i H x H'=>H'=H/\∀ xs,SqT K H a xs->xs[i]?=some x,fun i H=>∃ xs,SqT K H a xs/\xs.length<=i⟩
def Itr (lo:Int) (n:Nat):It:=⟨fun i _=>i<n,fun i H x H'=>H'=H/\x=.int (lo+i),fun i _=>n<=i⟩
theorem turn_list {P:Program} {w:World} {K:Frag} {tg:Expr} (a it:Addr):Turn P w K tg (Itl K a) [it] it (fun i h=>h.IsListIter it a i) where
 mem:=by simp
 obj:=fun i h st b hb=>by
  have e:b=it:=by simpa using hb
  subst e
  obtain ⟨o,e,c,d⟩:=st
  exact ⟨o,e,fun v z=>by rw [d] at z; cases z⟩
 keep:=fun i h h' st k=>st.at fun o e=>k it (by simp) o e
 item:=by
  intro X hP hw hK hc i pins s σ H E I hf st hg
  subst hP hw hK
  obtain ⟨xs,x,hq,hx⟩:=hg
  obtain ⟨its,rv,p,hz⟩:=I.list hq
  obtain ⟨u,hu,ru⟩:=rv.get hx
  obtain ⟨f0,f1,f2,f3,f4,f5⟩:=hf it (by simp)
  refine wpAny_pyNext_list_item st p.isList (x:=u) (by simpa using hu) fun h' st' sb=>?_
  have I1:Inv X pins σ H { s with heap:=h' }:=I.turned (t':=s.toks) (fun b o hb e=>(sb.2 b hb).trans e) f0 f1 f3 f4 f5
  obtain ⟨o,e,c,d⟩:=id st'
  exact ⟨u,rfl,go_of (s:={ s with heap:=h' }) e c d (by decide) ⟨x,H,I1,ru,⟨rfl,fun ys hy=>by rw [I.list_inj hy hq]; exact hx⟩,st',fun b hb=>(hf b hb).1⟩⟩
 done:=by
  intro X hP hw hK hc i pins s σ H E I hf st hg
  subst hP hw hK
  obtain ⟨xs,hq,hx⟩:=hg
  obtain ⟨its,rv,p,hz⟩:=I.list hq
  obtain ⟨f0,f1,f2,f3,f4,f5⟩:=hf it (by simp)
  have hl:=rv.length
  exact wpAny_pyNext_list_end (I.ok.hd hc) st p.isList (by simp; omega) fun h' eb=>⟨rfl,I.turned (t':=s.toks) (fun b o hb e=>eb b o hb e) f0 f1 f3 f4 f5⟩
 self:=fun _ _ _ _ _ st h=>wpAny_pyIter_listiter st h
theorem turn_tuple {P:Program} {w:World} {K:Frag} {tg:Expr} (a it:Addr):Turn P w K tg (Itt K a) [it] it (fun i h=>h.IsTupleIter it a i) where
 mem:=by simp
 obj:=fun i h st b hb=>by
  have e:b=it:=by simpa using hb
  subst e
  obtain ⟨o,e,c,d⟩:=st
  exact ⟨o,e,fun v z=>by rw [d] at z; cases z⟩
 keep:=fun i h h' st k=>st.at fun o e=>k it (by simp) o e
 item:=by
  intro X hP hw hK hc i pins s σ H E I hf st hg
  subst hP hw hK
  obtain ⟨xs,x,hq,hx⟩:=hg
  obtain ⟨its,rv,p,hz⟩:=I.tuple hq
  obtain ⟨u,hu,ru⟩:=rv.get hx
  obtain ⟨f0,f1,f2,f3,f4,f5⟩:=hf it (by simp)
  refine wpAny_pyNext_tuple_item st (show s.heap.IsTuple a its.toArray from p) (x:=u) (by simpa using hu) fun h' st' sb=>?_
  have I1:Inv X pins σ H { s with heap:=h' }:=I.turned (t':=s.toks) (fun b o hb e=>(sb.2 b hb).trans e) f0 f1 f3 f4 f5
  obtain ⟨o,e,c,d⟩:=id st'
  exact ⟨u,rfl,go_of (s:={ s with heap:=h' }) e c d (by decide) ⟨x,H,I1,ru,⟨rfl,fun ys hy=>by rw [I.tuple_inj hy hq]; exact hx⟩,st',fun b hb=>(hf b hb).1⟩⟩
 done:=by
  intro X hP hw hK hc i pins s σ H E I hf st hg
  subst hP hw hK
  obtain ⟨xs,hq,hx⟩:=hg
  obtain ⟨its,rv,p,hz⟩:=I.tuple hq
  obtain ⟨f0,f1,f2,f3,f4,f5⟩:=hf it (by simp)
  have hl:=rv.length
  exact wpAny_pyNext_tuple_end (I.ok.hd hc) st (show s.heap.IsTuple a its.toArray from p) (by simp; omega) fun h' eb=>⟨rfl,I.turned (t':=s.toks) (fun b o hb e=>eb b o hb e) f0 f1 f3 f4 f5⟩
 self:=fun _ _ _ _ _ st h=>wpAny_pyIter_tupleiter st h
theorem turn_range {P:Program} {w:World} {K:Frag} {tg:Expr} (it:Addr) (lo:Int) (n:Nat):Turn P w K tg (Itr lo n) [it] it (fun i h=>IsRangeIter h it (lo+(i:Nat)*1) ((n:Int)-(i:Nat)) 1) where
 mem:=by simp
 obj:=fun i h st b hb=>by
  have e:b=it:=by simpa using hb
  subst e
  exact ⟨_,st,fun v z=>by
   have z':Data.fields _=Data.cell v:=z
   cases z'⟩
 keep:=fun i h h' st k=>k it (by simp) _ st
 item:=by
  intro X hP hw hK hc i pins s σ H E I hf st hg
  subst hP hw hK
  obtain ⟨f0,f1,f2,f3,f4,f5⟩:=hf it (by simp)
  have W:=Walks.range (prog:=X.prog) (w:=X.w) (I.ok.hd hc) it lo 1 n
  refine W.item i s _ _ hg st fun v h' tk hv st' kk=>?_
  obtain ⟨t,rfl⟩:=hv
  have I1:Inv X pins σ H { s with heap:=h',toks:=tk }:=I.turned (fun b o hb e=>kk b o (by simpa using hb) e) f0 f1 f3 f4 f5
  refine ⟨_,rfl,go_of (s:={ s with heap:=h',toks:=tk }) (n := "range_iterator") st' rfl rfl (by decide) ⟨.int (lo+i),H,I1,⟨t,?_⟩,⟨rfl,rfl⟩,st',fun b hb=>(hf b hb).1⟩⟩
  rw [Int.mul_one]
 done:=by
  intro X hP hw hK hc i pins s σ H E I hf st hg
  subst hP hw hK
  obtain ⟨f0,f1,f2,f3,f4,f5⟩:=hf it (by simp)
  exact wpAny_pyNext_range_end (I.ok.hd hc) st (by have:n<=i:=hg; omega) fun h' eb=>⟨rfl,I.turned (t':=s.toks) (fun b o hb e=>eb b o hb e) f0 f1 f3 f4 f5⟩
 self:=fun _ _ _ _ _ st h=>wpAny_pyIter_rangeiter st h
end L2
namespace L2
open PySem PySem.Spec PyProof.Rows
section
variable {X:Cx} {tg:Expr}
theorem range_it {pins:List (Addr×Obj)} {σ:St} {H:Hp} {s:Shared} {R:It->Hp->Prop} {E:Value->Shared->Prop} {lo hi:Int} {t u v:Tok} {tk:Nat} (I:Inv X pins σ H s) (h1:-(2^62)<=lo) (h2:lo<2^62) (h3:-(2^62)<=hi) (h4:hi<2^62)
  (q:R (Itr lo (hi-lo).toNat) H):wpAny (model X.prog X.w) X.A (pyIter (.ref s.heap.objs.size)) (PIE X pins σ tg R) E { s with heap:=s.heap.push { cls:=.type "range",data:=.fields #[.int lo t,.int hi u,.int 1 v] },toks:=tk }:=by
 refine wpAny_pyIter_range (IsRange.new ..) (small_one h1 h2 h3 h4) ?_
 have I1:Inv X pins σ H { s with heap:=s.heap.push { cls:=.type "range",data:=.fields #[.int lo t,.int hi u,.int 1 v] },toks:=tk }:=I.kept fun b o e=>Heap.get?_push_of_some _ e
 refine ⟨(s.heap.push { cls:=.type "range",data:=.fields #[.int lo t,.int hi u,.int 1 v] }).objs.size,[(s.heap.push { cls:=.type "range",data:=.fields #[.int lo t,.int hi u,.int 1 v] }).objs.size],_,_,H,rfl,
  I1.kept (t':=tk) fun b o e=>Heap.get?_push_of_some _ e,turn_range _ lo (hi-lo).toNat,?_,fun b hb=>?_,q⟩
 ·have e1:lo+((0:Nat):Int)*1=lo:=by simp
  have e2:(((hi-lo).toNat:Nat):Int)-((0:Nat):Int)=Builtin.Range.rangeSize lo hi 1:=by rw [rangeSize_one]; split <;> omega
  show IsRangeIter _ _ (lo+((0:Nat):Int)*1) ((((hi-lo).toNat:Nat):Int)-((0:Nat):Int)) 1
  rw [e1,e2]
  exact Heap.get?_push_size _ rfl
 ·have e:b=(s.heap.push { cls:=.type "range",data:=.fields #[.int lo t,.int hi u,.int 1 v] }).objs.size:=by simpa using hb
  subst e
  exact I1.fpOk (Nat.le_refl _) (I1.hok.fresh (Nat.le_refl _))
def iRng1 (ta:TA):TI:=fun σ H R=>ta σ H fun vs H1=>∃ j:Int,vs = [.int j] /\ -(2^62)<=j/\j<2^62/\R (Itr 0 j.toNat) H1
theorem pi_range1 {a:Expr} {ta:TA} {p pos:Pos} (hg:Gl X "range") (hm:X.mg "range" = none) (ha:PA X [a] ta) (hs:starEach [a] X.env = [(false,eval a X.env)]:=by rfl):PI X tg (.Call (.Name "range" p) [a] [] pos) (iRng1 ta):=by
 intro pins s σ H R I h
 refine Call_ (ld_blt I hg hm boot_range (PyProof.Rows.callWith_type1 (thn (ha pos pins s σ H _ I h) fun us s1 zz14=>?_) hs rfl))
 obtain ⟨vs,H1,I1,r1,q1⟩:=zz14
 obtain ⟨j,e,q1,q2,q⟩:=q1
 subst e
 cases r1 with
 | cons r rr=>
  cases rr
  obtain ⟨t,rfl⟩:=r
  exact call_range_1 (range_it I1 (by omega) (by omega) q1 q2 (by simpa using q))
def tFor (wi:TI) (g:TG) (tb:TS):TS:=fun D σ H=>wi σ H fun J H1=>∃ W:Nat->Nat->St->Hp->Prop,(∃ m,W 0 m σ H1)/\∀ i m σ H,W i m σ H ->
 (J.stop i H/\D.nx σ H)\/(J.go i H/\∃ N:St->Hp->Prop,(∀ σ' H',N σ' H'->∃ m',m'<m/\W (i+1) m' σ' H')/\∀ x H',J.yld i H x H'->g x σ H' fun σ2 H2=>tb { D with nx:=N,ct:=N,bk:=D.nx } σ2 H2)
def pinsAt (fp:List Addr) (h:Heap):List (Addr×Obj):=fp.filterMap fun b=>(h.get? b).map fun o=>(b,o)
theorem mem_pinsAt {fp:List Addr} {h:Heap} {b:Addr} {o:Obj} (hb:b∈fp) (e:h.get? b=some o):(b,o)∈pinsAt fp h:=List.mem_filterMap.mpr ⟨b,hb,by rw [e]; rfl⟩
theorem of_pinsAt {fp:List Addr} {h:Heap} {p:Addr×Obj} (hp:p∈pinsAt fp h):p.1∈fp/\h.get? p.1=some p.2:=by
 obtain ⟨b,hb,e⟩:=List.mem_filterMap.mp hp
 cases q:h.get? b with
 | none=>rw [q] at e; cases e
 | some o=>
  rw [q] at e
  have e':(b,o)=p:=Option.some.inj e
  subst e'
  exact ⟨hb,q⟩
theorem Inv.pinned {pins:List (Addr×Obj)} {σ:St} {H:Hp} {s:Shared} {fp:List Addr} (I:Inv X pins σ H s) (hf:∀ b∈fp,FpOk X pins H b) (ho:∀ b∈fp,∃ o,s.heap.get? b=some o/\∀ v,o.data≠.cell v):Inv X (pins++pinsAt fp s.heap) σ H s:=
 I.pins_of fun p hp=>(List.mem_append.mp hp).elim (fun z=>I.pin p (List.mem_append_right _ z)) fun z=>by
  obtain ⟨hb,e⟩:=of_pinsAt z
  obtain ⟨f0,f1,f2,_⟩:=hf p.1 hb
  obtain ⟨o,e',d⟩:=ho p.1 hb
  rw [e] at e'; cases e'
  exact ⟨e,f0,f1,f2,d⟩
theorem Inv.unpinned {pins pl:List (Addr×Obj)} {σ:St} {H:Hp} {s:Shared} (I:Inv X (pins++pl) σ H s):Inv X pins σ H s:=I.pins_of fun p hp=>I.pin p (List.mem_append_right _ (List.mem_append_left _ hp))
theorem ps_for {iter:Expr} {body:List Stmt} {wi:TI} {g:TG} {tb:TS} {pos:Pos} (hp:PassesOwn (model X.prog X.w) X.A X.env X.xe) (hc:X.calm=true) (hi:PI X tg iter wi) (hg:PG X tg g) (hb:PSs X body tb)
  (hs:∀ x,foldedSetIterable iter X.env x=pure x:=by intro _; rfl):PS X (.For tg iter body [] pos) (tFor wi g tb):=by
 intro pins s σ H D I h
 refine wpAny_For (thn (hi pins s σ H _ I h) fun v s1 h1=>thn h1 fun itv s2 h2=>?_) hs
 obtain ⟨it,fp,tn,J,H2,e,I2,T,st2,f2,W,⟨m0,w0⟩,turn⟩:=h2
 subst e
 -- what stays true of the iterator's objects through the loop
 have stat:∀ {H':Hp},(∀ b∈fp,H' b=none)->∀ b∈fp,FpOk X pins H' b:=fun hn b hb=>⟨hn b hb,(f2 b hb).2⟩
 refine codeAny_forLoop_any (fun n s'=>∃ i σ' H',Inv X pins σ' H' s'/\tn i s'.heap/\(∀ b∈fp,H' b=none)/\W i n σ' H') ?_ m0 ⟨0,σ,H2,I2,st2,fun b hb=>(f2 b hb).1,w0⟩
 rintro n s3 ⟨i,σ3,H3,I3,st3,fr3,w3⟩
 rcases turn i n σ3 H3 w3 with ⟨stop,qn⟩ | ⟨go,N,hN,step⟩
 ·refine wpAny_passesOwn hp (thn (T.done X rfl rfl rfl hc i pins s3 σ3 H3 X.xe I3 (stat fr3) st3 stop) fun r s4 ⟨hr,I4⟩=>?_)
  subst hr
  exact wpAny_execs_nil ⟨σ3,H3,I4,qn⟩
 ·refine wpAny_passesOwn hp (thn (T.item X rfl rfl rfl hc i pins s3 σ3 H3 X.xe I3 (stat fr3) st3 go) fun r s4 ⟨u,hr,h4⟩=>?_)
  subst hr
  refine wpAny_passesOwn hp (thn h4 fun _ s5 zz17=>?_)
  obtain ⟨x,H5,I5,r5,y5,st5,fr5⟩:=zz17
  have I5':=I5.pinned (stat fr5) (T.obj _ _ st5)
  refine wpAny_passesOwn hp (thn (hg _ s5 σ3 H5 x u _ I5' r5 (step x H5 y5)) fun _ s6 zz18=>?_)
  obtain ⟨σ6,H6,I6,q6⟩:=zz18
  refine wpAny_passesOwn hp (thn (hb _ s6 σ6 H6 _ I6 q6) fun f s7 q7=>?_)
  have again:∀ {σ7:St} {H7:Hp},Inv X (pins++pinsAt fp s5.heap) σ7 H7 s7->N σ7 H7->∃ m,m<n/\∃ i σ' H',Inv X pins σ' H' s7/\tn i s7.heap/\(∀ b∈fp,H' b=none)/\W i m σ' H':=fun {σ7 H7} I7 n7=>by
   obtain ⟨m',hm,w7⟩:=hN σ7 H7 n7
   refine ⟨m',hm,i+1,σ7,H7,I7.unpinned,T.keep _ _ _ st5 fun b hb o e=>(I7.pin (b,o) (List.mem_append_right _ (List.mem_append_right _ (mem_pinsAt hb e)))).1,fun b hb=>?_,w7⟩
   obtain ⟨o,e,d⟩:=T.obj _ _ st5 b hb
   exact (I7.pin (b,o) (List.mem_append_right _ (List.mem_append_right _ (mem_pinsAt hb e)))).2.1
  cases f with
  | next=>obtain ⟨σ7,H7,I7,n7⟩:=q7; exact again I7 n7
  | cont=>obtain ⟨σ7,H7,I7,n7⟩:=q7; exact again I7 n7
  | brk=>obtain ⟨σ7,H7,I7,q7⟩:=q7; exact ⟨σ7,H7,I7.unpinned,q7⟩
  | ret v=>obtain ⟨x7,σ7,H7,I7,r7,q7⟩:=q7; exact ⟨x7,σ7,H7,I7.unpinned,r7,q7⟩
end
end L2
namespace L2
open PySem PySem.Spec PyProof.Rows
abbrev R2:=V->V->Hp->VK->Prop
def OpR (X:Cx) (f:Value->Value->Sem Value) (r:R2):Prop:=
 ∀ (pins:List (Addr×Obj)) (s:Shared) (σ:St) (H:Hp) (x y:V) (v u:Value) (Q:VK),Inv X pins σ H s->RelV x v->RelV y u->r x y H Q ->
  wpAny (model X.prog X.w) X.A (f v u) (EP X pins σ Q) X.xe s
def UnR (X:Cx) (f:Value->Sem Value) (r:V->Hp->VK->Prop):Prop:=
 ∀ (pins:List (Addr×Obj)) (s:Shared) (σ:St) (H:Hp) (x:V) (v:Value) (Q:VK),Inv X pins σ H s->RelV x v->r x H Q ->
  wpAny (model X.prog X.w) X.A (f v) (EP X pins σ Q) X.xe s
def CallR (X:Cx) (f:Value) (r:List V->Hp->VK->Prop):Prop:=
 ∀ (pins:List (Addr×Obj)) (s:Shared) (σ:St) (H:Hp) (xs:List V) (us:List Value) (Q:VK),Inv X pins σ H s->Vals xs us->r xs H Q ->
  wpAny (model X.prog X.w) X.A (call f us) (EP X pins σ Q) X.xe s
def tOp (r:R2) (ta tb:TE):TE:=fun σ H Q=>ta σ H fun x H1=>tb σ H1 fun y H2=>r x y H2 Q
def tUn (r:V->Hp->VK->Prop) (ta:TE):TE:=fun σ H Q=>ta σ H fun x H1=>r x H1 Q
def rI (C:Int->Int->Prop) (g:Int->Int->V):R2:=fun x y H Q=>∃ i j,x=.int i/\y=.int j/\C i j/\Q (g i j) H
def rI0 (g:Int->Int->V):R2:=fun x y H Q=>∃ i j,x=.int i/\y=.int j/\Q (g i j) H
def rU (g:Int->V):V->Hp->VK->Prop:=fun x H Q=>∃ i,x=.int i/\Q (g i) H
section
variable {X:Cx} {a b c:Expr} {ta tb tc:TE} {pos:Pos}
theorem binT (ha:PE X a ta) (hb:PE X b tb) {pins:List (Addr×Obj)} {s:Shared} {σ:St} {H:Hp} {R:V->V->Hp->Prop} (I:Inv X pins σ H s)
  (h:ta σ H fun x H1=>tb σ H1 fun y H2=>R x y H2) {Q:Value->Shared->Prop} {f:Value->Value->Sem Value}
  (hf:∀ v u s2 x y H2,Inv X pins σ H2 s2->RelV x v->RelV y u->R x y H2->wpAny (model X.prog X.w) X.A (f v u) Q X.xe s2) :
  wpAny (model X.prog X.w) X.A (eval a X.env) (fun v s₁=>wpAny (model X.prog X.w) X.A (eval b X.env) (fun u s₂=>wpAny (model X.prog X.w) X.A (f v u) Q X.xe s₂) X.xe s₁) X.xe s:=by
 refine thn (ha pins s σ H _ I h) fun v s1 zz19=>?_
 obtain ⟨x,H1,I1,r1,q1⟩:=zz19
 refine thn (hb pins s1 σ H1 _ I1 q1) fun u s2 zz20=>?_
 obtain ⟨y,H2,I2,r2,q2⟩:=zz20
 exact hf v u s2 x y H2 I2 r1 r2 q2
theorem pe_op {op:Operator} {r:R2} (ho:OpR X (binaryOp op) r) (ha:PE X a ta) (hb:PE X b tb):PE X (.BinOp a op b pos) (tOp r ta tb):=by
 intro pins s σ H Q I h
 exact wpAny_BinOp (binT ha hb I h fun v u s2 x y H2 I2 rx ry q=>ho pins s2 σ H2 x y v u Q I2 rx ry q)
theorem pe_un {op:UnaryOp} {r:V->Hp->VK->Prop} (ho:UnR X (unaryOp op) r) (ha:PE X a ta):PE X (.UnaryOp op a pos) (tUn r ta):=by
 intro pins s σ H Q I h
 exact UnaryOp_ (thn (ha pins s σ H _ I h) fun v s1 zz21=>by obtain ⟨x,H1,I1,r1,q1⟩:=zz21; exact ho pins s1 σ H1 x v Q I1 r1 q1)
theorem opI {f:Value->Value->Sem Value} {C:Int->Int->Prop} {g:Int->Int->Int}
  (rule:∀ (i j:Int) (t u:Tok) (s:Shared) (Q:Value->Shared->Prop) (E:Value->Shared->Prop),C i j->Q (.int (g i j) s.toks) { s with toks:=s.toks+1 }->wpAny (model X.prog X.w) X.A (f (.int i t) (.int j u)) Q E s) :
  OpR X f (rI C fun i j=>.int (g i j)):=by
 intro pins s σ H x y v u Q I rx ry h
 obtain ⟨i,j,rfl,rfl,hc,q⟩:=h
 obtain ⟨t,rfl⟩:=rx
 obtain ⟨t',rfl⟩:=ry
 exact rule i j t t' s _ _ hc ⟨.int (g i j),H,I.tok _,⟨_,rfl⟩,q⟩
theorem opI0 {f:Value->Value->Sem Value} {g:Int->Int->Int}
  (rule:∀ (i j:Int) (t u:Tok) (s:Shared) (Q:Value->Shared->Prop) (E:Value->Shared->Prop),Q (.int (g i j) s.toks) { s with toks:=s.toks+1 }->wpAny (model X.prog X.w) X.A (f (.int i t) (.int j u)) Q E s) :
  OpR X f (rI0 fun i j=>.int (g i j)):=by
 intro pins s σ H x y v u Q I rx ry h
 obtain ⟨i,j,rfl,rfl,q⟩:=h
 obtain ⟨t,rfl⟩:=rx
 obtain ⟨t',rfl⟩:=ry
 exact rule i j t t' s _ _ ⟨.int (g i j),H,I.tok _,⟨_,rfl⟩,q⟩
theorem opB0 {f:Value->Value->Sem Value} {g:Int->Int->Bool}
  (rule:∀ (i j:Int) (t u:Tok) (s:Shared) (Q:Value->Shared->Prop) (E:Value->Shared->Prop),Q (.bool (g i j)) s->wpAny (model X.prog X.w) X.A (f (.int i t) (.int j u)) Q E s) :
  OpR X f (rI0 fun i j=>.bl (g i j)):=by
 intro pins s σ H x y v u Q I rx ry h
 obtain ⟨i,j,rfl,rfl,q⟩:=h
 obtain ⟨t,rfl⟩:=rx
 obtain ⟨t',rfl⟩:=ry
 exact rule i j t t' s _ _ ⟨.bl (g i j),H,I,rfl,q⟩
def CDiv (i j:Int):Prop:=0<j/\j<1073741824
def CPow (i j:Int):Prop:=0<=j/\j<=1000000/\i.natAbs<2^64
def CMul (i j:Int):Prop:=(-(2^64)<i/\i<2^64)\/(-(2^64)<j/\j<2^64)
theorem CMul.ok {i j:Int} (h:CMul i j):IntMulOk i j:=by
 rcases h with ⟨h1,h2⟩ | ⟨h1,h2⟩
 ·exact .of_left (intBits_le_64 h1 h2)
 ·exact .of_right (intBits_le_64 h1 h2)
theorem op_add:OpR X (binaryOp .Add) (rI0 fun i j=>.int (i+j)):=opI0 fun _ _ _ _ _ _ _ q=>add_int q
theorem op_sub:OpR X (binaryOp .Sub) (rI0 fun i j=>.int (i-j)):=opI0 fun _ _ _ _ _ _ _ q=>sub_int q
theorem op_mul:OpR X (binaryOp .Mult) (rI CMul fun i j=>.int (i*j)):=opI fun _ _ _ _ _ _ _ hc q=>mul_int q hc.ok
theorem op_fdiv:OpR X (binaryOp .FloorDiv) (rI CDiv fun i j=>.int (i/j)):=opI fun i j _ _ _ _ _ hc q=>by
 have h1:(0:Int)<j:=hc.1
 have h2:j<1073741824:=hc.2
 exact floordiv_int (by omega) (by rw [Int.fdiv_eq_ediv_of_nonneg i (by omega)]; exact q) (.inl (PyProof.noPylong_small (by omega)))
theorem op_mod:OpR X (binaryOp .Mod) (rI (fun _ j=>0<j) fun i j=>.int (i%j)):=opI fun i j _ _ _ _ _ hc q=>by
 have h1:(0:Int)<j:=hc
 exact mod_int' (by omega) (by rw [Int.fmod_eq_emod_of_nonneg i (by omega)]; exact q)
theorem unI {f:Value->Sem Value} {g:Int->Int}
  (rule:∀ (i:Int) (t:Tok) (s:Shared) (Q:Value->Shared->Prop) (E:Value->Shared->Prop),Q (.int (g i) s.toks) { s with toks:=s.toks+1 }->wpAny (model X.prog X.w) X.A (f (.int i t)) Q E s) :
  UnR X f (rU fun i=>.int (g i)):=by
 intro pins s σ H x v Q I rx h
 obtain ⟨i,rfl,q⟩:=h
 obtain ⟨t,rfl⟩:=rx
 exact rule i t s _ _ ⟨.int (g i),H,I.tok _,⟨_,rfl⟩,q⟩
theorem un_neg:UnR X (unaryOp .USub) (rU fun i=>.int (-i)):=unI fun _ _ _ _ _ q=>neg_int q
end
def scal:V->V->Bool
 | .non,.non=>true | .non,.int _=>true | .int _,.non=>true | .non,.bl _=>true | .bl _,.non=>true | .non,.str _=>true | .str _,.non=>true
 | .int _,.int _=>true | .bl _,.bl _=>true | .str _,.str _=>true | .byt _,.byt _=>true
 | .int _,.str _=>true | .str _,.int _=>true | .bl _,.str _=>true | .str _,.bl _=>true
 | _,_=>false
def rEq:R2:=fun x y H Q=>scal x y=true/\Q (.bl (decide (x=y))) H
def rNe:R2:=fun x y H Q=>scal x y=true/\Q (.bl (!decide (x=y))) H
theorem dec_int {i j:Int}:decide (V.int i=V.int j)=(i == j):=by
 rw [Bool.eq_iff_iff]
 simp
theorem dec_bl {i j:Bool}:decide (V.bl i=V.bl j)=(i == j):=by
 rw [Bool.eq_iff_iff]
 simp
theorem dec_str {i j:Str}:decide (V.str i=V.str j)=(i == j):=by
 rw [Bool.eq_iff_iff]
 simp
theorem dec_byt {i j:Array UInt8}:decide (V.byt i=V.byt j)=(i.toList == j.toList):=by
 rw [Bool.eq_iff_iff]
 cases i
 cases j
 simp
section
variable {X:Cx} {a b c:Expr} {ta tb tc:TE} {pos:Pos}
theorem fin_bl {pins:List (Addr×Obj)} {σ:St} {H:Hp} {s:Shared} {Q:VK} {k k':Bool} (I:Inv X pins σ H s) (q:Q (.bl k) H) (e:k=k'):EP X pins σ Q (.bool k') s:=by
 subst e
 exact ⟨.bl k,H,I,rfl,q⟩
theorem op_eq:OpR X (compareOp .Eq) rEq:=by
 intro pins s σ H x y v u Q I rx ry h
 obtain ⟨hs,q⟩:=h
 cases x with
 | non=>
  cases rx
  cases y with
  | non=>cases ry; exact PySem.EqNone.eq_none_none (fin_bl I q (by simp))
  | bl j=>cases ry; exact PySem.EqNone.eq_none_bool (fin_bl I q (by simp))
  | int j=>obtain ⟨t',rfl⟩:=ry; exact PySem.EqNone.eq_none_int (fin_bl I q (by simp))
  | str j=>obtain ⟨t',rfl⟩:=ry; exact PySem.EqNone.eq_none_str (fin_bl I q (by simp))
  | _=>exact absurd (show false=true from hs) Bool.false_ne_true
 | bl i=>
  cases rx
  cases y with
  | non=>cases ry; exact PySem.EqNone.eq_bool_none (fin_bl I q (by simp))
  | bl j=>cases ry; exact eq_bool (fin_bl I q dec_bl)
  | str j=>obtain ⟨t',rfl⟩:=ry; exact PySem.EqMixed.eq_bool_str (fin_bl I q (by simp))
  | _=>exact absurd (show false=true from hs) Bool.false_ne_true
 | int i=>
  obtain ⟨t,rfl⟩:=rx
  cases y with
  | non=>cases ry; exact PySem.EqNone.eq_int_none (fin_bl I q (by simp))
  | int j=>obtain ⟨t',rfl⟩:=ry; exact eq_int (fin_bl I q dec_int)
  | str j=>obtain ⟨t',rfl⟩:=ry; exact PySem.EqMixed.eq_int_str (fin_bl I q (by simp))
  | _=>exact absurd (show false=true from hs) Bool.false_ne_true
 | str i=>
  obtain ⟨t,rfl⟩:=rx
  cases y with
  | non=>cases ry; exact PySem.EqNone.eq_str_none (fin_bl I q (by simp))
  | bl j=>cases ry; exact PySem.EqMixed.eq_str_bool (fin_bl I q (by simp))
  | int j=>obtain ⟨t',rfl⟩:=ry; exact PySem.EqMixed.eq_str_int (fin_bl I q (by simp))
  | str j=>obtain ⟨t',rfl⟩:=ry; exact eq_str (fin_bl I q dec_str)
  | _=>exact absurd (show false=true from hs) Bool.false_ne_true
 | byt i=>
  obtain ⟨t,rfl⟩:=rx
  cases y with
  | byt j=>obtain ⟨t',rfl⟩:=ry; exact PySem.W.eq_bytes (fin_bl I q dec_byt)
  | _=>exact absurd (show false=true from hs) Bool.false_ne_true
 | _=>cases y <;> exact absurd (show false=true from hs) Bool.false_ne_true
theorem op_ne:OpR X (compareOp .NotEq) rNe:=by
 intro pins s σ H x y v u Q I rx ry h
 obtain ⟨hs,q⟩:=h
 cases x with
 | non=>
  cases rx
  cases y with
  | non=>cases ry; exact PySem.EqNone.ne_none_none (fin_bl I q (by simp))
  | bl j=>cases ry; exact PySem.EqNone.ne_none_bool (fin_bl I q (by simp))
  | int j=>obtain ⟨t',rfl⟩:=ry; exact PySem.EqNone.ne_none_int (fin_bl I q (by simp))
  | str j=>obtain ⟨t',rfl⟩:=ry; exact PySem.EqNone.ne_none_str (fin_bl I q (by simp))
  | _=>exact absurd (show false=true from hs) Bool.false_ne_true
 | bl i=>
  cases rx
  cases y with
  | non=>cases ry; exact PySem.EqNone.ne_bool_none (fin_bl I q (by simp))
  | bl j=>cases ry; exact ne_bool (fin_bl I q (congrArg not dec_bl))
  | str j=>obtain ⟨t',rfl⟩:=ry; exact PySem.EqMixed.ne_bool_str (fin_bl I q (by simp))
  | _=>exact absurd (show false=true from hs) Bool.false_ne_true
 | int i=>
  obtain ⟨t,rfl⟩:=rx
  cases y with
  | non=>cases ry; exact PySem.EqNone.ne_int_none (fin_bl I q (by simp))
  | int j=>obtain ⟨t',rfl⟩:=ry; exact ne_int (fin_bl I q (congrArg not dec_int))
  | str j=>obtain ⟨t',rfl⟩:=ry; exact PySem.EqMixed.ne_int_str (fin_bl I q (by simp))
  | _=>exact absurd (show false=true from hs) Bool.false_ne_true
 | str i=>
  obtain ⟨t,rfl⟩:=rx
  cases y with
  | non=>cases ry; exact PySem.EqNone.ne_str_none (fin_bl I q (by simp))
  | bl j=>cases ry; exact PySem.EqMixed.ne_str_bool (fin_bl I q (by simp))
  | int j=>obtain ⟨t',rfl⟩:=ry; exact PySem.EqMixed.ne_str_int (fin_bl I q (by simp))
  | str j=>obtain ⟨t',rfl⟩:=ry; exact ne_str (fin_bl I q (congrArg not dec_str))
  | _=>exact absurd (show false=true from hs) Bool.false_ne_true
 | byt i=>
  obtain ⟨t,rfl⟩:=rx
  cases y with
  | byt j=>obtain ⟨t',rfl⟩:=ry; exact PySem.W.ne_bytes (fin_bl I q (congrArg not dec_byt))
  | _=>exact absurd (show false=true from hs) Bool.false_ne_true
 | _=>cases y <;> exact absurd (show false=true from hs) Bool.false_ne_true
theorem op_lt:OpR X (compareOp .Lt) (rI0 fun i j=>.bl (decide (i<j))):=opB0 fun _ _ _ _ _ _ _ q=>lt_int q
theorem op_le:OpR X (compareOp .LtE) (rI0 fun i j=>.bl (decide (i<=j))):=opB0 fun _ _ _ _ _ _ _ q=>le_int q
theorem nomark (b:Expr) {op:CmpOp} (h:op≠.In:=by decide) (h2:op≠.NotIn:=by decide):behindInMarks op b=false:=by
 have e1:(op == CmpOp.In)=false:=by cases op <;> first | rfl | exact absurd rfl h
 have e2:(op == CmpOp.NotIn)=false:=by cases op <;> first | rfl | exact absurd rfl h2
 cases b <;> simp [behindInMarks,e1,e2]
def tTest (t:TE):TT:=fun σ H Q=>t σ H fun x H'=>∃ k,x=.bl k/\Q k H'
theorem pt_cmpR {op:CmpOp} {r:R2} (ho:OpR X (compareOp op) r) (ha:PE X a ta) (hb:PE X b tb) (hm:behindInMarks op b=false):PT X (.Compare a [op] [b] pos) (tTest (tOp r ta tb)):=by
 intro pins s σ H Q I h
 refine wpAny_isTrue_Compare1 (thn (ha pins s σ H _ I h) fun v s1 ⟨x,H1,I1,r1,q1⟩=>thn (hb pins s1 σ H1 _ I1 q1) fun u s2 ⟨y,H2,I2,r2,q2⟩=>
  thn (ho pins s2 σ H2 x y v u _ I2 r1 r2 q2) fun c s3 ⟨z,H3,I3,r3,k,e,q3⟩=>?_) hm
 subst e
 cases r3
 exact wpAny_truthy_bool ⟨H3,I3,q3⟩
def tChain (r r':R2) (ta tb tc:TE):TE:=fun σ H Q=>ta σ H fun x H1=>tb σ H1 fun y H2=>r x y H2 fun z H3=>∃ k,z=.bl k /\
 (if k=true then tc σ H3 fun w' H4=>r' y w' H4 Q else Q (.bl false) H3)
theorem pe_chain {op op':CmpOp} {r r':R2} (ho:OpR X (compareOp op) r) (ho':OpR X (compareOp op') r') (ha:PE X a ta) (hb:PE X b tb) (hc:PE X c tc)
  (hm:lastMarks [op,op'] [b,c]=false:=by with_unfolding_all rfl):PE X (.Compare a [op,op'] [b,c] pos) (tChain r r' ta tb tc):=by
 intro pins s σ H Q I h
 refine Compare_chain (thn (ha pins s σ H _ I h) fun v s1 ⟨x,H1,I1,r1,q1⟩=>chain_link (thn (hb pins s1 σ H1 _ I1 q1) fun u s2 ⟨y,H2,I2,r2,q2⟩=>
  thn (ho pins s2 σ H2 x y v u _ I2 r1 r2 q2) fun d s3 ⟨z,H3,I3,r3,k,e,q3⟩=>?_)) hm
 subst e
 cases r3
 refine wpAny_truthy_bool ?_
 cases k with
 | false=>exact ite_ff ⟨.bl false,H3,I3,rfl,q3⟩
 | true=>exact ite_tt (chain_last (thn (hc pins s3 σ H3 _ I3 q3) fun w' s4 zz28=>by obtain ⟨z',H4,I4,r4,q4⟩:=zz28; exact ho' pins s4 σ H4 y z' u w' Q I4 r2 r4 q4))
theorem pt_chain {op op':CmpOp} {r r':R2} (ho:OpR X (compareOp op) r) (ho':OpR X (compareOp op') r') (ha:PE X a ta) (hb:PE X b tb) (hc:PE X c tc)
  (hm:lastMarks [op,op'] [b,c]=false:=by with_unfolding_all rfl):PT X (.Compare a [op,op'] [b,c] pos) (tTest (tChain r r' ta tb tc)):=by
 intro pins s σ H Q I h
 refine isTrue_chain (thn (ha pins s σ H _ I h) fun v s1 ⟨x,H1,I1,r1,q1⟩=>test_link (thn (hb pins s1 σ H1 _ I1 q1) fun u s2 ⟨y,H2,I2,r2,q2⟩=>
  thn (ho pins s2 σ H2 x y v u _ I2 r1 r2 q2) fun d s3 ⟨z,H3,I3,r3,k,e,q3⟩=>?_)) hm
 subst e
 cases r3
 refine wpAny_truthy_bool ?_
 cases k with
 | false=>
  obtain ⟨k',e',q'⟩:=q3
  cases e'
  exact ite_ff ⟨H3,I3,q'⟩
 | true=>
  refine ite_tt (test_last (thn (hc pins s3 σ H3 _ I3 q3) fun w' s4 ⟨z',H4,I4,r4,q4⟩=>thn (ho' pins s4 σ H4 y z' u w' _ I4 r2 r4 q4) fun d' s5 zz33=>?_))
  obtain ⟨z2,H5,I5,r5,k2,e2,q5⟩:=zz33
  subst e2
  cases r5
  exact wpAny_truthy_bool ⟨H5,I5,q5⟩
theorem line63:(sizeLine:Nat)<2^63:=by rw [sizeLine_eq]; decide
theorem vals1 {x:V} {us:List Value} (r:Vals [x] us):∃ u,us = [u]/\RelV x u:=by
 cases r with
 | cons r1 r2=>cases r2; exact ⟨_,rfl,r1⟩
theorem vals2 {x y:V} {us:List Value} (r:Vals [x,y] us):∃ u w',us = [u,w']/\RelV x u/\RelV y w':=by
 cases r with
 | cons r1 r2=>
  cases r2 with
  | cons r3 r4=>cases r4; exact ⟨_,_,rfl,r1,r3⟩
end
end L2
namespace L2
open PySem PySem.Spec PyProof.Rows
structure ObjM (h:Heap) (x dx C:Addr) (mA:Str->Option Value):Prop where
 obj:h.get? x=some (PySem.W.instObj C dx)
 ns:h.Ns1 dx mA
 ne:dx≠x
theorem lookIn_ns {h:Heap} {dx:Addr} {mA:Str->Option Value} (n:h.Ns1 dx mA):∃ od,h.get? dx=some od/\∀ name,PySem.W.lookIn name od=some (mA name):=by
 obtain ⟨o,es,ep,ho,hd,hk,_,hm⟩:=n
 refine ⟨o,ho,fun name=>?_⟩
 have e:=hm name
 unfold nsFind findBy at e
 rw [<- Array.find?_toList] at e
 unfold PySem.W.lookIn
 rw [hd]
 dsimp only
 split
 ·rename_i y q
  rw [q] at e
  exact congrArg some e
 ·rename_i q
  rw [q] at e
  have a:es.toList.any (·.refKey)=false:=by
   rw [List.any_eq_false]
   intro y hy
   obtain ⟨z,t,hkey⟩:=hk y (Array.mem_toList_iff.mp hy)
   simp [DictEntry.refKey,hkey]
  have a':¬ es.toList.any (·.refKey)=true:=by rw [a]; exact Bool.false_ne_true
  rw [if_neg a']
  exact congrArg some e
theorem ObjM.look {h:Heap} {x dx C:Addr} {mA:Str->Option Value} (I:ObjM h x dx C mA):∃ od,PySem.W.InstAt h x (PySem.W.instObj C dx) C (some od)/\∀ name,PySem.W.lookIn name od=some (mA name):=
 let ⟨od,ho,hl⟩:=lookIn_ns I.ns
 ⟨od,⟨I.obj,rfl,rfl,ho⟩,hl⟩
section
variable {prog:Program} {w:World} {A:Around} {E:Value->Shared->Prop} {s:Shared} {K:Frag} {x dx C f:Addr} {mA:Str->Option Value} {name:Str} {v:Value}
end
section
variable {P:Program} {w:World} {H H':Hp} {h h':Heap} {a C dx:Addr} {fs fs':List (Str×V)}
theorem ins_get (hok:HOk P w H h) (e:H a=some (.ins C dx fs)):∃ mA,ObjM h a dx C mA/\(∀ f,RelO (fs.lookup f) (mA f))/\PySem.Within mA (fs.map (·.1))/\fs.length<=1000/\H dx=some (.own a):=by
 obtain ⟨d,z,ne,ob,mA,n,r,q⟩:=(show ObjOk P w H h a (.ins C dx fs) from hok a _ e)
 exact ⟨mA,⟨ob,n,ne⟩,r,q,z,d⟩
end
structure Cls (K:Frag) (C:Addr):Prop where
 pg:PySem.W.plainGet K C Str.empty=true
 hd:PySem.W.hasDictIn K C=true
 po:PySem.W.plainOver K C=true
 sa:PySem.W.findIn K (.ref C) "__setattr__" = some (some (.builtin "object.__setattr__"))
theorem Cls.get {K:Frag} {C:Addr} (c:Cls K C) (f:Str):PySem.W.plainGet K C f=true:=c.pg
section
variable {X:Cx} {pins:List (Addr×Obj)} {σ:St} {H:Hp} {s:Shared} {a C dx:Addr} {fs:List (Str×V)} {f:Str} {v:V} {A:Around} {E:Value->Shared->Prop}
end
section
variable {X:Cx} {o e value:Expr} {f:Str} {pos pos' tpos:Pos} {ta tv:TE}
end
section
variable {X:Cx} {pins:List (Addr×Obj)} {σ:St} {H:Hp} {s:Shared} {A:Around} {E:Value->Shared->Prop} {Q:Value->Shared->Prop} {c:Value} {b:Bool}
inductive TyOf (K:Frag) (H:Hp):V->Value->Prop where
 | non:TyOf K H .non (.type "NoneType")
 | bl (x:Bool):TyOf K H (.bl x) (.type "bool")
 | int (i:Int):TyOf K H (.int i) (.type "int")
 | str (x:Str):TyOf K H (.str x) (.type "str")
 | flt (x:UInt64):TyOf K H (.flt x) (.type "float")
 | lst {a:Addr} {xs:List V} (e:H a=some (.lst xs)):TyOf K H (.ref a) (.type "list")
 | frz {a:Addr} {o:Obj} {xs:List V} (e:H a=some (.frz o (.lst xs))):TyOf K H (.ref a) (.type "list")
 | tup {a:Addr} {xs:List V} (e:H a=some (.tup xs)):TyOf K H (.ref a) (.type "tuple")
 | dK {a:Addr} {kvs:List (Key×V)} (e:H a=some (.dK kvs)):TyOf K H (.ref a) (.type "dict")
 | dT {a:Addr} {kvs:List (List Key×V)} (e:H a=some (.dT kvs)):TyOf K H (.ref a) (.type "dict")
 | ins {a C dx:Addr} {fs:List (Str×V)} (e:H a=some (.ins C dx fs)) (cl:Cls K C) (ha:PySem.W.findIn K (.ref C) "__class__" = some (some (.builtin "object.__class__")))
   (hn:PySem.W.specialIn K (.builtin "object.__class__") "__get__" = some (some (.builtin "getset_descriptor.__get__"))) (htk:PySem.W.takesIn K (.builtin "object.__class__")=some true)
   (hm:PySem.W.mroIn K C (.type "object")=some true):TyOf K H (.ref a) (.ref C)
theorem isinst_ok {x:V} {u t:Value} (I:Inv X pins σ H s) (rx:RelV x u) (ty:TyOf X.K H x t) (e:PySem.W.kitOne X.K t c=some b) (h:∀ tk,Q (.bool b) { s with toks:=tk }) :
  wpAny (model X.prog X.w) A (call (.builtin "isinstance") [u,c]) Q E s:=by
 cases ty with
 | non=>cases (show u=Value.none from rx); exact PySem.W.kia_one PySem.W.kitx_none I.kIn True.intro e (fun z=>nomatch z) h
 | bl y=>cases (show u=Value.bool y from rx); exact PySem.W.kia_one PySem.W.kitx_bool I.kIn True.intro e (fun z=>nomatch z) h
 | int i=>obtain ⟨t,q⟩:=(show ∃ t,u=Value.int i t from rx); cases q; exact PySem.W.kia_one PySem.W.kitx_int I.kIn True.intro e (fun z=>nomatch z) h
 | str y=>obtain ⟨t,q⟩:=(show ∃ t,u=Value.str y t from rx); cases q; exact PySem.W.kia_one PySem.W.kitx_str I.kIn True.intro e (fun z=>nomatch z) h
 | flt y=>obtain ⟨t,q⟩:=(show ∃ t,u=Value.float y t from rx); cases q; exact PySem.W.kia_one PySem.W.kitx_float I.kIn True.intro e (fun z=>nomatch z) h
 | @lst a xs ea=>
  cases (show u=Value.ref a from rx)
  obtain ⟨_,_,n,_,h1⟩:=(show ObjOk X.prog X.w H s.heap a (.lst xs) from I.hok a _ ea)
  exact PySem.W.kia_one PySem.W.kitx_list I.kIn ⟨_,h1,rfl⟩ e (fun z=>nomatch z) h
 | @frz a ob xs ea=>
  cases (show u=Value.ref a from rx)
  obtain ⟨_,_,_,n,_,h1⟩:=(show ObjOk X.prog X.w H s.heap a (.frz ob (.lst xs)) from I.hok a _ ea)
  exact PySem.W.kia_one PySem.W.kitx_list I.kIn ⟨_,h1,rfl⟩ e (fun z=>nomatch z) h
 | @tup a xs ea=>
  cases (show u=Value.ref a from rx)
  obtain ⟨_,_,_,p⟩:=(show ObjOk X.prog X.w H s.heap a (.tup xs) from I.hok a _ ea)
  obtain ⟨o,h1,h2,_⟩:=p
  exact PySem.W.kia_one PySem.W.kitx_tuple I.kIn ⟨o,h1,h2⟩ e (fun z=>nomatch z) h
 | @dK a kvs ea=>
  cases (show u=Value.ref a from rx)
  obtain ⟨_,_,vs,_,p⟩:=(show ObjOk X.prog X.w H s.heap a (.dK kvs) from I.hok a _ ea)
  obtain ⟨o,es,ep,h1,h2,_⟩:=p
  exact PySem.W.kia_one PySem.W.kitx_dict I.kIn ⟨o,h1,h2.1⟩ e (fun z=>nomatch z) h
 | @dT a kvs ea=>
  cases (show u=Value.ref a from rx)
  obtain ⟨_,_,xs,_,o,es,ep,h1,h2,_⟩:=(show ObjOk X.prog X.w H s.heap a (.dT kvs) from I.hok a _ ea)
  exact PySem.W.kia_one PySem.W.kitx_dict I.kIn ⟨o,h1,h2.1⟩ e (fun z=>nomatch z) h
 | @ins a C dx fs ea cl ha hn htk hm=>
  cases (show u=Value.ref a from rx)
  obtain ⟨mA,O,_⟩:=ins_get I.hok ea
  obtain ⟨od,J,_⟩:=O.look
  exact PySem.W.kia_one (PySem.W.kitx_own (cl.get _) cl.hd ha hn htk hm) I.kIn J e (fun z=>nomatch z) h
end
end L2
namespace L2
open PySem PySem.Spec PyProof.Rows
structure Room (k:Nat) (A:Around):Prop where
 hd:A.handled=none
 dp:A.depth+3*k+5<recursionLimit
 un:A.units+16*k+200<cLine
theorem Room.mono {j k:Nat} {A:Around} (r:Room k A) (h:j<=k):Room j A:=⟨r.hd,by have:=r.dp; omega,by have:=r.un; omega⟩
theorem Room.deeper {k:Nat} {A:Around} (r:Room (k+1) A) (env:Env):Room k (A.deeper env):=
 ⟨r.hd,by have:=r.dp; show A.depth+1+3*k+5<_; omega,by have:=r.un; show A.units+3+16*k+200<_; omega⟩
theorem Room.depth {k:Nat} {A:Around} (r:Room k A):A.depth<recursionLimit:=by have:=r.dp; omega
theorem Room.units {k:Nat} {A:Around} (r:Room k A):A.units+64<cLine:=by have:=r.un; omega
def tNil:TA:=fun _ H Q=>Q [] H
def tCons (ta:TE) (tr:TA):TA:=fun σ H Q=>ta σ H fun x H1=>tr σ H1 fun xs H2=>Q (x::xs) H2
section
variable {X:Cx} {e:Expr} {es:List Expr} {te:TE} {t:TA} {pos:Pos}
theorem pa_nil:PA X [] tNil:=fun _ _ _ _ H Q I h=>Calls.spliced_nil ⟨[],H,I,.nil,h⟩
theorem pa_cons (ha:PE X e te) (hr:PA X es t) (hs:starEach (e::es) X.env=(false,eval e X.env)::starEach es X.env:=by rfl):PA X (e::es) (tCons te t):=by
 intro pos pins s σ H Q I h
 rw [hs]
 show wpAny _ _ (spliced ((false,eval e X.env)::backTo pos (starEach es X.env))) _ _ s
 refine Calls.spliced_cons (thn (ha pins s σ H _ I h) fun u s1 zz34=>?_)
 obtain ⟨x,H1,I1,r1,q1⟩:=zz34
 exact thn (hr pos pins s1 σ H1 _ I1 q1) fun us s2 zz35=>by obtain ⟨xs,H2,I2,r2,q2⟩:=zz35; exact ⟨x::xs,H2,I2,.cons r1 r2,q2⟩
def tTup (t:TA):TE:=fun σ H Q=>t σ H fun xs H1=>xs.length<=sizeLine/\∀ p,H1 p=none->Q (.ref p) (upd H1 p (.tup xs))
def tLst (t:TA):TE:=fun σ H Q=>t σ H fun xs H1=>xs.length<=sizeLine/\∀ p,H1 p=none->Q (.ref p) (upd H1 p (.lst xs))
theorem pe_tup {x1} (h:PA X es t):PE X (.Tuple es x1 pos) (tTup t):=by
 intro pins s σ H Q I hq
 refine wpAny_Tuple_spliced (thn (h pos pins s σ H _ I hq) fun us s1 ⟨xs,H1,I1,r,z,q⟩=>⟨by rw [<- r.length]; exact z,?_⟩)
 have hf:H1 s1.heap.objs.size=none:=I1.hok.fresh (Nat.le_refl _)
 refine ⟨.ref s1.heap.objs.size,upd H1 s1.heap.objs.size (.tup xs),I1.laid (t':=s1.toks) (fun b u e=>Heap.get?_push_of_some _ e) (Nat.le_refl _) ?_,rfl,q _ hf⟩
 exact ⟨z,us,r,⟨_,Heap.get?_push_size _ rfl,rfl,_,rfl⟩⟩
theorem pe_lst (h:PA X es t):PE X (.List es pos) (tLst t):=by
 intro pins s σ H Q I hq
 refine wpAny_List_spliced (thn (h pos pins s σ H _ I hq) fun us s1 ⟨xs,H1,I1,r,z,q⟩=>⟨by rw [<- r.length]; exact z,?_⟩)
 have hf:H1 s1.heap.objs.size=none:=I1.hok.fresh (Nat.le_refl _)
 refine ⟨.ref s1.heap.objs.size,upd H1 s1.heap.objs.size (.lst xs),I1.laid (t':=s1.toks) (fun b u e=>Heap.get?_push_of_some _ e) (Nat.le_refl _) ?_,rfl,q _ hf⟩
 exact ⟨z,us,0,r,Heap.get?_push_size _ rfl⟩
end
abbrev Sp:=List V->Hp->VK->XK->Prop
abbrev CXT:=List Env->Hp->Shared->XK->Value->Shared->Prop
structure Env0 (P:Program) (w:World) (K:Frag) (mg:Str->Option Value) (base:Heap) (A:Around) (outer:List Env) (s:Shared) (H:Hp):Prop where
 frames:A.frames=some outer
 mod:Mod K mg base
 bs:∀ b o,base.get? b=some o->s.heap.get? b=some o/\H b=none
 bsz:base.objs.size<=s.heap.objs.size
 funs:s.heap.FunFrames base outer
 frf:∀ b∈frs outer,H b=none
 hok:HOk P w H s.heap
 bare:AllBare s.gens
def CE (outer:List Env) (P:Program) (w:World) (H:Hp) (s:Shared) (Q:VK) (u:Value) (s':Shared):Prop:=
 ∃ v H',s'.os=s.os/\AllBare s'.gens/\Un (frs outer) [] H H' s.heap s'.heap/\HOk P w H' s'.heap/\RelV v u/\Q v H'
def CR (CX:CXT) (outer:List Env) (P:Program) (w:World) (H:Hp) (s:Shared) (Q:VK) (E:XK) (r:Result) (s':Shared):Prop:=
 match r with
 | .ok (.ret u)=>CE outer P w H s Q u s'
 | .ok _=>False
 | .error e=>CX outer H s E e s'
structure FnOk (P:Program) (w:World) (K:Frag) (mg:Str->Option Value) (base:Heap) (CX:CXT) (k:Nat) (f:Addr) (fd:FuncData) (ps:List Str) (sp:Sp):Prop where
 len:∀ vs H Q E,sp vs H Q E->vs.length=ps.length
 run:∀ (A:Around) (outer:List Env) (s:Shared) (H:Hp) (args:Args) (us:List Value) (vs:List V) (Q:VK) (E:XK),Room k A->Env0 P w K mg base A outer s H->BindsTo s fd args (ps.zip us)->Vals vs us->sp vs H Q E ->
  codeAny (model P w) A (.call (.ref f) args) (CR CX outer P w H s Q E) s
theorem FnOk.imp {P:Program} {w:World} {K:Frag} {mg:Str->Option Value} {base:Heap} {CX:CXT} {k:Nat} {f:Addr} {fd:FuncData} {ps:List Str} {sp sp':Sp} (F:FnOk P w K mg base CX k f fd ps sp)
  (h:∀ vs H Q E,sp' vs H Q E->sp vs H Q E):FnOk P w K mg base CX k f fd ps sp':=
 ⟨fun vs H Q E q=>F.len vs H Q E (h _ _ _ _ q),fun A outer s H args us vs Q E hr he hb hv hs=>F.run A outer s H args us vs Q E hr he hb hv (h _ _ _ _ hs)⟩
section
variable {X:Cx} {pins:List (Addr×Obj)} {σ:St} {H:Hp} {s s':Shared}
theorem Inv.env0 (I:Inv X pins σ H s):Env0 X.prog X.w X.K X.mg X.base X.A X.stack s H:=
 ⟨I.ok.frames,I.ok.mod,I.bs,Nat.le_trans I.ok.bsz I.sz,I.stack,I.stkFree,I.hok,I.bare⟩
theorem Inv.after {Q:VK} {u:Value} (I:Inv X pins σ H s) (h:CE X.stack X.prog X.w H s Q u s'):EP X pins σ Q u s':=by
 obtain ⟨v,H',os,bare,un,hok,r,q⟩:=h
 obtain ⟨hh,g,d,t,os'⟩:=s'
 obtain rfl:os'=s.os:=os
 exact ⟨v,H',I.call (h':=hh) (g':=g) (d':=d) (t':=t) (ch:=[]) un hok bare (fun b z=>absurd z (by simp)),r,q⟩
end
def tCall (sp:Sp) (dvs:List V) (E:XK) (t:TA):TE:=fun σ H Q=>t σ H fun vs H1=>sp (vs++dvs) H1 Q E
def Binds (K:Frag) (fd:FuncData) (ps:List Str) (ds:List Value):Prop:=
 ∀ (s:Shared) (us:List Value),K.In s.heap->(us++ds).length=ps.length->BindsTo s fd ⟨us,[]⟩ (ps.zip (us++ds))
theorem Binds.all {K:Frag} {fd:FuncData} {ps:List Str} (h:∀ us:List Value,us.length=ps.length->bindArgs fd ⟨us,[]⟩=pure (ps.zip us)):Binds K fd ps []:=fun s us _ hl=>by
 rw [List.append_nil] at hl ⊢
 exact .of_eq (h us hl)
def Passes (CX:CXT) (X:Cx) (E:XK):Prop:=∀ (pins:List (Addr×Obj)) (σ:St) (H:Hp) (s:Shared) (e:Value) (s':Shared),Inv X pins σ H s->CX X.stack H s E e s'->X.xe e s'
section
variable {X:Cx} {CX:CXT} {k:Nat} {f C:Addr} {fd:FuncData} {ps:List Str} {sp:Sp} {dvs:List V} {ds:List Value} {E:XK} {x m:Str} {p pos apos:Pos} {e o:Expr} {es:List Expr} {ta:TE} {t:TA}
theorem run_fn {pins:List (Addr×Obj)} {σ:St} {H:Hp} {s:Shared} {Q:VK} {us:List Value} {vs:List V} (F:FnOk X.prog X.w X.K X.mg X.base CX k f fd ps sp) (hr:Room k X.A) (hb:Binds X.K fd ps ds) (hd:Vals dvs ds) (hx:Passes CX X E)
  (I:Inv X pins σ H s) (r:Vals vs us) (h:sp (vs++dvs) H Q E):wpAny (model X.prog X.w) X.A (call (.ref f) us) (EP X pins σ Q) X.xe s:=by
 have r2:Vals (vs++dvs) (us++ds):=r.append hd
 have hl:(us++ds).length=ps.length:=by rw [<- r2.length]; exact F.len _ _ _ _ h
 refine wpAny_call (codeAny_mono (F.run X.A X.stack s H ⟨us,[]⟩ (us++ds) (vs++dvs) Q E hr I.env0 (hb s us I.kIn hl) r2 h) fun r s' hq=>?_)
 cases r with
 | error e=>exact hx pins σ H s e s' I hq
 | ok fl=>
  cases fl with
  | ret u=>exact I.after hq
  | next=>exact False.elim hq
  | brk=>exact False.elim hq
  | cont=>exact False.elim hq
theorem pe_call (F:FnOk X.prog X.w X.K X.mg X.base CX k f fd ps sp) (hr:Room k X.A) (hg:Gl X x) (hm:X.mg x=some (.ref f)) (hk:PySem.W.keepIn X.K (.ref f)=true) (hb:Binds X.K fd ps ds) (hd:Vals dvs ds) (hx:Passes CX X E)
  (ha:PA X (e::es) t) (hdb:(x == ("__debug__" : Str))=false:=by decide) (he:starEach (e::es) X.env=(false,eval e X.env)::starEach es X.env:=by rfl) (hpl:(backTo pos (starEach es X.env)).any (·.1)=false:=by rfl) :
  PE X (.Call (.Name x p) (e::es) [] pos) (tCall sp dvs E t):=by
 intro pins s σ H Q I h
 refine wpAny_Call_Name_kw (ld_glob I hg hm ?_ hdb)
 refine PySem.W.callWith_K (h₀:=X.base) I.ok.mod.kin hk (thn (ha pos pins s σ H _ I h) fun us s1 ⟨vs,H1,I1,r,q⟩=>⟨I1.kIn,?_⟩) he hpl
 exact run_fn F hr hb hd hx I1 r q
end
section
variable {X:Cx} {CX:CXT} {k:Nat} {f C:Addr} {fd:FuncData} {ps ks:List Str} {sp:Sp} {E:XK} {x m:Str} {p pos apos kpos:Pos} {e o:Expr} {es:List Expr} {kws:List Keyword} {te ta:TE} {t tk:TA} {nm:Option Str}
variable {g:List Value->List Value->List Value} {gV:List V->List V->List V}
end
structure FnScope (N P:List Str) (sc:Scope):Prop where
 kind:sc.kind=.function
 co:sc.isCoroutine=false
 gen:sc.isGenerator=false
 nd:N.Nodup
 pre:N.take P.length=P
 par:∀ x∈P,sc.names.lookup x=some .local\/sc.names.lookup x=some .cell
 nofree:∀ y∈sc.names,y.2≠.free
theorem bindL_out {kindOf:Str->Option NameKind} {x:Str}:∀ {binds:List (Str×Value)} {m:Str->Option Value},(∀ v,(x,v)∉binds)->bindL kindOf binds m x=m x:=by
 intro binds
 induction binds with
 | nil=>intro m _; rfl
 | cons p r ih=>
  intro m h
  unfold bindL
  rw [ih fun w hw=>h w (List.mem_cons_of_mem _ hw)]
  split
  ·have:x≠p.1:=by rintro rfl; exact h p.2 List.mem_cons_self
   simp [this]
  ·rfl
theorem bindC_out {kindOf:Str->Option NameKind} {x:Str}:∀ {binds:List (Str×Value)} {m:Str->Option Value},(∀ v,(x,v)∉binds)->bindC kindOf binds m x=m x:=by
 intro binds
 induction binds with
 | nil=>intro m _; rfl
 | cons p r ih=>
  intro m h
  unfold bindC
  rw [ih fun w hw=>h w (List.mem_cons_of_mem _ hw)]
  split
  ·rfl
  ·have:x≠p.1:=by rintro rfl; exact h p.2 List.mem_cons_self
   simp [this]
theorem bindL_get {kindOf:Str->Option NameKind} {x:Str} {v:Value}:∀ {P:List Str} {vs:List Value} {i:Nat} {m:Str->Option Value},P.Nodup->P[i]?=some x->vs[i]?=some v->kindOf x=some .local ->
  bindL kindOf (P.zip vs) m x=some v:=by
 intro P
 induction P with
 | nil=>intro vs i m _ h _ _; cases h
 | cons p P ih=>
  intro vs i m nd h1 h2 hk
  cases vs with
  | nil=>cases h2
  | cons w vs=>
   show bindL kindOf ((p,w)::P.zip vs) m x=_
   unfold bindL
   cases i with
   | zero=>
    cases h1
    cases h2
    rw [bindL_out fun v hv=>(List.nodup_cons.mp nd).1 (List.of_mem_zip hv).1,if_pos hk]
    simp
   | succ i=>exact ih (List.nodup_cons.mp nd).2 h1 h2 hk
theorem bindC_get {kindOf:Str->Option NameKind} {x:Str} {v:Value}:∀ {P:List Str} {vs:List Value} {i:Nat} {m:Str->Option Value},P.Nodup->P[i]?=some x->vs[i]?=some v->kindOf x≠some .local ->
  bindC kindOf (P.zip vs) m x=some v:=by
 intro P
 induction P with
 | nil=>intro vs i m _ h _ _; cases h
 | cons p P ih=>
  intro vs i m nd h1 h2 hk
  cases vs with
  | nil=>cases h2
  | cons w vs=>
   show bindC kindOf ((p,w)::P.zip vs) m x=_
   unfold bindC
   cases i with
   | zero=>
    cases h1
    cases h2
    rw [bindC_out fun v hv=>(List.nodup_cons.mp nd).1 (List.of_mem_zip hv).1,if_neg hk]
    simp
   | succ i=>exact ih (List.nodup_cons.mp nd).2 h1 h2 hk
def start (N:List Str) (vs:List V):St:=vs.map some++List.replicate (N.length-vs.length) none
def cxOf (CX:CXT) (P:Program) (w:World) (K:Frag) (mg:Str->Option Value) (base:Heap) (N:List Str) (qual:Str) (scope:Scope) (f:Addr) (cd:Value) (A:Around) (outer:List Env) (s:Shared) (H:Hp) (E:XK):Cx where
 prog:=P
 w:=w
 K:=K
 mg:=mg
 base:=base
 A:=A.deeper (envOfC qual scope s.heap.objs.size f cd)
 N:=N
 s₀:=s
 H₀:=H
 env:=envOfC qual scope s.heap.objs.size f cd
 outer:=outer
 stack:=envOfC qual scope s.heap.objs.size f cd::outer
 ex:=[]
 calm:=true
 fn:=fun _=>true
 pn:=[]
 xe:=fun e s'=>wpAny (model P w) (A.deeper (envOfC qual scope s.heap.objs.size f cd)) (leaving (envOfC qual scope s.heap.objs.size f cd) e) (fun _ s''=>CX outer H s E e s'') (fun e' s''=>CX outer H s E e' s'') s'
theorem cell_has {sc:Scope} {n:Nat} {x:Str} (h:sc.names.lookup x=some .cell):∃ c,(cellsFrom n sc.names []).lookup x=some c:=by
 have q:=PySem.W.cellsFrom_some sc.names n [] (.inl h)
 exact Option.isSome_iff_exists.mp q
theorem inv_start {CX:CXT} {P:Program} {w:World} {K:Frag} {mg:Str->Option Value} {base:Heap} {N ps:List Str} {qual:Str} {scope:Scope} {f:Addr} {cd:Value} {A:Around} {outer:List Env} {s s1:Shared} {H:Hp} {E:XK} {us:List Value} {vs:List V}
  (S:FnScope N ps scope) (hd:A.handled=none) (e0:Env0 P w K mg base A outer s H) (hl:vs.length=ps.length) (r:Vals vs us)
  (x:InCallC s s.heap.objs.size (bindL (envOfC qual scope s.heap.objs.size f cd).kindOf (ps.zip us) fun _=>none) (cellsFrom (s.heap.objs.size+1) scope.names []) (bindC (envOfC qual scope s.heap.objs.size f cd).kindOf (ps.zip us) fun _=>none) s1) :
  Inv (cxOf CX P w K mg base N qual scope f cd A outer s H E) [] (start N vs) H s1:=by
 have hpl:ps.length<=N.length:=by have:=congrArg List.length S.pre; rw [List.length_take] at this; omega
 obtain ⟨h1,tk,rfl,hk⟩:=x.done
 have noA:∀ b:Addr,b∉(cxOf CX P w K mg base N qual scope f cd A outer s H E).ex:=fun b z=>absurd (show b∈([]:List Addr) from z) (by simp)
 refine ⟨⟨e0.mod,S.kind,rfl,rfl,Nat.le_refl _,fun y z c h1 h2=>?_,fun y hy=>?_,fun y c _ h=>?_,fun _=>hd,Around.frames_deeper e0.frames,.inr ⟨rfl,rfl⟩,fun b z=>absurd z (noA b),e0.bs,e0.bsz,fun b _ _=>noA b,fun b z=>absurd z (noA b),e0.funs,e0.frf⟩,
  rfl,e0.bare,Un.kept hk,⟨_,x.toInCall.ns,fun i y v h1 h2 h3=>?_⟩,fun y c h=>⟨_,x.cell y c h⟩,e0.hok.fresh (Nat.le_refl _),fun y c h=>?_,fun p hp=>absurd (show p∈([]:List (Addr×Obj)) from hp) (by simp),e0.hok.kept hk,?_⟩
 ·exact name_of_addr x.apart (PySem.mem_of_lookup h1) (PySem.mem_of_lookup h2)
 ·have hy:scope.names.lookup y=some .cell\/scope.names.lookup y=some .free:=hy
  rcases hy with hy | hy
  ·exact cell_has hy
  ·exact absurd rfl (S.nofree _ (PySem.mem_of_lookup hy))
 ·exact Nat.le_of_lt (x.above y c (PySem.mem_of_lookup h))
 ·have hi:i<vs.length:=by
   unfold start at h2
   by_cases hi:i<vs.length
   ·exact hi
   ·rw [List.getElem?_append_right (by simpa using hi)] at h2
    rw [List.getElem?_replicate] at h2
    split at h2 <;> cases h2
  have ha:vs[i]?=some v:=by
   unfold start at h2
   rw [List.getElem?_append_left (by simpa using hi),List.getElem?_map] at h2
   cases e:vs[i]? with
   | none=>rw [e] at h2; cases h2
   | some a=>rw [e] at h2; cases h2; rfl
  obtain ⟨u,hu,rv⟩:=r.get ha
  have hp:ps[i]?=some y:=by
   rw [<- S.pre,List.getElem?_take_of_lt (by omega)]; exact h1
  have ndP:ps.Nodup:=by rw [<- S.pre]; exact S.nd.sublist (List.take_sublist _ _)
  refine ⟨u,rv,?_⟩
  rcases S.par y (List.mem_of_getElem? hp) with k | k
  ·exact .inl ⟨k,bindL_get ndP hp hu k⟩
  ·obtain ⟨c,e⟩:=cell_has (n:=s.heap.objs.size+1) k
   refine .inr ⟨.inl k,c,e,?_⟩
   have q:=x.cell y c e
   rw [bindC_get ndP hp hu (by show scope.names.lookup y≠_; rw [k]; decide)] at q
   exact q
 ·exact e0.hok.fresh (Nat.le_of_lt (x.above y c (PySem.mem_of_lookup h)))
 ·unfold start
  show _=N.length
  rw [List.length_append,List.length_map,List.length_replicate]
  omega
theorem fn_of {CX:CXT} {P:Program} {w:World} {K:Frag} {mg:Str->Option Value} {base:Heap} {k:Nat} {f:Addr} {name qual:Str} {params:Arguments} {body:List Stmt} {scope:Scope} {dV kV doc pm cdv ct oc:Value} {an od:Option Addr}
  {osl:Array (Option Value)} {N ps:List Str} {sp:Sp} (lk:K.lookup f=some ⟨oc,od,.func (PySem.W.fnOf name qual params body scope dV kV doc pm an cdv ct),osl⟩) (hcd:PySem.W.codeIn K cdv qual=true) (S:FnScope N ps scope)
  (len:∀ vs H Q E,sp vs H Q E->vs.length=ps.length)
  (hbody:∀ (A:Around) (outer:List Env) (s:Shared) (H:Hp) (vs:List V) (Q:VK) (E:XK),Room k (A.deeper (envOfC qual scope s.heap.objs.size f cdv))->sp vs H Q E ->
   ∃ t,PSs (cxOf CX P w K mg base N qual scope f cdv A outer s H E) body t/\t { nx:=fun _ H'=>Q .non H',rt:=Q } (start N vs) H) :
  FnOk P w K mg base CX (k+1) f (PySem.W.fnOf name qual params body scope dV kV doc pm an cdv ct) ps sp:=by
 refine ⟨len,fun A outer s H args us vs Q E hr e0 hb r hsp=>?_⟩
 have hl:=len _ _ _ _ hsp
 have KX:K.In s.heap:=e0.mod.kin.keeps fun b o e=>(e0.bs b o e).1
 have lim:s.heap.NoLimit:=e0.mod.nolimit.keeps fun b o e=>(e0.bs b o e).1
 have hkind:∀ y∈ps.zip us,scope.names.lookup y.1=some .local\/(scope.names.lookup y.1=some .cell/\((cellsFrom (s.heap.objs.size+1) scope.names []).lookup y.1).isSome=true):=fun zz39 hy=>by
  obtain ⟨n,v⟩:=zz39
  rcases S.par n (List.of_mem_zip hy).1 with q | q
  ·exact .inl q
  ·exact .inr ⟨q,PySem.W.cellsFrom_some _ _ _ (.inl q)⟩
 refine codeAny_call_function hr.depth (KX _ _ lk) rfl S.co S.gen rfl (PySem.W.codeRec_of KX hcd) (hb _ _ _ _ ?_)
 refine wpAny_newFunctionEnv_cells S.kind hkind fun env he s1 x=>?_
 subst he
 refine ⟨lim.keeps x.toInCall.keep,codeAny_func ?_⟩
 obtain ⟨t,ht,hq⟩:=hbody A outer s H vs Q E (hr.deeper _) hsp
 have I:Inv (cxOf CX P w K mg base N qual scope f cdv A outer s H E) [] (start N vs) H s1:=inv_start S hr.hd e0 hl r x
 refine wpAny_mono (ht [] s1 (start N vs) H _ I hq) (fun fl s' hs=>?_) fun e s' hs=>hs
 have fin:∀ {σ':St} {H':Hp} {v:V} {u:Value},Inv (cxOf CX P w K mg base N qual scope f cdv A outer s H E) [] σ' H' s'->RelV v u->Q v H'->CE outer P w H s Q u s':=
  fun {σ' H' v u} J rv q=>⟨v,H',J.os,J.bare,J.base,J.hok,rv,q⟩
 cases fl with
 | ret u=>
  obtain ⟨v,σ',H',J,rv,q⟩:=hs
  exact fin J rv q
 | next=>
  obtain ⟨σ',H',J,q⟩:=hs
  exact fin (v:=V.non) (u:=Value.none) J rfl q
 | brk=>
  obtain ⟨_,_,_,q⟩:=hs
  exact False.elim q
 | cont=>
  obtain ⟨_,_,_,q⟩:=hs
  exact False.elim q
end L2
namespace L2
open PySem PySem.Spec PyProof.Rows
section
variable {X:Cx} {x:Str} {p pos:Pos} {e:Expr} {es:List Expr} {t:TA} {id T:String} {r:List V->Hp->VK->Prop}
def tCB (r:List V->Hp->VK->Prop) (t:TA):TE:=fun σ H Q=>t σ H fun vs H1=>r vs H1 Q
theorem pe_callB (hc:CallR X (.builtin id) r) (hg:Gl X x) (hm:X.mg x=none) (hv:bootBuiltins x=some (.builtin id)) (ha:PA X (e::es) t) (hn:x ≠ "__name__" := by decide) (hdb:(x == ("__debug__" : Str))=false:=by decide)
  (he:starEach (e::es) X.env=(false,eval e X.env)::starEach es X.env:=by rfl) (hpl:(backTo pos (starEach es X.env)).any (·.1)=false:=by rfl):PE X (.Call (.Name x p) (e::es) [] pos) (tCB r t):=by
 intro pins s σ H Q I h
 refine wpAny_Call_Name_kw (ld_blt I hg hm hv ?_ hn hdb)
 exact PyProof.Rows.callWith_builtin1 (thn (ha pos pins s σ H _ I h) fun us s1 zz40=>by obtain ⟨vs,H1,I1,r1,q1⟩:=zz40; exact hc pins s1 σ H1 vs us Q I1 r1 q1) he hpl
theorem pe_callTy (hc:CallR X (.type T) r) (hg:Gl X x) (hm:X.mg x=none) (hv:bootBuiltins x=some (.type T)) (ha:PA X (e::es) t) (hn:x ≠ "__name__" := by decide) (hdb:(x == ("__debug__" : Str))=false:=by decide)
  (he:starEach (e::es) X.env=(false,eval e X.env)::starEach es X.env:=by rfl) (hpl:(backTo pos (starEach es X.env)).any (·.1)=false:=by rfl):PE X (.Call (.Name x p) (e::es) [] pos) (tCB r t):=by
 intro pins s σ H Q I h
 refine wpAny_Call_Name_kw (ld_blt I hg hm hv ?_ hn hdb)
 exact PyProof.Rows.callWith_type1 (thn (ha pos pins s σ H _ I h) fun us s1 zz41=>by obtain ⟨vs,H1,I1,r1,q1⟩:=zz41; exact hc pins s1 σ H1 vs us Q I1 r1 q1) he hpl
end
end L2
namespace HT
open PySem PyProof.Rows
def lexLt:List Int->List Int->Bool
 | [],[]=>false
 | [],_::_=>true
 | _::_,[]=>false
 | x::xs,y::ys=>if x=y then lexLt xs ys else decide (x<y)
section
open PySem.SeqAt
open PySem.AutoSeq1 (wpAny_loadPart')
open PySem.MeetsSeq PySem.MeetsSeq2 PySem.MeetsSeq3
end
section
variable {prog:Program} {w:World} {A:Around} {E:Value->Shared->Prop} {s:Shared}
def sIx (n d:Nat):Option Int->Nat
 | none=>d
 | some v=>if v<0 then (v+(n:Int)).toNat else min v.toNat n
theorem sIx_nat (n d k:Nat):sIx n d (some (k:Int))=min k n:=by
 show (if (k:Int)<0 then ((k:Int)+(n:Int)).toNat else min (k:Int).toNat n)=min k n
 rw [if_neg (by omega),Int.toNat_natCast]
end
end HT
namespace L2
open PySem PySem.Spec PyProof.Rows
abbrev TO:=St->Hp->(Option Int->Hp->Prop)->Prop
def PO (X:Cx) (e:Option Expr) (t:TO):Prop:=
 ∀ (pins:List (Addr×Obj)) (s:Shared) (σ:St) (H:Hp) (Q:Option Int->Hp->Prop),Inv X pins σ H s->t σ H Q ->
  wpAny (model X.prog X.w) X.A (evalPart e X.env) (fun u s'=>∃ o H',Inv X pins σ H' s'/\IsPart u o/\Q o H') X.xe s
def tPart (t:TE):TO:=fun σ H Q=>t σ H fun x H1=>∃ i,x=.int i/\Q (some i) H1
section
variable {X:Cx} {e:Expr} {te:TE} {lo hi:Option Expr} {tl th:TO} {pos p2:Pos}
theorem po_some (h:PE X e te):PO X (some e) (tPart te):=by
 intro pins s σ H Q I hw
 rw [evalPart_some]
 refine thn (h pins s σ H _ I hw) fun u s1 zz42=>?_
 obtain ⟨x,H1,I1,r1,q1⟩:=zz42
 obtain ⟨i,rfl,q⟩:=q1
 obtain ⟨t,rfl⟩:=r1
 exact ⟨some i,H1,I1,.int i t,q⟩
def SlR (X:Cx) (r:V->Option Int->Option Int->Hp->VK->Prop):Prop:=
 ∀ (pins:List (Addr×Obj)) (s:Shared) (σ:St) (H:Hp) (x:V) (v vl vu:Value) (lo hi:Option Int) (sl:Addr) (Q:VK),Inv X pins σ H s->RelV x v->s.heap.IsSliceOf sl vl vu .none->IsPart vl lo->IsPart vu hi->r x lo hi H Q ->
  ∃ T id,typeLookup (.type T) "__getitem__" = pure (some (.builtin id))/\s.TypeIs v T/\wpAny (model X.prog X.w) X.A (getItem v (.ref sl)) (EP X pins σ Q) X.xe s
def tSl (r:V->Option Int->Option Int->Hp->VK->Prop) (te:TE) (tl th:TO):TE:=fun σ H Q=>te σ H fun x H1=>tl σ H1 fun l H2=>th σ H2 fun u H3=>r x l u H3 Q
theorem pe_slice {r:V->Option Int->Option Int->Hp->VK->Prop} (hr:SlR X r) (he:PE X e te) (hl:PO X lo tl) (hu:PO X hi th):PE X (.Subscript e (.Slice lo hi none p2) pos) (tSl r te tl th):=by
 intro pins s σ H Q I h
 refine Subscript_ (thn (he pins s σ H _ I h) fun v s1 zz43=>?_)
 obtain ⟨x,H1,I1,r1,q1⟩:=zz43
 refine wpAny_Slice (thn (hl pins s1 σ H1 _ I1 q1) fun vl s2 ⟨l,H2,I2,pl,q2⟩=>thn (hu pins s2 σ H2 _ I2 q2) fun vu s3 zz45=>?_)
 obtain ⟨u,H3,I3,pu,q3⟩:=zz45
 rw [evalPart_none]
 refine wpAny_pure ?_
 have I4:Inv X pins σ H3 { s3 with heap:=s3.heap.push { cls:=.type "slice",data:=.fields #[vl,vu,.none] } }:=I3.kept (t':=s3.toks) fun b ob q=>Heap.get?_push_of_some _ q
 obtain ⟨T,id,hT,ht,hg⟩:=hr pins { s3 with heap:=s3.heap.push { cls:=.type "slice",data:=.fields #[vl,vu,.none] } } σ H3 x v vl vu l u s3.heap.objs.size Q I4 r1 (Heap.IsSliceOf.new ..) pl pu q3
 show wpAny (model X.prog X.w) X.A (subscriptTail e (.Slice lo hi none p2) v (.ref s3.heap.objs.size)) (EP X pins σ Q) X.xe { s3 with heap:=s3.heap.push { cls:=.type "slice",data:=.fields #[vl,vu,.none] } }
 exact tail_any (ops:=[.ref s3.heap.objs.size,v]) ht hT hg (by with_unfolding_all rfl)
def cutV (xs:List V) (lo hi:Option Int):List V:=(xs.drop (HT.sIx xs.length 0 lo)).take (HT.sIx xs.length xs.length hi-HT.sIx xs.length 0 lo)
theorem cutV_length (xs:List V) (lo hi:Option Int):(cutV xs lo hi).length<=xs.length:=by
 unfold cutV
 rw [List.length_take,List.length_drop]
 omega
end
end L2
namespace L2
open PySem PySem.Spec PyProof.Rows
def ixN (n:Nat) (i:Int):Option Nat:=if 0<=i then (if i<n then some i.toNat else none) else if -(n:Int)<=i then some (i+n).toNat else none
def atI {α:Type} (xs:List α) (i:Int):Option α:=(ixN xs.length i).bind fun j=>xs[j]?
theorem ixN_seq {n:Nat} {i:Int} {j:Nat} (h:ixN n i=some j):seqIndex? i n=some j/\j<n /\ -(n:Int)<=i/\i<n:=by
 unfold ixN at h
 by_cases h0:0<=i
 ·rw [if_pos h0] at h
  by_cases h1:i<n
  ·rw [if_pos h1] at h
   have e:i.toNat=j:=Option.some.inj h
   exact ⟨by rw [seqIndex_of h0 h1,e],by omega,by omega,h1⟩
  ·rw [if_neg h1] at h; cases h
 ·rw [if_neg h0] at h
  by_cases h1:-(n:Int)<=i
  ·rw [if_pos h1] at h
   have e:(i+n).toNat=j:=Option.some.inj h
   exact ⟨by rw [seqIndex_neg (by omega) h1,e],by omega,h1,by omega⟩
  ·rw [if_neg h1] at h; cases h
theorem atI_get {α:Type} {xs:List α} {i:Int} {v:α} (h:atI xs i=some v):∃ j,seqIndex? i xs.length=some j/\xs[j]?=some v/\j<xs.length /\ -(xs.length:Int)<=i/\i<xs.length:=by
 unfold atI at h
 cases e:ixN xs.length i with
 | none=>rw [e] at h; cases h
 | some j=>
  rw [e] at h
  obtain ⟨h1,h2,h3,h4⟩:=ixN_seq e
  exact ⟨j,h1,h,h2,h3,h4⟩
def PlainIx (b:Expr):Prop:=∀ o i,subscripted b false o i=operate [o,i] (getItem o i)
def IxR (X:Cx) (r:R2):Prop:=
 ∀ (value slice:Expr) (pins:List (Addr×Obj)) (s:Shared) (σ:St) (H:Hp) (x y:V) (v u:Value) (Q:VK),Inv X pins σ H s->RelV x v->RelV y u->r x y H Q ->
  subscripted slice false v u=operate [v,u] (getItem v u)->wpAny (model X.prog X.w) X.A (subscriptTail value slice v u) (EP X pins σ Q) X.xe s
def MtR (X:Cx) (id:String) (r:V->List V->Hp->VK->Prop):Prop:=
 ∀ (pins:List (Addr×Obj)) (s:Shared) (σ:St) (H:Hp) (x:V) (xs:List V) (v:Value) (us:List Value) (Q:VK),Inv X pins σ H s->RelV x v->Vals xs us->r x xs H Q ->
  wpAny (model X.prog X.w) X.A (call (.builtin id) (v::us)) (EP X pins σ Q) X.xe s
section
variable {X:Cx} {a b:Expr} {ta tb:TE} {pos:Pos}
theorem IxR.or {r r':R2} (h:IxR X r) (h':IxR X r'):IxR X (fun x y H Q=>r x y H Q\/r' x y H Q):=by
 intro value slice pins s σ H x y v u Q I rx ry q hs
 rcases q with q | q
 ·exact h value slice pins s σ H x y v u Q I rx ry q hs
 ·exact h' value slice pins s σ H x y v u Q I rx ry q hs
theorem pe_ix {r:R2} (hr:IxR X r) (ha:PE X a ta) (hb:PE X b tb) (hs:PlainIx b):PE X (.Subscript a b pos) (tOp r ta tb):=by
 intro pins s σ H Q I h
 exact Subscript_ (binT ha hb I h fun v u s2 x y H2 I2 rx ry q=>hr a b pins s2 σ H2 x y v u Q I2 rx ry q (hs _ _))
def rIxL (K:Frag):R2:=fun x y H Q=>∃ p xs i v,x=.ref p/\y=.int i/\SqL K H p xs/\atI xs i=some v/\Q v H
def rIxT (K:Frag):R2:=fun x y H Q=>∃ p xs i v,x=.ref p/\y=.int i/\SqT K H p xs/\atI xs i=some v/\Q v H
def rIxS:R2:=fun x y H Q=>∃ z i c,x=.str z/\y=.int i/\z.length<=sizeLine/\atI z.cps.toList i=some c/\Q (.str ⟨#[c]⟩) H
theorem ix_list:IxR X (rIxL X.K):=by
 intro value slice pins s σ H x y v u Q I rx ry h hs
 obtain ⟨p,xs,i,z,rfl,rfl,hq,he,q⟩:=h
 cases rx
 obtain ⟨t,rfl⟩:=ry
 obtain ⟨its,r,pl,hz⟩:=I.list hq
 obtain ⟨j,h1,h2,h3,h4,h5⟩:=atI_get he
 obtain ⟨w,ew,rw'⟩:=r.get h2
 have hl:=r.length
 have hn:=line63
 have fin:EP X pins σ Q w s:=⟨z,H,I,rw',q⟩
 by_cases h0:0<=i
 ·have hj:i.toNat=j:=by
   rw [seqIndex_of h0 h5] at h1
   exact Option.some.inj h1
  exact item_listR pl.isList h0 (by omega) (by rw [hj]; simpa using ew) fin hs
 ·have hj:(i+(its.toArray.size:Int)).toNat=j:=by
   rw [seqIndex_neg (by omega) h4] at h1
   rw [List.size_toArray,<- hl]
   exact Option.some.inj h1
  exact subscriptTail_builtinR (x:=w) pl.isList.typeIs slot_list_getitem.lookup
   (wpAny_getItem_list_neg (Q:=fun r s'=>r=w/\EP X pins σ Q r s') pl.isList (by omega) (by rw [List.size_toArray] <;> omega) (by omega) (by rw [hj]; simpa using ew) ⟨rfl,fin⟩) hs
theorem ix_tup:IxR X (rIxT X.K):=by
 intro value slice pins s σ H x y v u Q I rx ry h hs
 obtain ⟨p,xs,i,z,rfl,rfl,hq,he,q⟩:=h
 cases rx
 obtain ⟨t,rfl⟩:=ry
 obtain ⟨its,r,pl,hz⟩:=I.tuple hq
 obtain ⟨j,h1,h2,h3,h4,h5⟩:=atI_get he
 obtain ⟨w,ew,rw'⟩:=r.get h2
 have hl:=r.length
 have hn:=line63
 have fin:EP X pins σ Q w s:=⟨z,H,I,rw',q⟩
 exact subscriptTail_builtinR (x:=w) pl.typeIs slot_tuple_getitem.lookup
  (getItem_tuple (j:=j) (Q:=fun r s'=>r=w/\EP X pins σ Q r s') pl (by omega) (by omega) (by rw [List.size_toArray,<- hl]; exact h1) (by simpa using ew) ⟨rfl,fin⟩) hs
theorem ix_str:IxR X rIxS:=by
 intro value slice pins s σ H x y v u Q I rx ry h hs
 obtain ⟨z,i,c,rfl,rfl,hz,he,q⟩:=h
 obtain ⟨t,rfl⟩:=rx
 obtain ⟨t',rfl⟩:=ry
 obtain ⟨j,h1,h2,h3,h4,h5⟩:=atI_get he
 have hl:z.cps.toList.length=z.length:=by simp [Str.length]
 rw [hl] at h1 h4 h5
 have hn:=line63
 exact tail_any (typeIs_str s z t) slot_str_getitem.lookup (getItem_str (c:=c) (by
  have e1:decide (i < -(2^63:Int))=false:=decide_eq_false (by omega)
  have e2:decide (i≥2^63)=false:=decide_eq_false (by omega)
  rw [e1,e2,Bool.or_false]) (by rw [h1]; simpa using h2) ⟨.str ⟨#[c]⟩,H,I.tok _,⟨_,rfl⟩,q⟩) hs
def rIx (K:Frag):R2:=fun x y H Q=>rIxL K x y H Q\/rIxT K x y H Q\/rIxS x y H Q
theorem ix_seq:IxR X (rIx X.K):=ix_list.or (ix_tup.or ix_str)
theorem mapSeq_set (its:List Value) (n j:Nat) (u:Value):Obj.mapSeq (·.setIfInBounds j u) { cls:=.type "list",data:=.seq its.toArray n }={ cls:=.type "list",data:=.seq (its.set j u).toArray n }:=by
 simp [Obj.mapSeq]
theorem Inv.lst {pins:List (Addr×Obj)} {σ:St} {H:Hp} {s:Shared} {p:Addr} {xs:List V} (I:Inv X pins σ H s) (h:H p=some (.lst xs)) :
  ∃ (its:List Value) (n:Nat),Vals xs its/\s.heap.get? p=some { cls:=.type "list",data:=.seq its.toArray n }/\xs.length<=sizeLine:=by
 obtain ⟨z,its,n,r,e⟩:=I.hok p _ h
 exact ⟨its,n,r,e,z⟩
theorem Inv.lstUpd {pins:List (Addr×Obj)} {σ:St} {H:Hp} {s:Shared} {p:Addr} {xs ys:List V} {its its':List Value} {n n':Nat} {f:Obj->Obj} (I:Inv X pins σ H s) (h:H p=some (.lst xs))
  (ho:s.heap.get? p=some { cls:=.type "list",data:=.seq its.toArray n }) (hf:f { cls:=.type "list",data:=.seq its.toArray n }={ cls:=.type "list",data:=.seq its'.toArray n' }) (r:Vals ys its') (hz:ys.length<=sizeLine) (t:Nat) :
  Inv X pins σ (upd H p (.lst ys)) { s with heap:=s.heap.update p f,toks:=t }:=by
 have e:(s.heap.update p f).get? p=some { cls:=.type "list",data:=.seq its'.toArray n' }:=by
  rw [Heap.get?_update_self f ho (by rw [hf] <;> rfl),hf]
 refine I.write (x:=p) (e:=p) (by rw [h]; trivial) (.inl rfl) (fun b u hb q=>(Heap.get?_update_other _ _ (Ne.symm hb)).trans q) ⟨_,e⟩ ?_
 exact ⟨hz,its',n',r,e⟩
def rSetL:V->V->V->Hp->(Hp->Prop)->Prop:=fun o i v H Q=>∃ p xs k j,o=.ref p/\i=.int k/\H p=some (.lst xs)/\ixN xs.length k=some j/\Q (upd H p (.lst (xs.set j v)))
theorem set_list:PSet X rSetL:=by
 intro pins s σ H o i v ov iv u Q I ro ri rv h
 obtain ⟨p,xs,k,j,rfl,rfl,hp,hj,q⟩:=h
 cases ro
 obtain ⟨t,rfl⟩:=ri
 obtain ⟨its,n,r,ho,hz⟩:=I.lst hp
 obtain ⟨h1,h2,h3,h4⟩:=ixN_seq hj
 have hl:=r.length
 have hn:=line63
 have I':Inv X pins σ (upd H p (.lst (xs.set j v))) { s with heap:=s.heap.update p (Obj.mapSeq (·.setIfInBounds j u)) }:=
  I.lstUpd hp ho (mapSeq_set its n j u) (r.set rv j) (by rw [List.length_set]; exact hz) s.toks
 by_cases h0:0<=k
 ·have hk:k.toNat=j:=by
   rw [seqIndex_of h0 h4] at h1
   exact Option.some.inj h1
  exact PySem.W.ki_setAt ho h0 (by omega) (by rw [List.size_toArray,<- hl]; exact h4) (by rw [hk]; exact ⟨_,I',q⟩)
 ·have hk:(k+(its.toArray.size:Int)).toNat=j:=by
   rw [seqIndex_neg (by omega) h3] at h1
   rw [List.size_toArray,<- hl]
   exact Option.some.inj h1
  exact PySem.W.ki_setBack ho (by omega) (by rw [List.size_toArray,<- hl]; exact h3) (by omega) (by rw [hk]; exact ⟨_,I',q⟩)
theorem slice_bounds (lo hi:Option Int) (n:Nat):(sliceBounds lo hi none n).1=((HT.sIx n 0 lo:Nat):Int)/\(sliceBounds lo hi none n).2.1=((HT.sIx n n hi:Nat):Int)/\(sliceBounds lo hi none n).2.2=1:=by
 refine ⟨?_,?_,rfl⟩
 ·cases lo with
  | none=>simp [sliceBounds,HT.sIx]
  | some i=>
   simp only [sliceBounds,HT.sIx,Option.getD_none,show (1:Int)>0 by decide,if_true]
   by_cases h:i<0
   ·simp only [h,if_true] <;> omega
   ·simp only [h,if_false] <;> omega
 ·cases hi with
  | none=>simp [sliceBounds,HT.sIx]
  | some i=>
   simp only [sliceBounds,HT.sIx,Option.getD_none,show (1:Int)>0 by decide,if_true]
   by_cases h:i<0
   ·simp only [h,if_true] <;> omega
   ·simp only [h,if_false] <;> omega
theorem slicePick_cut (its:List Value) (lo hi:Option Int):slicePick its.toArray lo hi none=((its.drop (HT.sIx its.length 0 lo)).take (HT.sIx its.length its.length hi-HT.sIx its.length 0 lo)).toArray:=by
 obtain ⟨h1,h2,h3⟩:=slice_bounds lo hi its.toArray.size
 unfold slicePick
 rw [h1,h2,h3]
 simp only [sliceRange_one,pick_run,List.size_toArray] <;> rfl
def rSlL (K:Frag):V->Option Int->Option Int->Hp->VK->Prop:=fun x lo hi H Q=>∃ a xs,x=.ref a/\SqL K H a xs/\∀ p,H p=none->Q (.ref p) (upd H p (.lst (cutV xs lo hi)))
theorem sl_list:SlR X (rSlL X.K):=by
 intro pins s σ H x v vl vu lo hi sl Q I rx hs pl pu h
 obtain ⟨a,xs,rfl,hx,q⟩:=h
 cases rx
 obtain ⟨its,r,ht,hz⟩:=I.list hx
 have hlen:=r.length
 refine ⟨"list",_,slot_list_getitem.lookup,ht.isList.typeIs,?_⟩
 refine wpAny_getItem_list_slice ht.isList hs pl pu .none (by simp) ?_ (by rw [List.size_toArray] <;> omega)
 rw [slicePick_cut,<- hlen]
 refine ⟨.ref s.heap.objs.size,_,I.laid (t':=s.toks) (o:=.lst (cutV xs lo hi)) (fun b ob q=>Heap.get?_push_of_some _ q) (Nat.le_refl _) ?_,rfl,q _ (I.hok.fresh (Nat.le_refl _))⟩
 exact ⟨Nat.le_trans (cutV_length xs lo hi) hz,_,0,(r.drop (HT.sIx xs.length 0 lo)).take (HT.sIx xs.length xs.length hi-HT.sIx xs.length 0 lo),Heap.get?_push_size _ rfl⟩
theorem call_len_seq:CallR X (.builtin "len") (fun xs H Q=>∃ p ys,xs = [.ref p]/\(SqL X.K H p ys\/SqT X.K H p ys)/\Q (.int ys.length) H):=by
 intro pins s σ H xs us Q I r h
 obtain ⟨p,ys,rfl,hq,q⟩:=h
 obtain ⟨u,rfl,rx⟩:=vals1 r
 cases rx
 have hn:=line63
 rcases hq with hq | hq
 ·obtain ⟨its,r',pl,hz⟩:=I.list hq
  have hlen:=r'.length
  exact Calls.call_len_list pl.isList (by simp only [List.size_toArray] <;> omega) ⟨.int ys.length,H,I.tok _,⟨s.toks+1,by rw [List.size_toArray,hlen]⟩,q⟩
 ·obtain ⟨its,r',pl,hz⟩:=I.tuple hq
  have hlen:=r'.length
  exact len_tuple pl (by simp only [List.size_toArray] <;> omega) ⟨.int ys.length,H,I.tok _,⟨s.toks+1,by rw [List.size_toArray,hlen]⟩,q⟩
theorem call_list_of:CallR X (.type "list") (fun xs H Q=>∃ p ys,xs = [.ref p]/\(SqL X.K H p ys\/SqT X.K H p ys)/\∀ l,H l=none->Q (.ref l) (upd H l (.lst ys))):=by
 intro pins s σ H xs us Q I r h
 obtain ⟨p,ys,rfl,hq,q⟩:=h
 obtain ⟨u,rfl,rx⟩:=vals1 r
 cases rx
 have fin:∀ (its:List Value),Vals ys its->ys.length<=sizeLine->∀ (h':Heap) (c':Nat),(∀ b o',s.heap.get? b=some o'->h'.get? b=some o') ->
   h'.get? s.heap.objs.size=some { cls:=.type "list",dict:=none,data:=.seq its.toArray c',slots:=#[] }->EP X pins σ Q (.ref s.heap.objs.size) { s with heap:=h' }:=fun its r' hz h' c' kp e=>
  ⟨.ref s.heap.objs.size,_,I.laid (t':=s.toks) kp (Nat.le_refl _) (show ObjOk X.prog X.w _ h' _ (.lst ys) from ⟨hz,its,c',r',e⟩),rfl,q _ (I.hok.fresh (Nat.le_refl _))⟩
 rcases hq with hq | hq
 ·obtain ⟨its,r',pl,hz⟩:=I.list hq
  have hlen:=r'.length
  obtain ⟨o,ho,hc,n,hd⟩:=pl.isList
  exact call_list_seq p (.inl rfl) ho hc hd (fun h' c' kp e=>fin its r' hz h' c' kp e) (by simp only [List.size_toArray] <;> omega)
 ·obtain ⟨its,r',pl,hz⟩:=I.tuple hq
  have hlen:=r'.length
  obtain ⟨o,ho,hc,n,hd⟩:=pl
  exact call_list_seq p (.inr rfl) ho hc hd (fun h' c' kp e=>fin its r' hz h' c' kp e) (by simp only [List.size_toArray] <;> omega)
theorem call_tuple_of:CallR X (.type "tuple") (fun xs H Q=>∃ p ys,xs = [.ref p]/\((SqL X.K H p ys/\∀ l,H l=none->Q (.ref l) (upd H l (.tup ys)))\/(SqT X.K H p ys/\Q (.ref p) H))):=by
 intro pins s σ H xs us Q I r h
 obtain ⟨p,ys,rfl,h⟩:=h
 obtain ⟨u,rfl,rx⟩:=vals1 r
 cases rx
 rcases h with ⟨hq,q⟩ | ⟨hq,q⟩
 ·obtain ⟨its,r',pl,hz⟩:=I.list hq
  have hlen:=r'.length
  refine call_tuple_list pl.isList (fun h' kp=>?_) (by simp only [List.size_toArray] <;> omega)
  have I1:Inv X pins σ H { s with heap:=h' }:=I.kept (t':=s.toks) kp
  have I2:Inv X pins σ (upd H h'.objs.size (.tup ys)) { s with heap:=h'.push { cls:=.type "tuple",data:=.seq its.toArray } }:=
   I1.laid (t':=s.toks) (fun b o e=>Heap.get?_push_of_some _ e) (Nat.le_refl _) (show ObjOk X.prog X.w _ _ _ (.tup ys) from ⟨hz,its,r',IsTup.new _ _⟩)
  exact ⟨.ref h'.objs.size,_,I2,rfl,q _ (I1.hok.fresh (Nat.le_refl _))⟩
 ·obtain ⟨its,r',pl,hz⟩:=I.tuple hq
  exact call_tuple_same pl ⟨.ref p,H,I,rfl,q⟩
def tyV (K:Frag) (T:String) (x:V) (H:Hp):Prop:=match x with
 | .str _=>T = "str"
 | .int _=>T = "int"
 | .ref p=>(T = "list" /\ ∃ xs,SqL K H p xs)\/(T = "tuple" /\ ∃ o,K.lookup p=some o/\o.cls=.type "tuple" /\ o.dict=none) \/
   (T = "dict" /\ ((∃ kvs,H p=some (.dK kvs))\/∃ kvs,H p=some (.dT kvs)))\/(T = "set" /\ ∃ S n,H p=some (.set S n))
 | _=>False
theorem tyV_is {pins:List (Addr×Obj)} {σ:St} {H:Hp} {s:Shared} {T:String} {x:V} {v:Value} (I:Inv X pins σ H s) (r:RelV x v) (ty:tyV X.K T x H) :
  s.TypeIs v T/\∀ a,v=.ref a->∃ ob,s.heap.get? a=some ob/\ob.dict=none:=by
 cases x with
 | str z=>
  obtain ⟨t,rfl⟩:=r
  cases (show T = "str" from ty)
  exact ⟨typeIs_str s z t,fun _ e=>nomatch e⟩
 | int i=>
  obtain ⟨t,rfl⟩:=r
  cases (show T = "int" from ty)
  exact ⟨typeIs_int s i t,fun _ e=>nomatch e⟩
 | ref p=>
  cases r
  rcases ty with ⟨rfl,xs,hq⟩ | ⟨rfl,o,hk,hc,hd⟩ | ⟨rfl,hk⟩ | ⟨rfl,S,n,hk⟩
  ·obtain ⟨its,_,pl,_⟩:=I.list hq
   refine ⟨pl.isList.typeIs,fun a e=>?_⟩
   cases e
   obtain ⟨o,n,e,c,hd,_⟩:=pl
   exact ⟨o,e,hd⟩
  ·refine ⟨⟨o,I.kIn p o hk,hc⟩,fun a e=>?_⟩
   cases e
   exact ⟨o,I.kIn _ o hk,hd⟩
  ·have z:∃ o,s.heap.get? p=some o/\o.ExactDict:=by
    rcases hk with ⟨kvs,hk⟩ | ⟨kvs,hk⟩
    ·obtain ⟨_,_,_,_,o,_,_,e,ex,_⟩:=I.hok p _ hk
     exact ⟨o,e,ex⟩
    ·obtain ⟨_,_,_,_,o,_,_,e,ex,_⟩:=I.hok p _ hk
     exact ⟨o,e,ex⟩
   obtain ⟨o,e,ex⟩:=z
   refine ⟨⟨o,e,ex.1⟩,fun a e2=>?_⟩
   cases e2
   exact ⟨o,e,ex.2.1⟩
  ·obtain ⟨o,_,_,_,e,ex,_⟩:=I.hok p _ hk
   refine ⟨⟨o,e,ex.1⟩,fun a e2=>?_⟩
   cases e2
   exact ⟨o,e,ex.2.1⟩
 | _=>exact False.elim ty
variable {o e:Expr} {es:List Expr} {to:TE} {t:TA} {name:Str} {apos cpos:Pos} {T id:String} {r:V->List V->Hp->VK->Prop}
end
end L2
namespace L2
open PySem PySem.Spec PyProof.Rows
def MtM (X:Cx) (id:String) (r:V->List V->Hp->VK->Prop):Prop:=
 ∀ (pins:List (Addr×Obj)) (s:Shared) (σ:St) (H:Hp) (x:V) (xs:List V) (v:Value) (us:List Value) (Q:VK),Inv X pins σ H s->RelV x v->Vals xs us->r x xs H Q ->
  wpAny (model X.prog X.w) X.A (call (.builtin id) (v::us)) (EP X pins σ Q) X.xe s
theorem Vals.one:∀ {x:V} {us:List Value},Vals [x] us->∃ u,us = [u]/\RelV x u:=by
 intro x us r
 cases r with
 | cons r t=>cases t; exact ⟨_,rfl,r⟩
section
variable {X:Cx} {pins:List (Addr×Obj)} {σ:St} {H:Hp} {s:Shared} {l b:Addr} {xs ys zs:List V}
theorem Inv.lset {its its':List Value} {n:Nat} {f:Array Value->Array Value} {t':Nat} (I:Inv X pins σ H s) (hH:H l=some (.lst xs))
  (e:s.heap.get? l=some { cls:=.type "list",data:=.seq its.toArray n }) (hf:f its.toArray=its'.toArray) (hv:Vals ys its') (hz:ys.length<=sizeLine) :
  Inv X pins σ (upd H l (.lst ys)) { s with heap:=s.heap.update l (Obj.mapSeq f),toks:=t' }:=by
 have q:=PySem.IsL.update e f
 rw [hf] at q
 refine I.write (x:=l) (e:=l) (by rw [hH]; exact trivial) (.inl rfl) (fun b' u hb hu=>(Heap.get?_update_other s.heap (Obj.mapSeq f) (Ne.symm hb)).trans hu) ⟨_,q⟩ ?_
 exact ⟨hz,its',_,hv,q⟩
theorem Inv.lnew {its:List Value} {t':Nat} (I:Inv X pins σ H s) (hv:Vals ys its) (hz:ys.length<=sizeLine) :
  Inv X pins σ (upd H s.heap.objs.size (.lst ys)) { s with heap:=s.heap.push { cls:=.type "list",data:=.seq its.toArray },toks:=t' }:=
 I.laid (fun _ _ q=>Heap.get?_push_of_some _ q) (Nat.le_refl _) ⟨hz,its,0,hv,Heap.get?_push_size _ rfl⟩
theorem Inv.fresh (I:Inv X pins σ H s):H s.heap.objs.size=none:=I.hok.fresh (Nat.le_refl _)
theorem Inv.lstM (I:Inv X pins σ H s) (hH:H l=some (.lst xs)):xs.length<=sizeLine/\∃ (its:List Value) (n:Nat),Vals xs its/\xs.length=its.length/\s.heap.get? l=some { cls:=.type "list",data:=.seq its.toArray n }:=by
 obtain ⟨z,its,n,r,e⟩:=I.hok l _ hH
 exact ⟨z,its,n,r,r.length,e⟩
end
section
variable {X:Cx}
def rAppend:V->List V->Hp->VK->Prop:=fun x vs H Q=>∃ l xs y,x=.ref l/\vs = [y]/\H l=some (.lst xs)/\xs.length<sizeLine/\Q .non (upd H l (.lst (xs ++ [y])))
theorem mt_append:MtM X "list.append" rAppend:=by
 intro pins s σ H x vs v us Q I rx rv h
 obtain ⟨l,xs,y,rfl,rfl,hH,hz,q⟩:=h
 cases rx
 obtain ⟨u,rfl,ru⟩:=rv.one
 obtain ⟨z,its,n,r,hl,e⟩:=I.lstM hH
 refine call_meets F.slot_list_append ⟨_,e,rfl⟩ F.entry_list_append (F.args_list_append_2 _ _) (PySem.list_append l its.toArray n u (by rw [List.size_toArray]; omega)) ⟨e,?_⟩
 refine ⟨.non,_,I.lset (its':=its ++ [u]) hH e (by simp) (r.append (.cons ru .nil)) ?_,rfl,q⟩
 rw [List.length_append,List.length_singleton]
 omega
def rCat:R2:=fun x y H Q=>∃ l b xs zs,x=.ref l/\y=.ref b/\H l=some (.lst xs)/\H b=some (.lst zs)/\xs.length+zs.length<=sizeLine/\∀ p,H p=none->Q (.ref p) (upd H p (.lst (xs++zs)))
theorem op_cat:OpR X (binaryOp .Add) rCat:=by
 intro pins s σ H x y v u Q I rx ry h
 obtain ⟨l,b,xs,zs,rfl,rfl,hH,hB,hz,q⟩:=h
 cases rx
 cases ry
 obtain ⟨z,its,n,r,hl,e⟩:=I.lstM hH
 obtain ⟨z2,its2,n2,r2,hl2,e2⟩:=I.lstM hB
 refine PySem.P.add_list e e2 ?_ (by rw [List.size_toArray,List.size_toArray]; omega)
 have ea:its.toArray++its2.toArray=(its++its2).toArray:=by simp
 rw [ea]
 exact ⟨.ref _,_,I.lnew (t':=s.toks) (r.append r2) (by rw [List.length_append]; omega),rfl,q _ I.fresh⟩
end
section
variable {prog:Program} {w:World} {A:Around} {E:Value->Shared->Prop} {s:Shared}
end
section
variable {X:Cx}
end
end L2
namespace Att
open PySem PySem.W PySem.Calls PyProof.Rows
theorem ints_of_wellAll {P:Params} {h:Heap}:∀ (ns:List Int) (vs:List Value),WellAll P h vs (ns.map WData.int)->IntsAre vs ns:=by
 intro ns
 induction ns with
 | nil=>
  intro vs w
  rw [List.map_nil] at w
  cases w
  exact .nil
 | cons n ns ih=>
  intro vs w
  rw [List.map_cons] at w
  cases w with
  | cons a b=>
   cases a
   exact .cons _ _ (ih _ b)
theorem script_of {l:OpenLaw} {n:Nat} (hn:l.most=some n) {P:Params} {h:Heap} {args:List WData} {vals:List Value}
  (hpre:l.row.toRowW.claim.pre args=true) (hwl:WellAll P h vals args) :
  ∃ a vs ns,vals = [Value.ref a]/\args = [WData.list (ns.map WData.int)]/\h.get? a=some { cls:=.type "list",data:=.seq vs.toArray }/\IntsAre vs ns/\ns.length<=n:=by
 have hsh:WShape.hasAll [] args [.list .int]=true:=(pre_splitW hpre).1
 have hc:l.pre.holds [] { args:=args }=true:=(pre_splitW hpre).2
 obtain ⟨d,r,rfl,h1,h2⟩:=hasAllW_cons hsh
 obtain rfl:=hasAllW_nil h2
 obtain ⟨xs,rfl,h3⟩:=hasW_list h1
 obtain ⟨ns,rfl⟩:=items_int h3
 have hlen:ns.length<=n:=by
  unfold OpenLaw.pre at hc
  have h4:(WTm.not (.lt (.lit (.int (n:Int))) (.len (.arg 0)))).holds [] { args:=[.list (ns.map .int)] }=true:=by
   have h4:=(holds_andW hc).1
   rw [hn] at h4
   exact h4
  have h5:=condW_of h4 (w_not (w_lt w_lit (w_len_list (w_arg rfl))))
  rw [List.length_map] at h5
  refine Nat.le_of_not_lt fun q=>?_
  have q':(n:Int)<((ns.length:Nat):Int):=by omega
  first
   | (rw [decide_eq_true q'] at h5; exact absurd h5 (by decide))
   | (simp at h5; omega)
 cases hwl with
 | cons w1 w2=>
  cases w2
  cases w1 with
  | list ho hall=>exact ⟨_,_,ns,rfl,rfl,ho,ints_of_wellAll ns _ hall,hlen⟩
theorem post_true (l:OpenLaw) (args:List WData):l.row.toRowW.claim.post args (.bool true) args=true:=
 postW_of (r:=l.row.toRowW) (X:=(true == true))
  (show WShape.has [] (.bool true) .bool=true by first | rfl | decide | simp [WShape.has,WShape.arms,WShape.armsAll])
  (show (WTm.eq .res (.lit (.bool true))).value [] { args:=args,res:=some (.bool true),after:=args }=some (.bool (true == true)) from w_eq_bool (w_res rfl) w_lit) rfl
theorem attach_call {l:OpenLaw} {n:Nat} {q:Program} {loose:List Str} {XP:(Str->Option Value)->Heap->Prop} {YP:World->Heap->Prop} {d:DefRec}
  (hn:l.most=some n) (hdf:d.params.defaults = [])
  (call:∀ (w:World) (s₀ s₁:Shared) (mg mb:Str->Option Value) (fa:Addr) (o:Obj) (pm cd doc:Value) (a:Addr) (vs:List Value) (ns:List Int),
   Ground q loose [] XP w s₀ mg mb s₁.heap->YP w s₁.heap ->
   s₁.heap.get? fa=some o->o.data=.func (docDef d.name d.params d.body d.scope pm cd doc)->s₁.heap.CodeRec cd d.name->mg d.name=some (.ref fa) ->
   s₁.heap.get? a=some { cls:=.type "list",data:=.seq vs.toArray }->IntsAre vs ns->ns.length<=n->s₁.gens=#[] ->
   codeAny (model l.prog w) callerA (.call (.ref fa) ⟨[.ref a],[]⟩) (fun r s'=>r=.ok (.ret (.bool true))/\OldK s₁.heap s'.heap/\s'.os=s₁.os/\AllBare s'.gens) s₁) :
  WalkO q loose XP YP l.row.toRowW d [] (fun f vs=>PySem.call f vs):=by
 intro w s₀ s₁ mg mb G Y fa o pm cd doc dV kV ho hd hcd hD hmg hg args vals as hpre hlay hrd hwl hlo
 obtain rfl:dV=.none:=Dflts.none hD hdf
 obtain rfl:kV=.none:=Dflts.noKw hD
 obtain ⟨a,vs,ns,rfl,rfl,hobj,hints,hlen⟩:=script_of hn hpre hwl
 refine enter_call (codeAny_mono (call w s₀ s₁ mg mb fa o pm cd doc a vs ns G Y ho (fd_plain hd) hcd hmg hobj hints hlen hg) fun r s' hq=>?_)
 obtain ⟨rfl,h2,h3,h4⟩:=hq
 exact ⟨.inl ⟨.bool true,.bool true,[],rfl,fun _=>rfl,.bool true,post_true l _,fun _=>⟨List.Pairwise.nil,fun _ hm=>(nomatch hm)⟩⟩,h2,h3,h4⟩
section
variable {prog:Program} {w:World} {A:Around} {E:Value->Shared->Prop} {s:Shared} {K:Frag}
end
end Att
namespace L2
open PySem PySem.Spec PyProof.Rows
theorem vals_ints:∀ {vs:List Value} {ns:List Int},IntsAre vs ns->Vals (ns.map V.int) vs:=by
 intro vs ns h
 induction h with
 | nil=>exact .nil
 | cons n t h ih=>exact .cons ⟨t,rfl⟩ ih
def Only (H:Hp):Prop:=∀ b,H b=none\/∃ o xs,H b=some (.frz o (.lst xs))
theorem law_call {P:Program} {w:World} {K:Frag} {mg mb:Str->Option Value} {CX:CXT} {k:Nat} {fa a:Addr} {fd:FuncData} {x:Str} {sp:Sp} {s₁:Shared} {vs:List Value} {ns:List Int}
  (KX:K.In s₁.heap) (hns:s₁.heap.Ns mainGlobals mg) (hb:s₁.heap.Ns builtinsNs mb) (hbb:∀ x:Str,x ≠ "__name__" -> mb x=bootBuiltins x) (hlim:s₁.heap.NoLimit) (hg:s₁.gens=#[])
  (ha:s₁.heap.get? a=some { cls:=.type "list",data:=.seq vs.toArray }) (hi:IntsAre vs ns) (hl:ns.length<=sizeLine) (hr:Room k callerA)
  (F:∀ base:Heap,K.In base->base.Ns mainGlobals mg->FnOk P w K mg base CX k fa fd [x] sp) (hbind:∀ (s:Shared) (u:Value),BindsTo s fd ⟨[u],[]⟩ [(x,u)])
  (hsp:∀ H:Hp,Only H->SqL K H a (ns.map V.int)->sp [.ref a] H (fun v _=>v=.bl true) fun _ _ _=>False)
  (hCX:∀ H e s',CX [] H s₁ (fun _ _ _=>False) e s'->False) :
  codeAny (model P w) callerA (.call (.ref fa) ⟨[.ref a],[]⟩) (fun r s'=>r=.ok (.ret (.bool true))/\OldK s₁.heap s'.heap/\s'.os=s₁.os/\AllBare s'.gens) s₁:=by
 have rv:=vals_ints hi
 have lenV:=hi.length
 -- from an abstract heap in which nothing but the script may be tracked
 have core:∀ H:Hp,Only H->SqL K H a (ns.map V.int)->HOk P w H s₁.heap->(∀ b,H b≠none->b=a)->(H a≠none->K.lookup a=none) ->
   codeAny (model P w) callerA (.call (.ref fa) ⟨[.ref a],[]⟩) (fun r s'=>r=.ok (.ret (.bool true))/\OldK s₁.heap s'.heap/\s'.os=s₁.os/\AllBare s'.gens) s₁:=by
  intro H hO hS hok hA hK
  have base_of:∀ {b:Addr} {o:Obj},s₁.heap.get? b=some o->H b=none->(hidT s₁.heap H).get? b=some o:=fun e n=>hidT_get e n
  have noA:∀ {b:Addr} {o:Obj} {es:Array DictEntry} {ep:Nat},s₁.heap.get? b=some o->o.data=.dict es ep->H b=none:=fun {b o es ep} e d=>by
   cases q:H b with
   | none=>rfl
   | some u=>
    have e':b=a:=hA b (by rw [q]; simp)
    subst e'
    rw [ha] at e; cases e
    have d':Data.seq vs.toArray _=Data.dict es ep:=d
    cases d'
  have nsK:∀ {b:Addr} {m:Str->Option Value},s₁.heap.Ns b m->(hidT s₁.heap H).Ns b m:=fun {b m} zz46=>by obtain ⟨o,es,ep,e,d,r⟩:=zz46; exact ⟨o,es,ep,base_of e (noA e d),d,r⟩
  have hKb:K.In (hidT s₁.heap H):=fun b o e=>base_of (KX b o e) (by
   cases q:H b with
   | none=>rfl
   | some u=>
    have e':b=a:=hA b (by rw [q]; simp)
    subst e'
    rw [hK (by rw [q]; simp)] at e; cases e)
  have hM:Mod K mg (hidT s₁.heap H):=⟨hKb,nsK hns,⟨mb,nsK hb,hbb⟩,let ⟨mc,h1,h2⟩:=hlim; ⟨mc,nsK h1,h2⟩⟩
  have e0:Env0 P w K mg (hidT s₁.heap H) callerA [] s₁ H:=⟨rfl,hM,fun b o e=>of_hidT e,Nat.le_of_eq (hidT_size _ _),trivial,fun b hb=>absurd (show b∈([]:List Addr) from hb) (by simp),hok,.of_eq hg⟩
  refine codeAny_mono ((F _ hKb (nsK hns)).run callerA [] s₁ H ⟨[.ref a],[]⟩ [.ref a] [.ref a] _ _ hr e0 (hbind s₁ (.ref a)) (.cons rfl .nil) (hsp H hO hS)) fun r s' h=>?_
  cases r with
  | error e=>exact (hCX H e s' h).elim
  | ok fl=>
   cases fl with
   | next=>exact False.elim h
   | brk=>exact False.elim h
   | cont=>exact False.elim h
   | ret u=>
    obtain ⟨v,H',os,bare,un,hok',r',q⟩:=h
    have q':v=.bl true:=q
    subst q'
    obtain rfl:u=Value.bool true:=r'
    refine ⟨rfl,OldK.of_keep fun b o e=>?_,os,bare⟩
    cases q:H b with
    | none=>exact un.keep b o e q (by intro z; exact absurd (show b∈([]:List Addr) from z) (by simp)) (by simp)
    | some u=>
     rcases hO b with z | ⟨ob,xs,z⟩
     ·rw [q] at z; cases z
     ·have z2:=un.frzs b ob _ z
      obtain ⟨e1,_⟩:=hok b _ z
      obtain ⟨e2,_⟩:=hok' b _ z2
      rw [e] at e1; cases e1
      exact e2
 cases hk:K.lookup a with
 | some o=>
  -- the script is one of the module's own objects
  have e:=KX a o hk
  rw [ha] at e
  cases e
  refine core (fun _=>none) (fun _=>.inl rfl) (.inr ⟨_,vs.toArray,_,hk,rfl,rfl,rfl,by rw [List.size_toArray,lenV]; exact hl,by simpa using rv⟩) (fun b u z=>by have z':(none:Option HO)=some u:=z; cases z') (fun b z=>absurd rfl z) fun z=>absurd rfl z
 | none=>
  refine core (fun b=>if b=a then some (.frz { cls:=.type "list",data:=.seq vs.toArray } (.lst (ns.map V.int))) else none) (fun b=>?_) (.inl (.inr ⟨{ cls:=.type "list",data:=.seq vs.toArray },if_pos rfl⟩)) (fun b u z=>?_) (fun b z=>?_) fun _=>hk
  ·by_cases hb:b=a
   ·exact .inr ⟨_,_,if_pos hb⟩
   ·exact .inl (if_neg hb)
  ·by_cases hb:b=a
   ·have z':=(if_pos hb).symm.trans z
    cases z'
    subst hb
    exact ⟨ha,by rw [List.length_map]; exact hl,vs,_,rv,ha⟩
   ·have z':=(if_neg hb).symm.trans z
    cases z'
  ·by_cases hb:b=a
   ·exact hb
   ·exact absurd (if_neg hb) z
end L2
namespace L2
open PySem PySem.Spec PyProof.Rows
theorem walk_of {l:PySem.W.OpenLaw} {n k:Nat} {q:Program} {loose:List Str} {XP:(Str->Option Value)->Heap->Prop} {YP:World->Heap->Prop} {d:DefRec} {K:Params->Frag} {CX:World->CXT} {sp:World->Sp} {x:Str}
  (hn:l.most=some n) (hn2:n<=sizeLine) (hdf:d.params.defaults = []) (hr:Room k callerA)
  (hY:∀ (w:World) (h:Heap),YP w h->(K w.params).In h)
  (F:∀ (w:World) (mg:Str->Option Value) (fa:Addr) (h:Heap),(K w.params).In h->h.Ns mainGlobals mg->mg d.name=some (.ref fa) ->
   ∃ fd:FuncData,(∀ (s:Shared) (u:Value),BindsTo s fd ⟨[u],[]⟩ [(x,u)]) /\
    ∀ base:Heap,(K w.params).In base->base.Ns mainGlobals mg->FnOk l.prog w (K w.params) mg base (CX w) k fa fd [x] (sp w))
  (hsp:∀ (w:World) (H:Hp) (a:Addr) (ns:List Int),ns.length<=n->Only H->SqL (K w.params) H a (ns.map V.int)->sp w [.ref a] H (fun v _=>v=.bl true) fun _ _ _=>False)
  (hCX:∀ (w:World) (H:Hp) (s:Shared) (e:Value) (s':Shared),CX w [] H s (fun _ _ _=>False) e s'->False) :
  PySem.W.WalkO q loose XP YP l.row.toRowW d [] (fun f vs=>PySem.call f vs):=by
 refine Att.attach_call hn hdf fun w s₀ s₁ mg mb fa o pm cd doc a vs ns G Y ho hd hcd hmg hobj hints hlen hg=>?_
 have KX:=hY w _ Y
 obtain ⟨fd,hb,hF⟩:=F w mg fa _ KX G.T.g hmg
 exact law_call KX G.T.g G.T.b G.T.builtins G.T.nolimit hg hobj hints (Nat.le_trans hlen hn2) hr hF hb (fun H hO hS=>hsp w H a ns hlen hO hS) fun H e s'=>hCX w H s₁ e s'
theorem walk_ofK {l:PySem.W.OpenLaw} {n k:Nat} {q:Program} {loose:List Str} {XP:(Str->Option Value)->Heap->Prop} {YP:World->Heap->Prop} {d:DefRec} {K:Params->Frag} {CX:CXT} {sp:Frag->Sp} {x:Str}
  (hn:l.most=some n) (hn2:n<=sizeLine) (hdf:d.params.defaults = []) (hr:Room k callerA)
  (hY:∀ (w:World) (h:Heap),YP w h->(K w.params).In h)
  (F:∀ (w:World) (mg:Str->Option Value) (fa:Addr) (h:Heap),(K w.params).In h->h.Ns mainGlobals mg->mg d.name=some (.ref fa) ->
   ∃ fd:FuncData,(∀ (s:Shared) (u:Value),BindsTo s fd ⟨[u],[]⟩ [(x,u)]) /\
    ∀ base:Heap,(K w.params).In base->base.Ns mainGlobals mg->FnOk l.prog w (K w.params) mg base CX k fa fd [x] (sp (K w.params)))
  (hsp:∀ (K:Frag) (H:Hp) (a:Addr) (ns:List Int),ns.length<=n->Only H->SqL K H a (ns.map V.int)->sp K [.ref a] H (fun v _=>v=.bl true) fun _ _ _=>False)
  (hCX:∀ (H:Hp) (s:Shared) (e:Value) (s':Shared),CX [] H s (fun _ _ _=>False) e s'->False) :
  PySem.W.WalkO q loose XP YP l.row.toRowW d [] (fun f vs=>PySem.call f vs):=
 walk_of (K:=K) (CX:=fun _=>CX) (sp:=fun w=>sp (K w.params)) hn hn2 hdf hr hY F (fun w H a ns h1 h2 h3=>hsp (K w.params) H a ns h1 h2 h3) fun _ H s e s'=>hCX H s e s'
end L2
namespace L2
open PySem PySem.Spec PyProof.Rows
def defArgs (s:Stmt):Arguments:=match s with
 | .FunctionDef _ a _ _ _ _ _ _ _ _=>a
 | _=>{ posonlyargs:=[],args:=[],vararg:=none,kwonlyargs:=[],kw_defaults:=[],kwarg:=none,defaults:=[] }
def defBody (s:Stmt):List Stmt:=match s with
 | .FunctionDef _ _ b _ _ _ _ _ _ _=>b
 | _=>[]
def defScope (s:Stmt):Scope:=match s with
 | .FunctionDef _ _ _ _ _ _ sc _ _ _=>sc
 | _=>{ kind:=.function,names:=[],isGenerator:=false,isCoroutine:=false }
abbrev CX0:CXT:=fun _ _ _ _ _ _=>False
abbrev E0:XK:=fun _ _ _=>False
theorem pass0 {X:Cx}:Passes CX0 X E0:=fun _ _ _ _ _ _ _ h=>h.elim
structure Fun (K:Frag) (x qual:Str) (st:Stmt) (f:Addr) (fd:FuncData):Prop where
 ex:∃ (oc:Value) (od:Option Addr) (kV doc pm:Value) (an:Option Addr) (cdv ct:Value) (osl:Array (Option Value)),
  fd=PySem.W.fnOf x qual (defArgs st) (defBody st) (defScope st) .none kV doc pm an cdv ct/\K.lookup f=some ⟨oc,od,.func fd,osl⟩/\PySem.W.codeIn K cdv qual=true
 kp:PySem.W.keepIn K (.ref f)=true
section
variable {P:Program} {w:World} {K:Frag} {mg:Str->Option Value} {base:Heap}
theorem Fun.ok {x qual:Str} {st:Stmt} {f:Addr} {fd:FuncData} {N ps:List Str} {k:Nat} {sp:Sp} (F:Fun K x qual st f fd) (S:FnScope N ps (defScope st)) (len:∀ vs H Q E,sp vs H Q E->vs.length=ps.length)
  (hbody:∀ (cdv:Value) (A:Around) (outer:List Env) (s:Shared) (H:Hp) (vs:List V) (Q:VK) (E:XK),Room k (A.deeper (envOfC qual (defScope st) s.heap.objs.size f cdv))->sp vs H Q E ->
   ∃ t,PSs (cxOf CX0 P w K mg base N qual (defScope st) f cdv A outer s H E).nox (defBody st) t/\t { nx:=fun _ H'=>Q .non H',rt:=Q } (start N vs) H):FnOk P w K mg base CX0 (k+1) f fd ps sp:=by
 obtain ⟨oc,od,kV,doc,pm,an,cdv,ct,osl,rfl,lk,hcd⟩:=F.ex
 refine fn_of lk hcd S len fun A outer s H vs Q E hr hsp=>?_
 obtain ⟨t,h,q⟩:=hbody cdv A outer s H vs Q E hr hsp
 exact ⟨t,h.nox,q⟩
theorem Fun.binds {x qual:Str} {st:Stmt} {f:Addr} {fd:FuncData} {ps:List Str} (F:Fun K x qual st f fd)
  (h:∀ (kV doc pm:Value) (an:Option Addr) (cdv ct:Value) (us:List Value),us.length=ps.length->bindArgs (PySem.W.fnOf x qual (defArgs st) (defBody st) (defScope st) .none kV doc pm an cdv ct) ⟨us,[]⟩=pure (ps.zip us)):Binds K fd ps []:=by
 obtain ⟨oc,od,kV,doc,pm,an,cdv,ct,osl,rfl,lk,hcd⟩:=F.ex
 exact .all (h kV doc pm an cdv ct)
theorem fun_mk {x qual:Str} {st:Stmt} {f:Addr} {oc:Value} {od an:Option Addr} {osl:Array (Option Value)} {kV doc pm cdv ct:Value} (l:K.lookup f=some ⟨oc,od,.func (PySem.W.fnOf x qual (defArgs st) (defBody st) (defScope st) .none kV doc pm an cdv ct),osl⟩)
  (c:PySem.W.codeIn K cdv qual=true) (k:PySem.W.keepIn K (.ref f)=true):Fun K x qual st f (PySem.W.fnOf x qual (defArgs st) (defBody st) (defScope st) .none kV doc pm an cdv ct):=⟨⟨oc,od,kV,doc,pm,an,cdv,ct,osl,rfl,l,c⟩,k⟩
end
section
variable {X:Cx}
end
def Same (H H':Hp):Prop:=∀ b o,H b=some o->H' b=some o
theorem Same.refl (H:Hp):Same H H:=fun _ _ h=>h
theorem Same.trans {H H1 H2:Hp} (a:Same H H1) (b:Same H1 H2):Same H H2:=fun c o h=>b c o (a c o h)
theorem Same.free {H H':Hp} (e:Same H H') {l:Addr} (h:H' l=Option.none):H l=Option.none:=by
 cases q:H l with
 | none=>rfl
 | some o=>
  rw [e l o q] at h
  cases h
theorem Same.seq {K:Frag} {H H':Hp} {a:Addr} {xs:List V} (e:Same H H') (h:SqL K H a xs):SqL K H' a xs:=by
 rcases h with (h | ⟨o,h⟩) | h
 ·exact .inl (.inl (e _ _ h))
 ·exact .inl (.inr ⟨o,e _ _ h⟩)
 ·exact .inr h
end L2
namespace L2
open PySem PySem.Spec PyProof.Rows
def Dk (h h':Heap):Prop:=∀ b o,h.get? b=some o->∃ o',h'.get? b=some o'/\o'.cls=o.cls/\o'.dict=o.dict
structure KD {α:Type} (t:Sem α):Prop where
 out:∀ (M:Model) (Γ:PySem.Ctx) (P:α->Pos->Shared->Prop) (Ee:Value->Pos->Shared->Prop) (p:Pos) (s:Shared),
  Sem.wp M Γ t P Ee p s->Sem.wp M Γ t (fun a p' s'=>P a p' s'/\Dk s.heap s'.heap) Ee p s
def cut (h:Heap) (fs:List Addr):Heap:={ h with objs:=h.objs.mapIdx fun i o=>if i∈fs then { o with data:=.freed } else o }
structure Flies (P:Program) (w:World) (outer:List Env) (H:Hp) (s:Shared) (a:Addr) (B:Heap) (H':Hp) (cls:Value) (od:Option Addr) (s':Shared):Prop where
 fl:∃ a0,B.FlyingW outer a cls a0 s'.heap
 dict:∃ o,s'.heap.get? a=some o/\o.dict=od
 os:s'.os=s.os
 bare:AllBare s'.gens
 un:Un (frs outer) [] H H' s.heap s'.heap
 hok:HOk P w H' s'.heap
 inB:∀ b o,H' b=some o->∃ ob,B.get? b=some ob
 all:∀ b o,s.heap.get? b=some o->b∉frs outer->∃ o',B.get? b=some o'
def CXW (P:Program) (w:World):CXT:=fun outer H s E e s'=>∃ a B H' cls od,e=.ref a/\Flies P w outer H s a B H' cls od s'/\E cls od H'
section
variable {P:Program} {w:World} {K:Frag} {mg:Str->Option Value} {base:Heap} {N:List Str} {qual:Str} {scope:Scope} {f:Addr} {cd:Value} {A:Around} {outer:List Env} {s:Shared} {H:Hp} {E:XK}
 {pins:List (Addr×Obj)} {σ:St} {H':Hp} {s2:Shared} {a:Addr}
end
end L2
namespace L2
open PySem PySem.Spec PyProof.Rows
section
variable {prog:Program} {w:World} {A:Around} {E:Value->Shared->Prop} {s:Shared} {K:Frag} {x C:Addr} {ox:Obj} {od:Option Obj} {name:Str} {tk:Tok} {fill expr:Bool} {v:Value} {Q:Value->Shared->Prop}
end
end L2
namespace L2
open PySem PySem.Spec PyProof.Rows
section
variable {prog:Program} {w:World} {A:Around} {E:Value->Shared->Prop} {s:Shared} {K:Frag} {x C:Addr} {ox:Obj} {name:Str} {tk:Tok} {v:Value} {Q:Unit->Shared->Prop}
end
end L2
namespace L2
open PySem PySem.Spec PyProof.Rows
section
variable {prog:Program} {w:World} {A:Around} {s:Shared} {K:Frag} {C f:Addr} {R:Result->Shared->Prop} {nm q:Str} {N:Addr} {bs bm bmB:List Value} {hdct:Bool} {sn:List Str} {sub:List Value} {ab:Bool} {col:Option Bool} {dd:Option Addr} {k0 k1 k2 k3 k5:Option Value}
 {B Bn newId nid initId inN:String} {bmN:List Value} {rest:List Value}
end
end L2
namespace L2
open PySem PySem.Spec PyProof.Rows
section
variable {prog:Program} {w:World} {A:Around} {E:Value->Shared->Prop} {s:Shared} {K:Frag} {env:Env} {x:Expr} {pos:Pos} {Q:Flow->Shared->Prop}
end
end L2
namespace L2
open PySem PySem.Spec PyProof.Rows
section
variable {X:Cx} {pins:List (Addr×Obj)} {σ σ':St} {H:Hp} {s:Shared}
end
end L2
namespace L2
open PySem PySem.Spec PyProof.Rows
section
variable {X:Cx} {pins:List (Addr×Obj)} {σ:St} {H H':Hp} {s s1:Shared}
end
end L2
namespace L2
open PySem PySem.Spec PyProof.Rows
section
variable {X:Cx} {pins:List (Addr×Obj)} {σ:St} {H H':Hp} {s s1:Shared} {a:Addr} {B:Heap} {cls:Value} {od:Option Addr}
structure Here (X:Cx) (pins:List (Addr×Obj)) (σ:St) (H':Hp) (a:Addr) (B:Heap) (cls:Value) (od:Option Addr) (s:Shared):Prop where
 inv:Inv X pins σ H' s
 dict:∃ o,s.heap.get? a=some o/\o.dict=od
end
end L2
namespace L2
open PySem PySem.Spec PyProof.Rows
section
variable {X:Cx} {k:Nat} {f:Addr} {fd:FuncData} {ps:List Str} {sp:Sp} {fn cn n y:Str} {fp cp ap np hpos yp pos:Pos} {e:Expr} {es:List Expr} {t:TA} {C:Addr} {i jn:Nat} {b0:Stmt} {suite:List Stmt} {tb:TS}
def tCatch (X:Cx) (C:Addr) (jn:Nat) (tb:TS) (D:Ends) (σ:St):XK:=fun cls od H'=>∃ Dc,cls=.ref Dc/\PySem.W.exmOne X.K (.ref Dc) (.ref C)=some true /\
 ∀ (a:Addr) (o:Obj),H' a=none->o.cls=cls->o.dict=od->(∃ vs:Array Value,o.data=.fields vs) ->
  tb { nx:=fun σ' H'=>D.nx (σ'.set jn none) H',rt:=D.rt,bk:=fun σ' H'=>D.bk (σ'.set jn none) H',ct:=fun σ' H'=>D.ct (σ'.set jn none) H' } (σ.set jn (some (.ref a))) (upd H' a (.ext fun h=>h.get? a=some o))
end
end L2
namespace L2
open PySem PySem.Spec PyProof.Rows
section
variable {X:Cx} {pins:List (Addr×Obj)} {σ:St} {H:Hp} {s:Shared}
end
end L2
namespace L2
open PySem PySem.Spec PyProof.Rows
section
variable {X:Cx}
end
end L2
namespace L2
open PySem PySem.Spec PyProof.Rows
section
variable {X:Cx} {pins:List (Addr×Obj)} {σ:St} {H:Hp} {s:Shared}
end
end L2
namespace L2
open PySem PySem.Spec PyProof.Rows
section
variable {P:Program} {w:World} {K:Frag} {mg:Str->Option Value} {base:Heap} {N:List Str} {qual:Str} {scope:Scope} {f0:Addr} {cd:Value} {A:Around} {outer:List Env} {s0:Shared} {H0:Hp} {E:XK}
 {k:Nat} {C f:Addr} {fd:FuncData} {ps:List Str} {sp:Sp} {cn:Str} {np cp pos:Pos} {e:Expr} {es:List Expr} {t:TA}
end
end L2
namespace L2
open PySem PySem.Spec PyProof.Rows
section
variable {P:Program} {w:World} {K:Frag} {mg:Str->Option Value} {base:Heap} {k:Nat} {f:Addr} {fd:FuncData} {ps N:List Str} {sp:Sp} {CX:CXT}
end
end L2
namespace L2
open PySem PySem.Spec PyProof.Rows
section
variable {X:Cx} {o:Expr} {ta:TE} {name:Str} {pos:Pos}
end
end L2
namespace L2
open PySem PySem.Spec PyProof.Rows
section
variable {X:Cx} {pins:List (Addr×Obj)} {σ:St} {H:Hp} {s:Shared} {A:Around} {E:Value->Shared->Prop} {Q:Value->Shared->Prop} {c:Value} {b:Bool} {a C:Addr} {ox:Obj} {vs:Array Value}
end
end L2
namespace L2
open PySem PySem.Spec PyProof.Rows
section
variable {P:Program} {w:World} {K:Frag} {mg:Str->Option Value} {base:Heap} {N:List Str} {qual:Str} {scope:Scope} {f0:Addr} {cd:Value} {A:Around} {outer:List Env} {s0:Shared} {H0:Hp} {E:XK}
 {C:Addr} {cn:Str} {np cp pos:Pos} {e:Expr} {es:List Expr} {t:TA}
end
end L2
namespace L2
open PySem
structure Nx {α:Type} (t:Sem α):Prop where
 out:∀ (M:Model) (Γ:PySem.Ctx) (P:α->Pos->Shared->Prop) (Ee Ef:Value->Pos->Shared->Prop) (p:Pos) (s:Shared),Sem.wp M Γ t P Ee p s->Sem.wp M Γ t P Ef p s
structure Po {α:Type} (t:Sem α) (pre:Shared->Prop) (post:α->Shared->Prop):Prop where
 out:∀ (M:Model) (Γ:PySem.Ctx) (P:α->Pos->Shared->Prop) (Ee Ef:Value->Pos->Shared->Prop) (p:Pos) (s:Shared),
  pre s->Sem.wp M Γ t P Ee p s->Sem.wp M Γ t (fun a p' s'=>P a p' s'/\post a s') Ef p s
def FldAt (v:Value) (i:Nat) (x:Value) (h:Heap):Prop:=∃ (a:Addr) (o:Obj) (vs:Array Value),v=.ref a/\h.get? a=some o/\o.data=.fields vs/\vs[i]?=some x
def Marked (e:Value) (f:Addr) (h:Heap):Prop:=∃ t,FldAt e 1 t h/\FldAt t 3 (rawInt f) h/\t≠.none
structure Free {α:Type} (t:Sem α):Prop where
 out:∀ (M:Model) (Γ Γ':PySem.Ctx) (P P':α->Pos->Shared->Prop) (E E':Value->Pos->Shared->Prop) (p p':Pos) (s:Shared),(∀ a p p' s,P a p s->P' a p' s)->(∀ a p p' s,E a p s->E' a p' s)->Sem.wp M Γ t P E p s->Sem.wp M Γ' t P' E' p' s
end L2
namespace L2
open PySem PySem.Spec PyProof.Rows
section
variable {X:Cx} {k:Nat} {f:Addr} {fd:FuncData} {ps:List Str} {sp:Sp} {fn cn n y:Str} {fp cp ap np hpos yp pos:Pos} {e:Expr} {es:List Expr} {t:TA} {C:Addr} {i jn:Nat} {b0:Stmt} {suite:List Stmt} {tb:TS}
end
end L2
namespace L2
open PySem PySem.Spec PyProof.Rows
section
variable {X:Cx} {k:Nat} {C f:Addr} {fd:FuncData} {ps:List Str} {sp:Sp} {cn:Str} {np cp pos:Pos} {e:Expr} {es:List Expr} {t:TA}
end
end L2
namespace L2
open PySem PySem.Spec PyProof.Rows
section
variable {κ:Type} [DecidableEq κ]
def valV (kvs:List (κ×V)) (k:κ):Option V:=(kvs.find? fun kv=>decide (kv.1=k)).map (·.2)
def putK (kvs:List (κ×V)) (k:κ) (v:V):List (κ×V):=
 if (kvs.any fun kv=>decide (kv.1=k))=true then kvs.map (fun kv=>if kv.1=k then (kv.1,v) else kv) else kvs ++ [(k,v)]
def dropK (kvs:List (κ×V)) (k:κ):List (κ×V):=kvs.filter fun kv=>decide (kv.1≠k)
end
abbrev KT (H:Hp):List (List Key×V)->List (List Key×Addr×Value)->Prop:=Paired fun p q=>p.1=q.1/\H q.2.1=some (.tup (p.1.map kV))/\RelV p.2 q.2.2
section
variable {P:Program} {w:World} {H:Hp} {h:Heap} {a:Addr}
end
def DGet (H:Hp) (a:Addr) (y:V) (r:Option V):Prop:=
 (∃ kvs k,Rd H a (.dK kvs)/\y=kV k/\r=valV kvs k)\/∃ kvs k b,Rd H a (.dT kvs)/\y=.ref b/\H b=some (.tup (k.map kV))/\r=valV kvs k
def DPut (H:Hp) (a:Addr) (y v:V) (H':Hp):Prop:=
 (∃ kvs k,H a=some (.dK kvs)/\y=kV k/\kvs.length<sizeLine/\H'=upd H a (.dK (putK kvs k v))) \/
 ∃ kvs k b,H a=some (.dT kvs)/\y=.ref b/\H b=some (.tup (k.map kV))/\kvs.length<sizeLine/\H'=upd H a (.dT (putK kvs k v))
section
variable {X:Cx} {pins:List (Addr×Obj)} {σ:St} {H:Hp} {s:Shared} {a:Addr} {y v:V} {u r:Value} {o:Option V} {A:Around} {E:Value->Shared->Prop}
end
section
variable {X:Cx} {pins:List (Addr×Obj)} {σ:St} {H:Hp} {s:Shared} {a:Addr} {kvs:List (Key×V)} {k:Key} {u:Value} {A:Around} {E:Value->Shared->Prop}
end
section
variable {X:Cx} {o i e value:Expr} {pos pos' tpos:Pos} {td ty tv:TE}
end
section
variable {X:Cx} {pos:Pos}
end
end L2
namespace L2
open PySem
structure Sub where
 t:Bool
 i:Addr
 l:Addr
def Sub.At (u:Sub) (h:Heap) (n:Nat):Prop:=if u.t=true then h.IsTupleIter u.i u.l n else h.IsListIter u.i u.l n
def Sub.Src (u:Sub) (h:Heap) (xs:Array Value):Prop:=if u.t=true then h.IsTuple u.l xs else h.IsList u.l xs
theorem Sub.At.obj {u:Sub} {h:Heap} {n:Nat} (x:u.At h n):∃ o,h.get? u.i=some o/\o.data=.fields #[.ref u.l,.int n 0]:=by
 unfold Sub.At at x
 split at x <;> (obtain ⟨o,e,_,d⟩:=x; exact ⟨o,e,d⟩)
theorem Sub.At.keep {u:Sub} {h h':Heap} {n:Nat} (x:u.At h n) (k:∀ o,h.get? u.i=some o->h'.get? u.i=some o):u.At h' n:=by
 unfold Sub.At at x ⊢
 split at x <;> (rename_i ht; obtain ⟨o,e,r⟩:=x; simp only [ht,if_true,if_false,Bool.false_eq_true]; exact ⟨o,k o e,r⟩)
theorem Sub.Src.keep {u:Sub} {h h':Heap} {xs:Array Value} (x:u.Src h xs) (k:∀ o,h.get? u.l=some o->h'.get? u.l=some o):u.Src h' xs:=by
 unfold Sub.Src at x ⊢
 split at x <;> (rename_i ht; obtain ⟨o,e,r⟩:=x; simp only [ht,if_true,if_false,Bool.false_eq_true]; exact ⟨o,k o e,r⟩)
section
variable {prog:Program} {w:World} {A:Around} {E:Value->Shared->Prop} {s:Shared}
theorem nextOf_tup_item {it t:Addr} {i:Nat} {items:Array Value} {x:Value} {Q:Value->Shared->Prop} (hit:s.heap.IsTupleIter it t i) (ht:s.heap.IsTuple t items) (hx:items[i]?=some x)
  (hQ:∀ h',h'.IsTupleIter it t (i+1)->Heap.SameBut it s.heap h'->Q x { s with heap:=h' }):wpAny (model prog w) A (Builtin.SmallTypes.nextOf (.ref it)) Q E s:=by
 obtain ⟨o,ho,hc,hd⟩:=id hit; obtain ⟨ol,hol,_,nl,hdl⟩:=ht; unfold Builtin.SmallTypes.nextOf
 refine wpAny_bind (wpAny_callSpecial?_slot (name:=Str.ofString "__next__") hit.typeIs F.slot_tuple_iterator_next (wpAny_call_entry F.slot_tuple_iterator_next hit.typeIs F.entry_tuple_iterator_next ?_ (F.args_tuple_iterator_next_1 _)))
 show wpAny _ _ (field (.ref it) 0>>=_) _ _ s; refine wpAny_bind (wpAny_field ho hd (x:=.ref t) rfl ?_)
 show wpAny _ _ (if (Value.ref t == Value.none)=true then _ else _) _ _ s; rw [if_neg (show ¬ ((Value.ref t == Value.none)=true) from Bool.false_ne_true)]
 show wpAny _ _ (field (.ref it) 1>>=_) _ _ s; refine wpAny_bind (wpAny_field ho hd (x:=.int i 0) rfl ?_)
 show wpAny _ _ (seqItems? (.ref t)>>=_) _ _ s; refine wpAny_bind (wpAny_seqItems hol hdl ?_); simp only [Int.toNat_natCast,hx]
 refine wpAny_bind (wpAny_setField ho hd (by simp) (wpAny_pure ⟨x,rfl,wpAny_pure (hQ _ ?_ (Heap.SameBut.update ..))⟩)); exact ⟨_,Heap.get?_update_self _ ho (Obj.isFreed_of_fields (Obj.data_mapFields hd _)),(Obj.cls_mapFields ..).trans hc,by rw [Obj.data_mapFields hd]; simp [rawInt]⟩
theorem nextOf_tup_end {it t:Addr} {i:Nat} {items:Array Value} {Q:Value->Shared->Prop} (hh:A.handled=none) (hit:s.heap.IsTupleIter it t i) (ht:s.heap.IsTuple t items) (hx:items[i]?=none)
  (hE:∀ h' e,Heap.ExtBut it s.heap h'->(∃ o,h'.get? e=some o/\o.cls=.type "StopIteration")->E (.ref e) { s with heap:=h' }):wpAny (model prog w) A (Builtin.SmallTypes.nextOf (.ref it)) Q E s:=by
 obtain ⟨o,ho,hc,hd⟩:=id hit; obtain ⟨ol,hol,_,nl,hdl⟩:=ht; unfold Builtin.SmallTypes.nextOf
 refine wpAny_bind (wpAny_callSpecial?_slot (name:=Str.ofString "__next__") hit.typeIs F.slot_tuple_iterator_next (wpAny_call_entry F.slot_tuple_iterator_next hit.typeIs F.entry_tuple_iterator_next ?_ (F.args_tuple_iterator_next_1 _)))
 show wpAny _ _ (field (.ref it) 0>>=_) _ _ s; refine wpAny_bind (wpAny_field ho hd (x:=.ref t) rfl ?_)
 show wpAny _ _ (if (Value.ref t == Value.none)=true then _ else _) _ _ s; rw [if_neg (show ¬ ((Value.ref t == Value.none)=true) from Bool.false_ne_true)]
 show wpAny _ _ (field (.ref it) 1>>=_) _ _ s; refine wpAny_bind (wpAny_field ho hd (x:=.int i 0) rfl ?_)
 show wpAny _ _ (seqItems? (.ref t)>>=_) _ _ s; refine wpAny_bind (wpAny_seqItems hol hdl ?_); simp only [Int.toNat_natCast,hx]
 refine wpAny_bind (wpAny_rule (wpAny_bind (wpAny_setField ho hd (by simp) ?_))); show wpAny _ _ (newExc (.type "StopIteration") []>>=_) _ _ _
 refine wpAny_bind ?_; simp only [newExc,newTuple]; refine wpAny_bind (wpAny_newObj_type ?_ (by size_fits))
 refine wpAny_bind (m:=firstArgMember _ _) (wpAny_of_eq (a:=Value.none) (by first | rfl | (simp only [firstArgMember]; rfl)) ?_); refine wpAny_newObj_type ?_ (by size_fits); simp only [raiseNew]
 refine wpAny_bind (wpAny_handled ?_); first | rw [show A.in1.handled=none from hh] | rw [hh]
 refine wpAny_bind (wpAny_pure (wpAny_throw ?_)); exact hE _ _ (((Heap.SameBut.update ..).extBut.push _).push _) ⟨_,Heap.get?_push_size _ rfl,rfl⟩
theorem Sub.item {u:Sub} {n:Nat} {xs:Array Value} {x:Value} {Q:Value->Shared->Prop} (ha:u.At s.heap n) (hs:u.Src s.heap xs) (hx:xs[n]?=some x)
  (hQ:∀ h',u.At h' (n+1)->Heap.SameBut u.i s.heap h'->Q x { s with heap:=h' }):wpAny (model prog w) A (Builtin.SmallTypes.nextOf (.ref u.i)) Q E s:=by
 unfold Sub.At at ha hQ; unfold Sub.Src at hs
 cases ht:u.t with
 | true=>simp only [ht,if_true] at ha hs hQ; exact nextOf_tup_item ha hs hx hQ
 | false=>simp only [ht,if_false,Bool.false_eq_true] at ha hs hQ; exact wpAny_nextOf_list_item ha hs hx hQ
theorem Sub.ends {u:Sub} {n:Nat} {xs:Array Value} {Q:Value->Shared->Prop} (hh:A.handled=none) (ha:u.At s.heap n) (hs:u.Src s.heap xs) (hx:xs[n]?=none)
  (hE:∀ h' e,Heap.ExtBut u.i s.heap h'->(∃ o,h'.get? e=some o/\o.cls=.type "StopIteration")->E (.ref e) { s with heap:=h' }):wpAny (model prog w) A (Builtin.SmallTypes.nextOf (.ref u.i)) Q E s:=by
 unfold Sub.At at ha; unfold Sub.Src at hs
 cases ht:u.t with
 | true=>simp only [ht,if_true] at ha hs; exact nextOf_tup_end hh ha hs hx hE
 | false=>simp only [ht,if_false,Bool.false_eq_true] at ha hs; exact wpAny_nextOf_list_end hh ha hs hx hE
abbrev TupO (h:Heap) (T:Addr) (arr:Array Value):Prop:=h.get? T=some { cls:=.type "tuple",data:=.seq arr }
def drawn (n:Nat):List (Sub×Array Value)->Nat->Array Value->Array Value
 | [],_,arr=>arr
 | u::r,c,arr=>drawn n r (c+1) (arr.setIfInBounds c (u.2.getD n .none))
def DrawB (prog:Program) (w:World) (A:Around) (z TO:Addr) (E:Value->Shared->Prop) (B:Value×Nat->Option Fin×Unit->Sem (ForInStep (Option Fin×Unit))):Prop:=
 ∀ (v:Value) (k:Nat) (s:Shared) (Q:ForInStep (Option Fin×Unit)->Shared->Prop),
  wpAny (model prog w) A (Builtin.SmallTypes.nextOf v) (fun x s1=>∃ arr,TupO s1.heap TO arr/\arr.size<=sizeLine/\∀ h',TupO h' TO (arr.setIfInBounds k x)->Heap.SameBut TO s1.heap h'->Q (.yield (none,())) { s1 with heap:=h' })
   (fun e s1=>wpAny (model prog w) A (setField (.ref z) 0 .none) (fun _ s2=>E e s2) E s1) s->wpAny (model prog w) A (B (v,k) (none,())) Q E s
structure Apart (z TO:Addr) (ss:List (Sub×Array Value)):Prop where
 zTO:z≠TO
 zi:∀ u∈ss,u.1.i≠z
 ti:∀ u∈ss,u.1.i≠TO
 nd:ss.Pairwise fun u v=>u.1.i≠v.1.i
 lz:∀ u∈ss,u.1.l≠z
 lt:∀ u∈ss,u.1.l≠TO
 li:∀ u∈ss,∀ v∈ss,u.1.l≠v.1.i
theorem Apart.tail {z TO:Addr} {u:Sub×Array Value} {ss:List (Sub×Array Value)} (D:Apart z TO (u::ss)):Apart z TO ss:=
 ⟨D.zTO,fun v hv=>D.zi v (List.mem_cons_of_mem _ hv),fun v hv=>D.ti v (List.mem_cons_of_mem _ hv),(List.pairwise_cons.mp D.nd).2,fun v hv=>D.lz v (List.mem_cons_of_mem _ hv),fun v hv=>D.lt v (List.mem_cons_of_mem _ hv),
  fun v hv x hx=>D.li v (List.mem_cons_of_mem _ hv) x (List.mem_cons_of_mem _ hx)⟩
theorem draws {z TI TO:Addr} {n:Nat} {B:Value×Nat->Option Fin×Unit->Sem (ForInStep (Option Fin×Unit))} (hB:DrawB prog w A z TO E B) :
  ∀ (ss:List (Sub×Array Value)) (c:Nat) (arr:Array Value) (s:Shared) (Q:Option Fin×Unit->Shared->Prop),Apart z TO ss->IsZip s.heap z TI TO .ellipsis->TupO s.heap TO arr->arr.size<=sizeLine ->
   (∀ u∈ss,u.1.At s.heap n/\u.1.Src s.heap u.2/\∃ x,u.2[n]?=some x) ->
   (∀ h',IsZip h' z TI TO .ellipsis->TupO h' TO (drawn n ss c arr)->(∀ u∈ss,u.1.At h' (n+1))->h'.objs.size=s.heap.objs.size ->
    (∀ b o,b≠TO->(∀ u∈ss,b≠u.1.i)->s.heap.get? b=some o->h'.get? b=some o)->Q (none,()) { s with heap:=h' }) ->
   wpAny (model prog w) A (forIn ((ss.map fun u=>Value.ref u.1.i).zipIdx c) (none,()) B) Q E s:=by
 intro ss
 induction ss with
 | nil=>
  intro c arr s Q D hz hT hl hu hQ
  simp only [List.map_nil,List.zipIdx_nil,List.forIn_nil]
  exact wpAny_pure (hQ s.heap hz hT (fun _ h=>absurd h List.not_mem_nil) rfl fun _ _ _ _ e=>e)
 | cons u r ih=>
  intro c arr s Q D hz hT hl hu hQ
  simp only [List.map_cons,List.zipIdx_cons,List.forIn_cons]
  obtain ⟨ha,hsrc,x,hx⟩:=hu u List.mem_cons_self
  refine wpAny_bind (hB _ _ _ _ (Sub.item ha hsrc hx fun h1 ha1 sb1=>⟨arr,sb1.extBut _ _ (D.ti u List.mem_cons_self).symm hT,hl,fun h2 hT2 sb2=>?_⟩))
  have uz:=D.zi u List.mem_cons_self
  have ut:=D.ti u List.mem_cons_self
  have kp:∀ b o,b≠TO->b≠u.1.i->s.heap.get? b=some o->h2.get? b=some o:=fun b o h1 h2 e=>sb2.extBut _ _ h1 (sb1.extBut _ _ h2 e)
  have hui:∀ v∈r,v.1.i≠u.1.i:=fun v hv=>((List.pairwise_cons.mp D.nd).1 v hv).symm
  refine ih (c+1) (arr.setIfInBounds c x) { s with heap:=h2 } Q D.tail (kp _ _ D.zTO uz.symm hz) hT2 (by simpa using hl) (fun v hv=>?_) fun h3 z3 T3 a3 s3 k3=>?_
  ·obtain ⟨a,b,y⟩:=hu v (List.mem_cons_of_mem _ hv)
   exact ⟨a.keep fun o e=>kp _ o (D.ti v (List.mem_cons_of_mem _ hv)) (hui v hv) e,b.keep fun o e=>kp _ o (D.lt v (List.mem_cons_of_mem _ hv)) (D.li v (List.mem_cons_of_mem _ hv) u List.mem_cons_self) e,y⟩
  ·refine hQ h3 z3 ?_ (fun v hv=>?_) (by rw [s3]; show h2.objs.size=_; rw [sb2.1,sb1.1]) fun b o h1 h2 e=>k3 b o h1 (fun v hv=>h2 v (List.mem_cons_of_mem _ hv)) (kp b o h1 (h2 u List.mem_cons_self) e)
   ·have e:u.2.getD n .none=x:=by simp [Array.getD_eq_getD_getElem?,hx]
    show TupO h3 TO (drawn n r (c+1) (arr.setIfInBounds c (u.2.getD n .none)))
    rw [e]; exact T3
   ·rcases List.mem_cons.mp hv with rfl | hv
    ·exact ha1.keep fun o e=>k3 _ o ut (fun v' hv'=>(hui v' hv').symm) (sb2.extBut _ _ ut e)
    ·exact a3 v hv
theorem draws_end {z TI TO:Addr} {n:Nat} {B:Value×Nat->Option Fin×Unit->Sem (ForInStep (Option Fin×Unit))} (hh:A.handled=none) (hB:DrawB prog w A z TO E B) :
  ∀ (ss:List (Sub×Array Value)) (c:Nat) (arr:Array Value) (s:Shared) (Q:Option Fin×Unit->Shared->Prop),Apart z TO ss->IsZip s.heap z TI TO .ellipsis->TupO s.heap TO arr->arr.size<=sizeLine ->
   (∀ u∈ss,u.1.At s.heap n/\u.1.Src s.heap u.2)->(∃ u∈ss,u.2[n]?=none) ->
   (∀ h' e,(∀ b o,b≠z->b≠TO->(∀ u∈ss,b≠u.1.i)->s.heap.get? b=some o->h'.get? b=some o)->(∃ o,h'.get? e=some o/\o.cls=.type "StopIteration")->E (.ref e) { s with heap:=h' }) ->
   wpAny (model prog w) A (forIn ((ss.map fun u=>Value.ref u.1.i).zipIdx c) (none,()) B) Q E s:=by
 intro ss
 induction ss with
 | nil=>
  intro c arr s Q D hz hT hl hu hx hQ
  obtain ⟨_,h,_⟩:=hx
  exact absurd h List.not_mem_nil
 | cons u r ih=>
  intro c arr s Q D hz hT hl hu hx hQ
  simp only [List.map_cons,List.zipIdx_cons,List.forIn_cons]
  obtain ⟨ha,hsrc⟩:=hu u List.mem_cons_self
  have uz:=D.zi u List.mem_cons_self
  have ut:=D.ti u List.mem_cons_self
  cases hu0:u.2[n]? with
  | none=>
   refine wpAny_bind (hB _ _ _ _ (Sub.ends hh ha hsrc hu0 fun h1 e eb he=>?_))
   obtain ⟨oe,hoe,hce⟩:=he
   have hz1:IsZip h1 z TI TO .ellipsis:=eb _ _ uz.symm hz
   have hez:e≠z:=fun x=>by subst x; rw [hz1] at hoe; cases hoe; simp at hce
   exact wpAny_setField_rec hz1 (by simp) fun h3 _ sb3=>hQ h3 e (fun b o b1 b2 b3 q=>sb3.extBut _ _ b1 (eb _ _ (b3 u List.mem_cons_self) q)) ⟨oe,sb3.extBut _ _ hez hoe,hce⟩
  | some x=>
   refine wpAny_bind (hB _ _ _ _ (Sub.item ha hsrc hu0 fun h1 ha1 sb1=>⟨arr,sb1.extBut _ _ ut.symm hT,hl,fun h2 hT2 sb2=>?_⟩))
   have kp:∀ b o,b≠TO->b≠u.1.i->s.heap.get? b=some o->h2.get? b=some o:=fun b o h1 h2 e=>sb2.extBut _ _ h1 (sb1.extBut _ _ h2 e)
   have hui:∀ v∈r,v.1.i≠u.1.i:=fun v hv=>((List.pairwise_cons.mp D.nd).1 v hv).symm
   refine ih (c+1) (arr.setIfInBounds c x) { s with heap:=h2 } Q D.tail (kp _ _ D.zTO uz.symm hz) hT2 (by simpa using hl) (fun v hv=>?_) ?_ fun h3 e k3 he=>?_
   ·obtain ⟨a,b⟩:=hu v (List.mem_cons_of_mem _ hv)
    exact ⟨a.keep fun o e=>kp _ o (D.ti v (List.mem_cons_of_mem _ hv)) (hui v hv) e,b.keep fun o e=>kp _ o (D.lt v (List.mem_cons_of_mem _ hv)) (D.li v (List.mem_cons_of_mem _ hv) u List.mem_cons_self) e⟩
   ·obtain ⟨v,hv,e⟩:=hx
    rcases List.mem_cons.mp hv with rfl | hv
    ·rw [hu0] at e; cases e
    ·exact ⟨v,hv,e⟩
   ·exact hQ h3 e (fun b o b1 b2 b3 q=>k3 b o b1 b2 (fun v hv=>b3 v (List.mem_cons_of_mem _ hv)) (kp b o b2 (b3 u List.mem_cons_self) q)) he
theorem drawn_size (n:Nat):∀ (ss:List (Sub×Array Value)) (c:Nat) (arr:Array Value),(drawn n ss c arr).size=arr.size:=by
 intro ss
 induction ss with
 | nil=>intro c arr; rfl
 | cons u r ih=>intro c arr; unfold drawn; rw [ih]; simp
theorem drawn_get (n:Nat):∀ (ss:List (Sub×Array Value)) (c:Nat) (arr:Array Value),c+ss.length=arr.size->(drawn n ss c arr).toList=arr.toList.take c++ss.map fun u=>u.2.getD n .none:=by
 intro ss
 induction ss with
 | nil=>
  intro c arr h
  unfold drawn
  simp at h; subst h
  rw [List.map_nil,List.append_nil]
  exact (List.take_of_length_le (by simp)).symm
 | cons u r ih=>
  intro c arr h
  unfold drawn
  have hc:c<arr.size:=by simp at h; omega
  rw [ih (c+1) _ (by simp at h ⊢; omega)]
  rw [List.map_cons,Array.toList_setIfInBounds]
  have:(arr.toList.set c (u.2.getD n Value.none)).take (c+1)=arr.toList.take c ++ [u.2.getD n Value.none]:=by
   rw [List.take_add_one,List.take_set,List.getElem?_set_self (by simpa using hc)]
   rw [List.set_eq_of_length_le (by simp; omega)]; rfl
  rw [this,List.append_assoc]; rfl
theorem zip_item {z TI TO:Addr} {n:Nat} {ss:List (Sub×Array Value)} {arr:Array Value} {Q:Option Value->Shared->Prop} (D:Apart z TO ss) (hne:ss ≠ []) (hsz:arr.size=ss.length) (hline:ss.length<=sizeLine)
  (hz:IsZip s.heap z TI TO .none) (hTI:TupO s.heap TI (ss.map fun u=>Value.ref u.1.i).toArray) (hTO:TupO s.heap TO arr) (hu:∀ u∈ss,u.1.At s.heap n/\u.1.Src s.heap u.2/\∃ x,u.2[n]?=some x)
  (hQ:∀ h',IsZip h' z TI TO (rawInt s.heap.objs.size)->(∃ arr',TupO h' TO arr'/\arr'.size=ss.length)->(∀ u∈ss,u.1.At h' (n+1))->TupO h' s.heap.objs.size (ss.map fun u=>u.2.getD n .none).toArray ->
   (∀ b o,b≠z->b≠TO->(∀ u∈ss,b≠u.1.i)->s.heap.get? b=some o->h'.get? b=some o)->Q (some (.ref s.heap.objs.size)) { s with heap:=h' }) :
  wpAny (model prog w) A (pyNext (.ref z)) Q E s:=by
 have hT:s.TypeIs (.ref z) "zip" := ⟨_,hz,rfl⟩
 unfold pyNext
 refine wpAny_bind (wpAny_attempt (wpAny_callSpecial?_slot (name:=Str.ofString "__next__") hT F.slot_zip_next (wpAny_call_entry F.slot_zip_next hT F.entry_zip_next ?_ (F.args_zip_next_1 _))))
 show wpAny _ _ (field (.ref z) 2>>=_) _ _ _; refine wpAny_bind (wpAny_field hz rfl (x:=.bool false) rfl ?_)
 show wpAny _ _ (field (.ref z) 3>>=_) _ _ _; refine wpAny_bind (wpAny_field hz rfl (x:=.ref TI) rfl ?_); refine wpAny_bind (wpAny_seqItems hTI rfl ?_)
 have e1:(ss.map fun u=>Value.ref u.1.i).toArray.isEmpty=false:=by cases ss <;> simp_all
 simp only [e1]
 refine wpAny_bind ?_; unfold Builtin.SmallTypes.ownedTupleIsFree; refine wpAny_bind (wpAny_field hz rfl (x:=.none) rfl (wpAny_pure ?_)); simp only [if_true]
 refine wpAny_bind (wpAny_rule ?_); refine wpAny_bind (wpAny_field hz rfl (x:=.ref TO) rfl ?_)
 refine wpAny_bind (wpAny_setField_rec hz (by simp) fun h1 z1 sb1=>?_); replace z1:IsZip h1 z TI TO .ellipsis:=z1
 refine wpAny_bind (draws (TI:=TI) (n:=n) (z:=z) (TO:=TO) ?_ ss 0 arr _ _ D z1 (sb1.extBut _ _ D.zTO.symm hTO) (by omega) (fun u hm=>?_) fun h2 z2 T2 a2 s2 k2=>?_)
 ·intro v k s Q h
  refine wpAny_bind (wpAny_onRaise ?_)
  show wpAny _ _ (Builtin.SmallTypes.nextOf v>>=_) _ _ _
  refine wpAny_bind (wpAny_mono h (fun x s1 ⟨arr,hT1,hl,hq⟩=>wpAny_pure ?_) fun e s1 he=>he)
  refine wpAny_bind (wpAny_seqItems hT1 rfl ?_)
  refine wpAny_bind (wpAny_updateSeq hT1 rfl ?_ hl (by rw [Array.size_setIfInBounds]; omega))
  refine wpAny_bind (wpAny_letGo (wpAny_pure (hq _ ?_ (Heap.SameBut.update ..))))
  show Heap.get? _ _=_
  rw [Heap.get?_update_self _ hT1 rfl]; simp [Obj.mapSeq]
 ·obtain ⟨a,b,x⟩:=hu u hm
  exact ⟨a.keep fun o e=>sb1.extBut _ _ (D.zi u hm) e,b.keep fun o e=>sb1.extBut _ _ (D.lz u hm) e,x⟩
 ·have ed:(drawn n ss 0 arr).toList=ss.map fun u=>u.2.getD n .none:=by rw [drawn_get n ss 0 arr (by omega)]; simp
  refine wpAny_bind (wpAny_seqItems T2 rfl ?_)
  have hs2:h2.objs.size=s.heap.objs.size:=by rw [s2]; exact sb1.1
  have hlz:z<h2.objs.size:=Heap.lt_size z2
  refine wpAny_bind (wpAny_newTuple (wpAny_bind ?_) (by rw [ed,List.length_map]; exact hline))
  unfold Builtin.SmallTypes.ownedTupleHandOut
  have z3:IsZip (h2.push { cls:=.type "tuple",data:=.seq (drawn n ss 0 arr).toList.toArray }) z TI TO .ellipsis:=Heap.get?_push_of_some _ z2
  refine wpAny_bind (wpAny_setField_rec z3 (by simp) fun h4 z4 sb4=>?_); replace z4:IsZip h4 z TI TO (rawInt h2.objs.size):=z4
  refine wpAny_setField_rec z4 (by simp) fun h5 z5 sb5=>?_; replace z5:IsZip h5 z TI TO (rawInt h2.objs.size):=z5
  have up:∀ b o,b≠z->h2.get? b=some o->h5.get? b=some o:=fun b o hb e=>sb5.extBut _ _ hb (sb4.extBut _ _ hb (Heap.get?_push_of_some _ e))
  have T5:TupO h5 h2.objs.size (drawn n ss 0 arr).toList.toArray:=sb5.extBut _ _ (Nat.ne_of_gt hlz) (sb4.extBut _ _ (Nat.ne_of_gt hlz) (Heap.get?_push_size _ rfl))
  rw [ed] at T5
  rw [hs2] at z5 T5
  refine wpAny_pure ⟨_,rfl,wpAny_pure ?_⟩
  show Q (some (.ref h2.objs.size)) _
  rw [hs2]
  exact hQ h5 z5 ⟨_,up _ _ D.zTO.symm T2,by rw [drawn_size,hsz]⟩ (fun u hm=>(a2 u hm).keep fun o e=>up _ o (D.zi u hm) e) T5 fun b o b1 b2 b3 e=>up b o b1 (k2 b o b2 b3 (sb1.extBut _ _ b1 e))
theorem zip_stop {z TI TO:Addr} {n:Nat} {ss:List (Sub×Array Value)} {arr:Array Value} {Q:Option Value->Shared->Prop} (hh:A.handled=none) (D:Apart z TO ss) (hsz:arr.size=ss.length) (hline:ss.length<=sizeLine)
  (hz:IsZip s.heap z TI TO .none) (hTI:TupO s.heap TI (ss.map fun u=>Value.ref u.1.i).toArray) (hTO:TupO s.heap TO arr) (hu:∀ u∈ss,u.1.At s.heap n/\u.1.Src s.heap u.2) (hx:∃ u∈ss,u.2[n]?=none)
  (hQ:∀ h',(∀ b o,b≠z->b≠TO->(∀ u∈ss,b≠u.1.i)->s.heap.get? b=some o->h'.get? b=some o)->Q none { s with heap:=h' }) :
  wpAny (model prog w) A (pyNext (.ref z)) Q E s:=by
 have hT:s.TypeIs (.ref z) "zip" := ⟨_,hz,rfl⟩
 unfold pyNext
 refine wpAny_bind (wpAny_attempt (wpAny_callSpecial?_slot (name:=Str.ofString "__next__") hT F.slot_zip_next (wpAny_call_entry F.slot_zip_next hT F.entry_zip_next ?_ (F.args_zip_next_1 _))))
 show wpAny _ _ (field (.ref z) 2>>=_) _ _ _; refine wpAny_bind (wpAny_field hz rfl (x:=.bool false) rfl ?_)
 show wpAny _ _ (field (.ref z) 3>>=_) _ _ _; refine wpAny_bind (wpAny_field hz rfl (x:=.ref TI) rfl ?_); refine wpAny_bind (wpAny_seqItems hTI rfl ?_)
 have e1:(ss.map fun u=>Value.ref u.1.i).toArray.isEmpty=false:=by
  obtain ⟨u,hm,_⟩:=hx
  cases ss with
  | nil=>exact nomatch hm
  | cons a b=>simp
 simp only [e1]
 refine wpAny_bind ?_; unfold Builtin.SmallTypes.ownedTupleIsFree; refine wpAny_bind (wpAny_field hz rfl (x:=.none) rfl (wpAny_pure ?_)); simp only [if_true]
 refine wpAny_bind (wpAny_rule ?_); refine wpAny_bind (wpAny_field hz rfl (x:=.ref TO) rfl ?_)
 refine wpAny_bind (wpAny_setField_rec hz (by simp) fun h1 z1 sb1=>?_); replace z1:IsZip h1 z TI TO .ellipsis:=z1
 refine wpAny_bind (draws_end (A:=A.in1) (TI:=TI) (n:=n) (z:=z) (TO:=TO) (show A.in1.handled=none from hh) ?_ ss 0 arr _ _ D z1 (sb1.extBut _ _ D.zTO.symm hTO) (by omega) (fun u hm=>?_) hx fun h2 e k2 he=>?_)
 ·intro v k s Q h
  refine wpAny_bind (wpAny_onRaise ?_)
  show wpAny _ _ (Builtin.SmallTypes.nextOf v>>=_) _ _ _
  refine wpAny_bind (wpAny_mono h (fun x s1 ⟨arr,hT1,hl,hq⟩=>wpAny_pure ?_) fun e s1 he=>he)
  refine wpAny_bind (wpAny_seqItems hT1 rfl ?_)
  refine wpAny_bind (wpAny_updateSeq hT1 rfl ?_ hl (by rw [Array.size_setIfInBounds]; omega))
  refine wpAny_bind (wpAny_letGo (wpAny_pure (hq _ ?_ (Heap.SameBut.update ..))))
  show Heap.get? _ _=_
  rw [Heap.get?_update_self _ hT1 rfl]; simp [Obj.mapSeq]
 ·obtain ⟨a,b⟩:=hu u hm
  exact ⟨a.keep fun o e=>sb1.extBut _ _ (D.zi u hm) e,b.keep fun o e=>sb1.extBut _ _ (D.lz u hm) e⟩
 ·obtain ⟨o,ho,hc⟩:=he
  refine wpAny_bind (wpAny_isInstance (T := "StopIteration") (b:=true) ⟨o,ho,hc⟩ isSubtype_stop ?_)
  exact wpAny_pure (hQ _ fun b o b1 b2 b3 e=>k2 b o b1 b2 b3 (sb1.extBut _ _ b1 e))
def SrcAt (h:Heap) (u:Bool×Addr×Array Value):Prop:=if u.1=true then h.IsTuple u.2.1 u.2.2 else h.IsList u.2.1 u.2.2
def subsFrom (n:Nat):List (Bool×Addr×Array Value)->List (Sub×Array Value)
 | []=>[]
 | u::r=>(⟨u.1,n,u.2.1⟩,u.2.2)::subsFrom (n+1) r
theorem iter_src {u:Bool×Addr×Array Value} {Q:Value->Shared->Prop} (hs:SrcAt s.heap u)
  (hQ:∀ h',(Sub.mk u.1 s.heap.objs.size u.2.1).At h' 0->h'.objs.size=s.heap.objs.size+1->(∀ b o,s.heap.get? b=some o->h'.get? b=some o)->Q (.ref s.heap.objs.size) { s with heap:=h' }) :
  wpAny (model prog w) A (pyIter (.ref u.2.1)) Q E s:=by
 unfold SrcAt at hs
 cases ht:u.1 with
 | true=>
  simp only [ht,if_true] at hs
  refine wpAny_pyIter_tuple hs (hQ _ ?_ (Heap.size_push ..) fun b o e=>Heap.get?_push_of_some _ e)
  unfold Sub.At
  simp only [ht,if_true]
  exact ⟨_,Heap.get?_push_size _ rfl,rfl,rfl⟩
 | false=>
  simp only [ht,Bool.false_eq_true,if_false] at hs
  refine wpAny_pyIter_list hs (hQ _ ?_ (Heap.size_push ..) fun b o e=>Heap.get?_push_of_some _ e)
  unfold Sub.At
  simp only [ht,Bool.false_eq_true,if_false]
  exact ⟨_,Heap.get?_push_size _ rfl,rfl,rfl⟩
theorem SrcAt.keep {h h':Heap} {u:Bool×Addr×Array Value} (x:SrcAt h u) (k:∀ b o,h.get? b=some o->h'.get? b=some o):SrcAt h' u:=by
 unfold SrcAt at x ⊢
 split at x <;> (rename_i ht; obtain ⟨o,e,r⟩:=x; simp only [ht,if_true,if_false,Bool.false_eq_true]; exact ⟨o,k _ o e,r⟩)
theorem iter_all_go:∀ (us:List (Bool×Addr×Array Value)) (acc:Array Value) (s:Shared) (Q:Array Value->Shared->Prop),(∀ u∈us,SrcAt s.heap u) ->
  (∀ h',(∀ v∈subsFrom s.heap.objs.size us,v.1.At h' 0)->h'.objs.size=s.heap.objs.size+us.length->(∀ b o,s.heap.get? b=some o->h'.get? b=some o) ->
   Q (acc++((subsFrom s.heap.objs.size us).map fun v=>Value.ref v.1.i).toArray) { s with heap:=h' }) ->
  wpAny (model prog w) A (forIn (us.map fun u=>Value.ref u.2.1) acc fun x r=>do let y <- holding r.toList (pyIter x); pure (ForInStep.yield (r.push y))) Q E s:=by
 intro us
 induction us with
 | nil=>
  intro acc s Q _ hQ
  simp only [List.map_nil,List.forIn_nil]
  have:=hQ s.heap (fun _ h=>absurd h List.not_mem_nil) rfl fun _ _ e=>e
  exact wpAny_pure (by simpa [subsFrom] using this)
 | cons u r ih=>
  intro acc s Q hs hQ
  simp only [List.map_cons,List.forIn_cons]
  refine wpAny_bind (wpAny_bind (wpAny_holding (iter_src (hs u List.mem_cons_self) fun h1 a1 s1 k1=>wpAny_pure ?_)))
  refine ih (acc.push (.ref s.heap.objs.size)) { s with heap:=h1 } Q (fun v hv=>(hs v (List.mem_cons_of_mem _ hv)).keep k1) fun h2 a2 s2 k2=>?_
  have e0:subsFrom h1.objs.size r=subsFrom (s.heap.objs.size+1) r:=by rw [s1]
  have q:=hQ h2 (fun v hv=>?_) (by rw [s2]; show h1.objs.size+_=_; rw [s1,List.length_cons]; omega) fun b o e=>k2 b o (k1 b o e)
  ·have e:acc.push (Value.ref s.heap.objs.size)++(List.map (fun v=>Value.ref v.1.i) (subsFrom h1.objs.size r)).toArray=acc++(List.map (fun v=>Value.ref v.1.i) (subsFrom s.heap.objs.size (u::r))).toArray:=by
    rw [e0]; simp [subsFrom]
   show Q (acc.push (Value.ref s.heap.objs.size)++(List.map (fun v=>Value.ref v.1.i) (subsFrom h1.objs.size r)).toArray) _
   rw [e]; exact q
  ·rcases List.mem_cons.mp hv with rfl | hv
   ·exact a1.keep fun o e=>k2 _ o e
   ·exact a2 v (by show v∈subsFrom h1.objs.size r; rw [e0]; exact hv)
theorem iter_all {us:List (Bool×Addr×Array Value)} {Q:List Value->Shared->Prop} (hs:∀ u∈us,SrcAt s.heap u)
  (hQ:∀ h',(∀ v∈subsFrom s.heap.objs.size us,v.1.At h' 0)->h'.objs.size=s.heap.objs.size+us.length->(∀ b o,s.heap.get? b=some o->h'.get? b=some o) ->
   Q ((subsFrom s.heap.objs.size us).map fun v=>Value.ref v.1.i) { s with heap:=h' }):wpAny (model prog w) A (Builtin.SmallTypes.iterAll (us.map fun u=>Value.ref u.2.1)) Q E s:=by
 unfold Builtin.SmallTypes.iterAll
 refine wpAny_bind (iter_all_go us #[] s _ hs fun h' a1 s1 k1=>wpAny_pure ?_)
 have:=hQ h' a1 s1 k1
 simpa using this
theorem subs_length:∀ (us:List (Bool×Addr×Array Value)) (n:Nat),(subsFrom n us).length=us.length:=by
 intro us
 induction us with
 | nil=>intro n; rfl
 | cons u r ih=>intro n; unfold subsFrom; rw [List.length_cons,ih,List.length_cons]
theorem meets_zip (us:List (Bool×Addr×Array Value)) (hl:us.length<=sizeLine) :
  Meets (Builtin.«zip.__new__» ⟨.type "zip" :: us.map fun u=>Value.ref u.2.1,[]⟩) (fun _ R s=>(∀ u∈us,SrcAt s.heap u) /\
   ∀ h',(∀ v∈subsFrom s.heap.objs.size us,v.1.At h' 0)->TupO h' (s.heap.objs.size+us.length) ((subsFrom s.heap.objs.size us).map fun v=>Value.ref v.1.i).toArray ->
    (∃ arr,TupO h' (s.heap.objs.size+us.length+1) arr/\arr.size=us.length)->IsZip h' (s.heap.objs.size+us.length+2) (s.heap.objs.size+us.length) (s.heap.objs.size+us.length+1) .none ->
    (∀ b o,s.heap.get? b=some o->h'.get? b=some o)->R (.ok (.ret (.ref (s.heap.objs.size+us.length+2)))) { s with heap:=h' }):=
 .of_wp fun prog w A R s h=>by
  obtain ⟨hs,h⟩:=h
  show wpAny _ _ (Builtin.SmallTypes.newClass "zip" _>>=_) _ _ _
  refine wpAny_bind ?_
  unfold Builtin.SmallTypes.newClass
  refine wpAny_bind (wpAny_of_eq (a:=true) rfl ?_)
  simp only [Bool.not_true,Bool.false_eq_true,if_false]
  refine wpAny_bind (wpAny_of_eq (a:=true) sub_zip ?_)
  simp only [Bool.not_true,Bool.false_eq_true,if_false]
  refine wpAny_pure ?_
  simp only [List.length_nil,show ¬ (0>1) by decide,if_false]
  refine wpAny_bind (iter_all hs fun h1 a1 s1 k1=>?_)
  refine wpAny_bind (wpAny_newTuple ?_ (by simp [subs_length,hl]))
  refine wpAny_bind (wpAny_newTuple ?_ (by simp [subs_length,hl]))
  generalize hI:((subsFrom s.heap.objs.size us).map fun v=>Value.ref v.1.i)=I at h ⊢
  have hIl:I.length=us.length:=by rw [<- hI,List.length_map,subs_length]
  refine wpAny_bind ?_
  show wpAny _ _ (newObj (.type "zip") (.fields #[.none,.bool false,.bool false,.ref h1.objs.size,.ref (h1.push { cls:=.type "tuple",data:=.seq I.toArray }).objs.size]) none) _ _ _
  refine wpAny_newObj_type (wpAny_pure ?_) (by size_fits)
  have z0:h1.objs.size=s.heap.objs.size+us.length:=s1
  have z1:(h1.push { cls:=.type "tuple",data:=.seq I.toArray }).objs.size=s.heap.objs.size+us.length+1:=by rw [Heap.size_push,s1]
  have z2:((h1.push { cls:=.type "tuple",data:=.seq I.toArray }).push { cls:=.type "tuple",data:=.seq (I.map fun _=>Value.none).toArray }).objs.size=s.heap.objs.size+us.length+2:=by rw [Heap.size_push,z1]
  refine ⟨_,rfl,?_⟩
  have g:=h (((h1.push { cls:=.type "tuple",data:=.seq I.toArray }).push { cls:=.type "tuple",data:=.seq (I.map fun _=>Value.none).toArray }).push { cls:=.type "zip",data:=.fields #[.none,.bool false,.bool false,.ref h1.objs.size,.ref (h1.push { cls:=.type "tuple",data:=.seq I.toArray }).objs.size] })
   (fun v hv=>(a1 v hv).keep fun o e=>Heap.get?_push_of_some _ (Heap.get?_push_of_some _ (Heap.get?_push_of_some _ e))) ?_ ⟨(I.map fun _=>Value.none).toArray,?_,by simp [hIl]⟩ ?_ fun b o e=>Heap.get?_push_of_some _ (Heap.get?_push_of_some _ (Heap.get?_push_of_some _ (k1 b o e)))
  ·rw [<- z2] at g
   exact g
  ·rw [<- z0]; exact Heap.get?_push_of_some _ (Heap.get?_push_of_some _ (Heap.get?_push_size _ rfl))
  ·rw [<- z1]; exact Heap.get?_push_of_some _ (Heap.get?_push_size _ rfl)
  ·rw [<- z2,<- z1,<- z0]; exact Heap.get?_push_size _ rfl
theorem tcall_zip3 (a b c:Value):checkTypeCall "zip" ⟨[a,b,c],[]⟩=pure ():=by kernel_rfl
theorem ncall_zip3 (a b c:Value):checkBuiltinCall "zip.__new__" ⟨[.type "zip",a,b,c],[]⟩=pure ():=by kernel_rfl
theorem args_init4 (a b c d:Value):argsOk "object.__init__" ⟨[a,b,c,d],[]⟩:=by
 unfold argsOk; rw [signature?_of (id := "object.__init__") (n:=['_','_','t','i','n','i','_','_']) (o:=['t','c','e','j','b','o']) (by kernel_rfl) F.owner_object]; kernel_rfl
theorem call_zip (us:List (Bool×Addr×Array Value)) (hl:us.length=2\/us.length=3) {Q:Value->Shared->Prop} (hs:∀ u∈us,SrcAt s.heap u)
  (h:∀ h',(∀ v∈subsFrom s.heap.objs.size us,v.1.At h' 0)->TupO h' (s.heap.objs.size+us.length) ((subsFrom s.heap.objs.size us).map fun v=>Value.ref v.1.i).toArray ->
    (∃ arr,TupO h' (s.heap.objs.size+us.length+1) arr/\arr.size=us.length)->IsZip h' (s.heap.objs.size+us.length+2) (s.heap.objs.size+us.length) (s.heap.objs.size+us.length+1) .none ->
    (∀ b o,s.heap.get? b=some o->h'.get? b=some o)->Q (.ref (s.heap.objs.size+us.length+2)) { s with heap:=h' }) :
  wpAny (model prog w) A (call (.type "zip") (us.map fun u=>Value.ref u.2.1)) Q E s:=by
 have hle:us.length<=sizeLine:=Nat.le_trans (show us.length<=3 by omega) (by decide)
 have k:∀ h',_->_->_->_->_->({ s with heap:=h' }:Shared).TypeIs (.ref (s.heap.objs.size+us.length+2)) "zip" /\ Q (.ref (s.heap.objs.size+us.length+2)) { s with heap:=h' }:=fun h' c1 c2 c3 c4 c5=>⟨⟨_,c4,rfl⟩,h h' c1 c2 c3 c4 c5⟩
 cases us with
 | nil=>rcases hl with hl | hl <;> cases hl
 | cons a us=>
  cases us with
  | nil=>rcases hl with hl | hl <;> cases hl
  | cons b us=>
   cases us with
   | nil=>exact callType_new F.called_zip (by decide) (F.typeCall_zip_2 _ _) (F.newCall_zip_2 _ _) (fun obj=>F.args_object_init_3 obj _ _) F.entry_zip_new (meets_zip [a,b] hle) ⟨hs,k⟩
   | cons c us=>
    cases us with
    | nil=>exact callType_new F.called_zip (by decide) (tcall_zip3 _ _ _) (ncall_zip3 _ _ _) (fun obj=>args_init4 obj _ _ _) F.entry_zip_new (meets_zip [a,b,c] hle) ⟨hs,k⟩
    | cons d us=>rcases hl with hl | hl <;> (simp only [List.length_cons] at hl; omega)
end
end L2
namespace L2
open PySem PySem.Spec PyProof.Rows
theorem choose_list {α β:Type} {R:α->β->Prop}:∀ {l:List α},(∀ a∈l,∃ b,R a b)->∃ l':List (α×β),l'.map (·.1)=l/\∀ p∈l',R p.1 p.2:=by
 intro l
 induction l with
 | nil=>exact fun _=>⟨[],rfl,fun _ h=>absurd h List.not_mem_nil⟩
 | cons a l ih=>
  intro h
  obtain ⟨b,hb⟩:=h a List.mem_cons_self
  obtain ⟨l',e,q⟩:=ih fun x hx=>h x (List.mem_cons_of_mem _ hx)
  refine ⟨(a,b)::l',by rw [List.map_cons,e],fun p hp=>?_⟩
  rcases List.mem_cons.mp hp with rfl | hp
  ·exact hb
  ·exact q p hp
def Sq (K:Frag) (H:Hp) (t:Bool) (a:Addr) (xs:List V):Prop:=if t=true then SqT K H a xs else SqL K H a xs
section
variable {X:Cx} {pins:List (Addr×Obj)} {σ:St} {H:Hp} {s:Shared}
theorem kne {b a:Addr} {o:Obj} (I:Inv X pins σ H s) (h:X.K.lookup a=some o) (f:FpOk X pins H b):a≠b:=by
 intro e
 subst e
 have hb:X.base.get? a=some o:=I.mod.kin a o h
 obtain ⟨f0,f1,f2,f3,f4,f5⟩:=f
 rcases f3 with z | z
 ·exact I.ok.noex a o hb z
 ·exact absurd (Nat.lt_of_lt_of_le (Heap.lt_size (I.ok.bs a o hb).1) z) (Nat.lt_irrefl _)
theorem Sq.ne {t:Bool} {a b:Addr} {xs:List V} (I:Inv X pins σ H s) (h:Sq X.K H t a xs) (f:FpOk X pins H b):a≠b:=by
 have tr:∀ {u:HO},Rd H a u->a≠b:=fun {u} r e=>by
  subst e
  have f0:=f.1
  rcases r with r | ⟨o,r⟩ <;> (rw [f0] at r; cases r)
 unfold Sq at h
 split at h
 ·rcases h with h | ⟨o,its,n,hk,_⟩
  ·exact tr h
  ·exact kne I hk f
 ·rcases h with h | ⟨o,its,n,hk,_⟩
  ·exact tr h
  ·exact kne I hk f
theorem Sq.src {t:Bool} {a:Addr} {xs:List V} (I:Inv X pins σ H s) (h:Sq X.K H t a xs):∃ its:List Value,Vals xs its/\(Sub.mk t 0 a).Src s.heap its.toArray:=by
 unfold Sq at h
 unfold Sub.Src
 split at h
 ·rename_i ht
  obtain ⟨its,r,p,_⟩:=I.tuple h
  exact ⟨its,r,by simp only [ht,if_true]; exact p⟩
 ·rename_i ht
  obtain ⟨its,r,p,_⟩:=I.list h
  exact ⟨its,r,by simp only [ht,if_false]; exact p.isList⟩
theorem Sq.inj {t:Bool} {a:Addr} {xs ys:List V} (I:Inv X pins σ H s) (h:Sq X.K H t a xs) (h':Sq X.K H t a ys):xs=ys:=by
 unfold Sq at h h'
 split at h
 ·rename_i ht; simp only [ht,if_true] at h'; exact I.tuple_inj h h'
 ·rename_i ht; simp only [ht,if_false] at h'; exact I.list_inj h h'
end
def ItZ (K:Frag) (us:List (Bool×Addr)):It:=
  ⟨fun i H=>∀ u∈us,∃ xs x,Sq K H u.1 u.2 xs/\xs[i]?=some x,
   fun i H x H'=>∃ p ys,x=.ref p/\H p=none/\H'=upd H p (.tup ys)/\Paired (fun (u:Bool×Addr) (y:V)=>∀ xs,Sq K H u.1 u.2 xs->xs[i]?=some y) us ys,
   fun i H=>(∀ u∈us,∃ xs,Sq K H u.1 u.2 xs)/\∃ u∈us,∃ xs,Sq K H u.1 u.2 xs/\xs.length<=i⟩
structure ZSt (z TI TO:Addr) (subs:List Sub):Prop where
 zTO:z≠TO
 TIz:TI≠z
 TITO:TI≠TO
 zi:∀ u∈subs,u.i≠z
 ti:∀ u∈subs,u.i≠TO
 Ii:∀ u∈subs,u.i≠TI
 nd:subs.Pairwise fun u v=>u.i≠v.i
abbrev zTn (z TI TO:Addr) (subs:List Sub) (i:Nat) (h:Heap):Prop:=
 IsZip h z TI TO .none/\TupO h TI (subs.map fun u=>Value.ref u.i).toArray/\(∃ arr,TupO h TO arr/\arr.size=subs.length)/\∀ u∈subs,u.At h i
theorem paired_map {α β γ:Type} {F:α->γ->Prop} {f:β->α} {g:β->γ}:∀ {l:List β},(∀ b∈l,F (f b) (g b))->Paired F (l.map f) (l.map g)
 | [],_=>.nil
 | _::_,h=>.cons (h _ List.mem_cons_self) (paired_map fun b hb=>h b (List.mem_cons_of_mem _ hb))
theorem turn_zip {P:Program} {w:World} {K:Frag} {elts:List Expr} {k:Nat} {tp:Pos} {z TI TO:Addr} {subs:List Sub} (D:ZSt z TI TO subs) (hne:subs ≠ []) (hln:subs.length<=sizeLine) :
  Turn P w K (.Tuple elts k tp) (ItZ K (subs.map fun u=>(u.t,u.l))) (z::TI::TO::subs.map (·.i)) z (zTn z TI TO subs) where
 mem:=by simp
 obj:=fun i h st b hb=>by
  obtain ⟨hz,hTI,⟨arr,hTO,_⟩,hs⟩:=st
  simp only [List.mem_cons,List.mem_map] at hb
  rcases hb with rfl | rfl | rfl | ⟨u,hu,rfl⟩
  ·exact ⟨_,hz,fun v q=>by cases q⟩
  ·exact ⟨_,hTI,fun v q=>by cases q⟩
  ·exact ⟨_,hTO,fun v q=>by cases q⟩
  ·obtain ⟨o,e,d⟩:=(hs u hu).obj
   exact ⟨o,e,fun v q=>by rw [d] at q; cases q⟩
 keep:=fun i h h' st kp=>by
  obtain ⟨hz,hTI,⟨arr,hTO,ha⟩,hs⟩:=st
  exact ⟨kp z (by simp) _ hz,kp TI (by simp) _ hTI,⟨arr,kp TO (by simp) _ hTO,ha⟩,fun u hu=>(hs u hu).keep fun o e=>kp u.i (by simp only [List.mem_cons,List.mem_map]; exact .inr (.inr (.inr ⟨u,hu,rfl⟩))) o e⟩
 item:=by
  intro X hP hw hK hc i pins s σ H E I hf st hg
  subst hP hw hK
  obtain ⟨hz,hTI,⟨arr,hTO,ha⟩,hs⟩:=st
  have fz:=hf z (by simp)
  have fT:=hf TO (by simp)
  have fi:∀ u∈subs,FpOk X pins H u.i:=fun u hu=>hf u.i (by simp only [List.mem_cons,List.mem_map]; exact .inr (.inr (.inr ⟨u,hu,rfl⟩)))
  obtain ⟨ss,ess,hss⟩:=choose_list (R:=fun (u:Sub) (q:List Value×List V×V)=>Sq X.K H u.t u.l q.2.1/\Vals q.2.1 q.1/\u.Src s.heap q.1.toArray/\q.2.1[i]?=some q.2.2) (l:=subs) (fun u hu=>by
   obtain ⟨xs,x,h1,h2⟩:=hg (u.t,u.l) (List.mem_map.mpr ⟨u,hu,rfl⟩)
   obtain ⟨its,r,hsrc⟩:=Sq.src I h1
   exact ⟨(its,xs,x),h1,r,hsrc,h2⟩)
  have mss:∀ v∈ss,v.1∈subs:=fun v hv=>by rw [<- ess]; exact List.mem_map.mpr ⟨v,hv,rfl⟩
  have nd2:ss.Pairwise fun u v=>u.1.i≠v.1.i:=by
   have:=D.nd
   rw [<- ess,List.pairwise_map] at this
   exact this
  have DA:Apart z TO (ss.map fun v=>(v.1,v.2.1.toArray)):=by
   refine ⟨D.zTO,?_,?_,?_,?_,?_,?_⟩
   ·rintro _ hu; obtain ⟨v,hv,rfl⟩:=List.mem_map.mp hu; exact D.zi _ (mss v hv)
   ·rintro _ hu; obtain ⟨v,hv,rfl⟩:=List.mem_map.mp hu; exact D.ti _ (mss v hv)
   ·rw [List.pairwise_map]; exact nd2
   ·rintro _ hu; obtain ⟨v,hv,rfl⟩:=List.mem_map.mp hu; exact Sq.ne I (hss v hv).1 fz
   ·rintro _ hu; obtain ⟨v,hv,rfl⟩:=List.mem_map.mp hu; exact Sq.ne I (hss v hv).1 fT
   ·rintro _ hu _ hu2; obtain ⟨v,hv,rfl⟩:=List.mem_map.mp hu; obtain ⟨v2,hv2,rfl⟩:=List.mem_map.mp hu2; exact Sq.ne I (hss v hv).1 (fi _ (mss v2 hv2))
  have el:(ss.map fun v=>(v.1,v.2.1.toArray)).length=subs.length:=by rw [List.length_map,<- ess,List.length_map]
  have eI:((ss.map fun v=>(v.1,v.2.1.toArray)).map fun u=>Value.ref u.1.i)=subs.map fun u=>Value.ref u.i:=by rw [<- ess,List.map_map,List.map_map]; rfl
  have ys:∀ v∈ss,∃ u,v.2.1.toArray[i]?=some u/\RelV v.2.2.2 u:=fun v hv=>by
   obtain ⟨u,e,r⟩:=(hss v hv).2.1.get (hss v hv).2.2.2
   exact ⟨u,by simpa using e,r⟩
  refine zip_item (n:=i) DA (by intro q; apply hne; have:=congrArg List.length q; rw [el] at this; exact List.length_eq_zero_iff.mp this) (by rw [ha,el]) (by rw [el]; exact hln) hz (by rw [eI]; exact hTI) hTO (fun u hu=>?_) fun h1 z1 T1 a1 p1 k1=>?_
  ·obtain ⟨v,hv,rfl⟩:=List.mem_map.mp hu
   obtain ⟨u,e,_⟩:=ys v hv
   exact ⟨hs _ (mss v hv),(hss v hv).2.2.1,u,e⟩
  refine ⟨_,rfl,wpAny_letOwnedTupleGo_zip z1 fun h2 z2 sb2=>?_⟩
  have hzl:z<s.heap.objs.size:=Heap.lt_size hz
  have kp:∀ b o,b≠z->b≠TO->(∀ u∈subs,b≠u.i)->s.heap.get? b=some o->h2.get? b=some o:=fun b o b1 b2 b3 e=>sb2.extBut _ _ b1 (k1 b o b1 b2 (fun u hu=>by obtain ⟨v,hv,rfl⟩:=List.mem_map.mp hu; exact b3 _ (mss v hv)) e)
  have hfr:H s.heap.objs.size=none:=I.hok.fresh (Nat.le_refl _)
  have trk:∀ b u,H b=some u->b≠z/\b≠TO/\∀ v∈subs,b≠v.i:=fun b u e=>⟨fun q=>(by subst q; rw [fz.1] at e; cases e),fun q=>(by subst q; rw [fT.1] at e; cases e),fun v hv q=>(by subst q; rw [(fi v hv).1] at e; cases e)⟩
  have hP2:TupO h2 s.heap.objs.size (ss.map fun v=>v.2.1.toArray.getD i .none).toArray:=by
   have:=sb2.extBut _ _ (Nat.ne_of_gt hzl) p1
   rw [List.map_map] at this
   exact this
  have rel:Vals (ss.map fun v=>v.2.2.2) (ss.map fun v=>v.2.1.toArray.getD i .none):=paired_map fun v hv=>by
   obtain ⟨u,e,r⟩:=ys v hv
   rw [show v.2.1.toArray.getD i Value.none=u by simp only [Array.getD_eq_getD_getElem?,e,Option.getD_some]]
   exact r
  have len:(ss.map fun v=>v.2.2.2).length<=sizeLine:=by rw [List.length_map,show ss.length=subs.length by rw [<- ess,List.length_map]]; exact hln
  refine ⟨.ref s.heap.objs.size,upd H s.heap.objs.size (.tup (ss.map fun v=>v.2.2.2)),?_,rfl,⟨_,_,rfl,hfr,rfl,?_⟩,⟨z2,?_,?_,fun u hu=>?_⟩,fun b hb=>?_⟩
  ·show Inv X pins σ _ { s with heap:=h2 }
   refine I.step (g':=s.gens) (t':=s.toks) (d':=s.drawn) (ch:=z::TO::subs.map (·.i)) (fun b hb=>?_) (fun b o _ _ hc e _=>kp b o ?_ ?_ ?_ e) (fun b o _ _ hc e _=>⟨o.slots,kp b o ?_ ?_ ?_ e⟩) (fun b o hc e n=>?_) (fun b o hc e=>⟨o,kp b o ?_ ?_ ?_ e⟩) (fun b xs e=>?_) (fun b o u e=>?_) (fun b ps e=>?_) (fun m hm=>?_) ?_ I.bare
   ·simp only [List.mem_cons,List.mem_map] at hb
    rcases hb with rfl | rfl | ⟨u,hu,rfl⟩
    ·exact ⟨fz.2.2.2.1,fz.2.1,fz.2.2.2.2.1,fz.2.2.2.2.2⟩
    ·exact ⟨fT.2.2.2.1,fT.2.1,fT.2.2.2.2.1,fT.2.2.2.2.2⟩
    ·have f:=fi u hu; exact ⟨f.2.2.2.1,f.2.1,f.2.2.2.2.1,f.2.2.2.2.2⟩
   all_goals first
    | (intro q; exact hc (by simp [q]; done))
    | (intro u hu q; exact hc (by rw [q]; exact List.mem_cons_of_mem _ (List.mem_cons_of_mem _ (List.mem_map.mpr ⟨u,hu,rfl⟩))))
    | skip
   ·rw [upd_ne (Nat.ne_of_lt (Heap.lt_size e))]; exact n
   ·rw [upd_ne (ne_of_none e hfr)]; exact e
   ·rw [upd_ne (ne_of_none e hfr)]; exact e
   ·exact ⟨#[],by rw [upd_ne (ne_of_none e hfr),e]; simp⟩
   ·obtain ⟨o,es,ep,ho,r⟩:=hm
    exact ⟨o,es,ep,kp _ o (Ne.symm fz.2.1) (Ne.symm fT.2.1) (fun u hu=>Ne.symm (fi u hu).2.1) ho,r⟩
   ·intro b u e
    by_cases hb:b=s.heap.objs.size
    ·subst hb
     rw [upd_same] at e; cases e
     exact ⟨len,_,rel,⟨_,hP2,rfl,_,rfl⟩⟩
    ·rw [upd_ne hb] at e
     refine (I.hok b u e).stay (fun c v hcc q=>?_) (fun c q=>by rw [upd_ne (ne_of_none q hfr)]; exact q) fun c xs q=>by rw [upd_ne (ne_of_none q hfr)]; exact q
     rcases hcc with rfl | hcc
     ·exact kp _ v (trk _ _ e).1 (trk _ _ e).2.1 (trk _ _ e).2.2 q
     ·exact kp _ v (trk _ _ hcc).1 (trk _ _ hcc).2.1 (trk _ _ hcc).2.2 q
  ·rw [<- ess,List.map_map]
   exact paired_map fun v hv xs hx=>by rw [Sq.inj I hx (hss v hv).1]; exact (hss v hv).2.2.2
  ·exact kp TI _ D.TIz D.TITO (fun u hu=>Ne.symm (D.Ii u hu)) hTI
  ·obtain ⟨arr',hT',ha'⟩:=T1
   exact ⟨arr',sb2.extBut _ _ D.zTO.symm hT',by rw [ha',el]⟩
  ·have hv:∃ v∈ss,v.1=u:=by rw [<- ess] at hu; exact List.mem_map.mp hu
   obtain ⟨v,hv,rfl⟩:=hv
   exact (a1 (v.1,v.2.1.toArray) (List.mem_map.mpr ⟨v,hv,rfl⟩)).keep fun o e=>sb2.extBut _ _ (D.zi _ (mss v hv)) e
  ·have:b≠s.heap.objs.size:=by
    simp only [List.mem_cons,List.mem_map] at hb
    rcases hb with rfl | rfl | rfl | ⟨u,hu,rfl⟩
    ·exact Nat.ne_of_lt hzl
    ·exact Nat.ne_of_lt (Heap.lt_size hTI)
    ·exact Nat.ne_of_lt (Heap.lt_size hTO)
    ·obtain ⟨o,e,_⟩:=(hs u hu).obj; exact Nat.ne_of_lt (Heap.lt_size e)
   rw [upd_ne this]
   exact (hf b hb).1
 done:=by
  intro X hP hw hK hc i pins s σ H E I hf st hg
  subst hP hw hK
  obtain ⟨hz,hTI,⟨arr,hTO,ha⟩,hs⟩:=st
  obtain ⟨hall,u0,hu0,xs0,hq0,hl0⟩:=hg
  have fz:=hf z (by simp)
  have fT:=hf TO (by simp)
  have fi:∀ u∈subs,FpOk X pins H u.i:=fun u hu=>hf u.i (by simp only [List.mem_cons,List.mem_map]; exact .inr (.inr (.inr ⟨u,hu,rfl⟩)))
  obtain ⟨ss,ess,hss⟩:=choose_list (R:=fun (u:Sub) (q:List Value×List V)=>Sq X.K H u.t u.l q.2/\Vals q.2 q.1/\u.Src s.heap q.1.toArray) (l:=subs) (fun u hu=>by
   obtain ⟨xs,h1⟩:=hall (u.t,u.l) (List.mem_map.mpr ⟨u,hu,rfl⟩)
   obtain ⟨its,r,hsrc⟩:=Sq.src I h1
   exact ⟨(its,xs),h1,r,hsrc⟩)
  have mss:∀ v∈ss,v.1∈subs:=fun v hv=>by rw [<- ess]; exact List.mem_map.mpr ⟨v,hv,rfl⟩
  have nd2:ss.Pairwise fun u v=>u.1.i≠v.1.i:=by
   have:=D.nd
   rw [<- ess,List.pairwise_map] at this
   exact this
  have DA:Apart z TO (ss.map fun v=>(v.1,v.2.1.toArray)):=by
   refine ⟨D.zTO,?_,?_,?_,?_,?_,?_⟩
   ·rintro _ hu; obtain ⟨v,hv,rfl⟩:=List.mem_map.mp hu; exact D.zi _ (mss v hv)
   ·rintro _ hu; obtain ⟨v,hv,rfl⟩:=List.mem_map.mp hu; exact D.ti _ (mss v hv)
   ·rw [List.pairwise_map]; exact nd2
   ·rintro _ hu; obtain ⟨v,hv,rfl⟩:=List.mem_map.mp hu; exact Sq.ne I (hss v hv).1 fz
   ·rintro _ hu; obtain ⟨v,hv,rfl⟩:=List.mem_map.mp hu; exact Sq.ne I (hss v hv).1 fT
   ·rintro _ hu _ hu2; obtain ⟨v,hv,rfl⟩:=List.mem_map.mp hu; obtain ⟨v2,hv2,rfl⟩:=List.mem_map.mp hu2; exact Sq.ne I (hss v hv).1 (fi _ (mss v2 hv2))
  have el:(ss.map fun v=>(v.1,v.2.1.toArray)).length=subs.length:=by rw [List.length_map,<- ess,List.length_map]
  have eI:((ss.map fun v=>(v.1,v.2.1.toArray)).map fun u=>Value.ref u.1.i)=subs.map fun u=>Value.ref u.i:=by rw [<- ess,List.map_map,List.map_map]; rfl
  refine zip_stop (n:=i) (I.ok.hd hc) DA (by rw [ha,el]) (by rw [el]; exact hln) hz (by rw [eI]; exact hTI) hTO (fun u hu=>?_) ?_ fun h1 k1=>⟨rfl,?_⟩
  ·obtain ⟨v,hv,rfl⟩:=List.mem_map.mp hu
   exact ⟨hs _ (mss v hv),(hss v hv).2.2⟩
  ·obtain ⟨u,hu,e0⟩:=List.mem_map.mp hu0
   have hv:∃ v∈ss,v.1=u:=by rw [<- ess] at hu; exact List.mem_map.mp hu
   obtain ⟨v,hv,rfl⟩:=hv
   subst e0
   refine ⟨(v.1,v.2.1.toArray),List.mem_map.mpr ⟨v,hv,rfl⟩,?_⟩
   have e1:=Sq.inj I (hss v hv).1 hq0
   have e2:=(hss v hv).2.1.length
   rw [e1] at e2
   simp only [List.getElem?_toArray]
   exact List.getElem?_eq_none (by omega)
  ·have kp:∀ b o,b≠z->b≠TO->(∀ u∈subs,b≠u.i)->s.heap.get? b=some o->h1.get? b=some o:=fun b o b1 b2 b3 e=>k1 b o b1 b2 (fun u hu=>by obtain ⟨v,hv,rfl⟩:=List.mem_map.mp hu; exact b3 _ (mss v hv)) e
   have trk:∀ b u,H b=some u->b≠z/\b≠TO/\∀ v∈subs,b≠v.i:=fun b u e=>⟨fun q=>(by subst q; rw [fz.1] at e; cases e),fun q=>(by subst q; rw [fT.1] at e; cases e),fun v hv q=>(by subst q; rw [(fi v hv).1] at e; cases e)⟩
   refine I.step (g':=s.gens) (t':=s.toks) (d':=s.drawn) (ch:=z::TO::subs.map (·.i)) (fun b hb=>?_) (fun b o _ _ hc e _=>kp b o ?_ ?_ ?_ e) (fun b o _ _ hc e _=>⟨o.slots,kp b o ?_ ?_ ?_ e⟩) (fun b o hc e n=>n) (fun b o hc e=>⟨o,kp b o ?_ ?_ ?_ e⟩) (fun b xs e=>e) (fun b o u e=>e) (fun b ps e=>⟨#[],by rw [e]; simp⟩) (fun m hm=>?_) (fun b u e=>?_) I.bare
   ·simp only [List.mem_cons,List.mem_map] at hb
    rcases hb with rfl | rfl | ⟨u,hu,rfl⟩
    ·exact ⟨fz.2.2.2.1,fz.2.1,fz.2.2.2.2.1,fz.2.2.2.2.2⟩
    ·exact ⟨fT.2.2.2.1,fT.2.1,fT.2.2.2.2.1,fT.2.2.2.2.2⟩
    ·have f:=fi u hu; exact ⟨f.2.2.2.1,f.2.1,f.2.2.2.2.1,f.2.2.2.2.2⟩
   all_goals first
    | (intro q; exact hc (by simp [q]; done))
    | (intro u hu q; exact hc (by rw [q]; exact List.mem_cons_of_mem _ (List.mem_cons_of_mem _ (List.mem_map.mpr ⟨u,hu,rfl⟩))))
    | skip
   ·obtain ⟨o,es,ep,ho,r⟩:=hm
    exact ⟨o,es,ep,kp _ o (Ne.symm fz.2.1) (Ne.symm fT.2.1) (fun u hu=>Ne.symm (fi u hu).2.1) ho,r⟩
   ·refine (I.hok b u e).stay (fun c v hcc q=>?_) (fun c q=>q) fun c xs q=>q
    rcases hcc with rfl | hcc
    ·exact kp _ v (trk _ _ e).1 (trk _ _ e).2.1 (trk _ _ e).2.2 q
    ·exact kp _ v (trk _ _ hcc).1 (trk _ _ hcc).2.1 (trk _ _ hcc).2.2 q
 self:=fun _ _ _ _ _ st h=>wpAny_pyIter_zip st.1 h
def iZip (K:Frag) (ta:TA):TI:=fun σ H R=>ta σ H fun vs H1=>∃ us:List (Bool×Addr),vs=us.map (fun u=>V.ref u.2)/\(us.length=2\/us.length=3)/\(∀ u∈us,∃ xs,Sq K H1 u.1 u.2 xs)/\R (ItZ K us) H1
theorem neN {a b:Nat} (h:a≠b):(a:Addr)≠b:=h
theorem vals_refs:∀ {us:List (Bool×Addr)} {vs:List Value},Vals (us.map fun u=>V.ref u.2) vs->vs=us.map fun u=>Value.ref u.2:=by
 intro us
 induction us with
 | nil=>intro vs h; cases h; rfl
 | cons u us ih=>
  intro vs h
  cases h with
  | cons r t=>
   have r':_=Value.ref _:=r
   rw [r',ih t]; rfl
theorem subs_i:∀ (us:List (Bool×Addr×Array Value)) (n:Nat),∀ v∈subsFrom n us,n<=v.1.i/\n+us.length>v.1.i:=by
 intro us
 induction us with
 | nil=>exact fun _ _ h=>absurd h List.not_mem_nil
 | cons u r ih=>
  intro n v h
  rcases List.mem_cons.mp h with rfl | h
  ·exact ⟨Nat.le_refl _,by show n+(r.length+1)>n; omega⟩
  ·have:=ih (n+1) v h
   rw [List.length_cons]; omega
theorem subs_nd:∀ (us:List (Bool×Addr×Array Value)) (n:Nat),(subsFrom n us).Pairwise fun u v=>u.1.i≠v.1.i
 | [],_=>.nil
 | u::r,n=>by
  refine List.pairwise_cons.mpr ⟨fun v hv=>?_,subs_nd r (n+1)⟩
  have:=subs_i r (n+1) v hv
  show (n:Nat)≠v.1.i
  omega
theorem subs_src:∀ (us:List (Bool×Addr×Array Value)) (n:Nat),(subsFrom n us).map (fun u=>(u.1.t,u.1.l))=us.map fun u=>(u.1,u.2.1)
 | [],_=>rfl
 | u::r,n=>by unfold subsFrom; rw [List.map_cons,subs_src r,List.map_cons]
section
variable {X:Cx}
theorem pi_zip {a:Expr} {es elts:List Expr} {ta:TA} {p pos tp:Pos} {k:Nat} (hg:Gl X "zip") (hm:X.mg "zip" = none) (ha:PA X (a::es) ta) (hs:starEach (a::es) X.env=(false,eval a X.env)::starEach es X.env:=by rfl)
  (hpl:(backTo pos (starEach es X.env)).any (·.1)=false:=by rfl):PI X (.Tuple elts k tp) (.Call (.Name "zip" p) (a::es) [] pos) (iZip X.K ta):=by
 intro pins s σ H R I h
 refine Call_ (ld_blt I hg hm boot_zip (PyProof.Rows.callWith_type1 (thn (ha pos pins s σ H _ I h) fun vs s1 zz49=>?_) hs hpl))
 obtain ⟨xs,H1,I1,r1,us,e1,hl,hsq,q⟩:=zz49
 subst e1
 have e2:=vals_refs r1
 subst e2
 obtain ⟨ws,ew,hws⟩:=choose_list (R:=fun (u:Bool×Addr) (its:Array Value)=>SrcAt s1.heap (u.1,u.2,its)) (l:=us) (fun u hu=>by
  obtain ⟨ys,hy⟩:=hsq u hu
  obtain ⟨its,_,hsrc⟩:=Sq.src I1 hy
  exact ⟨its.toArray,by unfold SrcAt; unfold Sub.Src at hsrc; exact hsrc⟩)
 have ev:us.map (fun u=>Value.ref u.2)=(ws.map fun w=>(w.1.1,w.1.2,w.2)).map fun u=>Value.ref u.2.1:=by rw [<- ew,List.map_map,List.map_map]; rfl
 have el:(ws.map fun w=>(w.1.1,w.1.2,w.2)).length=us.length:=by rw [<- ew,List.length_map,List.length_map]
 rw [ev]
 generalize hW:(ws.map fun w=>(w.1.1,w.1.2,w.2))=W at el ev
 have hsw:∀ u∈W,SrcAt s1.heap u:=fun u hu=>by
  rw [<- hW] at hu
  obtain ⟨w,hw,rfl⟩:=List.mem_map.mp hu
  exact hws w hw
 refine call_zip W (by rw [el]; exact hl) hsw fun h' hA hTI hTO hz hk=>wpAny_pyIter_zip hz ?_
 have I2:Inv X pins σ H1 { s1 with heap:=h' }:=I1.kept (t':=s1.toks) hk
 have eS:((subsFrom s1.heap.objs.size W).map (·.1)).map (fun u=>(u.t,u.l))=us:=by
  rw [List.map_map]
  show (subsFrom s1.heap.objs.size W).map (fun u=>(u.1.t,u.1.l))=us
  rw [subs_src,<- hW,List.map_map,<- ew]
  rfl
 have D:ZSt (s1.heap.objs.size+W.length+2) (s1.heap.objs.size+W.length) (s1.heap.objs.size+W.length+1) ((subsFrom s1.heap.objs.size W).map (·.1)):=by
  refine ⟨neN (by omega),neN (by omega),neN (by omega),?_,?_,?_,?_⟩
  ·rintro _ hu; obtain ⟨v,hv,rfl⟩:=List.mem_map.mp hu; have:=subs_i W _ v hv; exact neN (by omega)
  ·rintro _ hu; obtain ⟨v,hv,rfl⟩:=List.mem_map.mp hu; have:=subs_i W _ v hv; exact neN (by omega)
  ·rintro _ hu; obtain ⟨v,hv,rfl⟩:=List.mem_map.mp hu; have:=subs_i W _ v hv; exact neN (by omega)
  ·rw [List.pairwise_map]; exact subs_nd W _
 have ls:((subsFrom s1.heap.objs.size W).map (·.1)).length=W.length:=by rw [List.length_map,subs_length]
 have TZ:=turn_zip (P:=X.prog) (w:=X.w) (K:=X.K) (elts:=elts) (k:=k) (tp:=tp) D (by intro q; have:=congrArg List.length q; rw [ls,el] at this; have h0:us.length=0:=this; omega) (by rw [ls,el]; exact Nat.le_trans (show us.length<=3 by omega) (by decide))
 rw [eS] at TZ
 refine ⟨_,_,_,_,H1,rfl,I2,TZ,⟨hz,?_,?_,fun u hu=>?_⟩,fun b hb=>?_,q⟩
 ·rw [List.map_map]; exact hTI
 ·obtain ⟨arr,h1,h2⟩:=hTO
  exact ⟨arr,h1,by rw [ls]; exact h2⟩
 ·obtain ⟨v,hv,rfl⟩:=List.mem_map.mp hu
  exact hA v hv
 ·have hb':s1.heap.objs.size<=b:=by
   simp only [List.mem_cons,List.mem_map] at hb
   rcases hb with rfl | rfl | rfl | ⟨_,⟨v,hv,rfl⟩,rfl⟩
   ·omega
   ·omega
   ·omega
   ·exact (subs_i W _ v hv).1
  have f:=I1.fpOk (H':=H1) hb' (I1.hok.fresh hb')
  exact f
end
end L2
namespace L2
open PySem PySem.Spec PyProof.Rows
theorem relabel_lookup (cs:Scope) (env:Env) (x:Str):(relabel cs env).names.lookup x=(cs.names.lookup x).map fun k=>if (k == .free&&env.scope.kind == .function&&env.kindOf x == some .cell)=true then .cell else k:=by
 unfold relabel
 show List.lookup x (cs.names.map _)=_
 induction cs.names with
 | nil=>rfl
 | cons p r ih=>
  obtain ⟨n,k⟩:=p
  by_cases hx:x=n
  ·subst hx
   rw [List.map_cons]
   simp only [List.lookup_cons]
   split <;> simp_all
  ·have hb:(x == n)=false:=by simpa using hx
   have er:List.lookup x ((n,k)::r)=List.lookup x r:=by rw [List.lookup_cons,hb]
   rw [List.map_cons,er]
   refine Eq.trans ?_ ih
   dsimp only
   by_cases hc:(k == NameKind.free&&env.scope.kind == ScopeKind.function&&env.kindOf n == some NameKind.cell)=true
   ·rw [if_pos hc,List.lookup_cons,hb]
   ·rw [if_neg hc,List.lookup_cons,hb]
theorem closure_of {env : Env} : ∀ (names : List (Str × NameKind)) (cs0 : List (Str × Addr)), (∀ x ∈ names, x.2 = .free -> ∃ c, env.cells.lookup x.1 = some c) -> (∀ x c, cs0.lookup x = some c -> env.cells.lookup x = some c) ->
    ∃ cl, (forIn (m := Sem) names cs0 fun x __s => if (x.snd == NameKind.free) = true then do
              let __do_lift <- cellOf env x.fst
              pure (ForInStep.yield ((x.fst, __do_lift) :: __s))
            else pure (ForInStep.yield __s)) = pure cl /\ (∀ x c, cl.lookup x = some c -> env.cells.lookup x = some c) /\ (∀ x, (x, NameKind.free) ∈ names -> ∃ c, cl.lookup x = some c) /\ ∀ x c, cs0.lookup x = some c -> ∃ c', cl.lookup x = some c' := by
  intro names
  induction names with
  | nil =>
    intro cs0 _ h0
    exact ⟨cs0, by simp only [List.forIn_nil], h0, fun _ h => absurd h List.not_mem_nil, fun _ c h => ⟨c, h⟩⟩
  | cons p r ih =>
    intro cs0 hf h0
    obtain ⟨n, k⟩ := p
    by_cases hk : k = .free
    · subst hk
      obtain ⟨c, hc⟩ := hf (n, .free) List.mem_cons_self rfl
      obtain ⟨cl, e, h1, h2, h3⟩ := ih ((n, c) :: cs0) (fun x hx => hf x (List.mem_cons_of_mem _ hx)) (fun x c' hx => by
        rw [List.lookup_cons] at hx
        split at hx
        · rename_i hb
          have hxn : x = n := by simpa using hb
          cases hx; rw [hxn]; exact hc
        · exact h0 x c' hx)
      have hn : ∃ c', cl.lookup n = some c' := h3 n c (by simp)
      refine ⟨cl, ?_, h1, fun x hx => ?_, fun x c' hx => ?_⟩
      · rw [List.forIn_cons]
        simp only [beq_self_eq_true, if_true, cellOf, hc]
        exact e
      · rcases List.mem_cons.mp hx with q | hx
        · cases q; exact hn
        · exact h2 x hx
      · by_cases hxn : x = n
        · subst hxn; exact hn
        · exact h3 x c' (by
            have hb : (x == n) = false := by simpa using hxn
            rw [List.lookup_cons, hb]; exact hx)
    · have hb : (k == NameKind.free) = false := by simpa using hk
      obtain ⟨cl, e, h1, h2, h3⟩ := ih cs0 (fun x hx => hf x (List.mem_cons_of_mem _ hx)) h0
      refine ⟨cl, ?_, h1, fun x hx => ?_, h3⟩
      · rw [List.forIn_cons]
        simp only [hb, Bool.false_eq_true, if_false]
        exact e
      · rcases List.mem_cons.mp hx with q | hx
        · cases q; exact absurd rfl hk
        · exact h2 x hx
structure CompScope (sc cs:Scope) (N N':List Str):Prop where
 kind:cs.kind=.function
 ncell:∀ x∈cs.names,x.2≠.cell
 loc:∀ x∈cs.names,x.2=.local->cs.names.lookup x.1=some .local
 free:∀ x∈cs.names,x.2=.free->sc.names.lookup x.1=some .cell\/sc.names.lookup x.1=some .free
 nd:N'.Nodup
 len:N.length<=N'.length
 same:∀ i∈List.range N.length,N'[i]?=N[i]?\/∀ x∈N'[i]?,cs.names.lookup x=none
 out:∀ x∈N'.take N.length,cs.names.lookup x≠some .local
abbrev cxComp (X:Cx) (cs:Scope) (cl:List (Str×Addr)) (N':List Str) (ex:List Addr) (s:Shared) (H:Hp):Cx:=
 { X with N:=N',s₀:=s,H₀:=H,env:=compEnvC cs cl s.heap.objs.size X.env,outer:=X.stack,stack:=X.stack,ex:=ex,fn:=fun _=>false,pn:=[],xe:=fun _ _=>False }
def inner (N':List Str) (σ:St):St:=σ++List.replicate (N'.length-σ.length) none
theorem inner_get {N':List Str} {σ:St} {i:Nat} {v:V} (h:(inner N' σ)[i]?=some (some v)):σ[i]?=some (some v):=by
 unfold inner at h
 by_cases hi:i<σ.length
 ·rwa [List.getElem?_append_left hi] at h
 ·rw [List.getElem?_append_right (by omega),List.getElem?_replicate] at h
  split at h <;> cases h
theorem comp_inv {X:Cx} {pins:List (Addr×Obj)} {σ:St} {H:Hp} {s3 s4:Shared} {cs:Scope} {cl:List (Str×Addr)} {N':List Str} {fp:List Addr} {m:Str->Option Value} (S:CompScope X.env.scope cs X.N N') (I:Inv X pins σ H s3)
  (hcl1:∀ x c,cl.lookup x=some c->X.env.cells.lookup x=some c) (hcl2:∀ x,(x,NameKind.free)∈cs.names->∃ c,cl.lookup x=some c) (hf:∀ b∈fp,FpOk X pins H b) (hlt:∀ b∈fp,b<s3.heap.objs.size)
  (kp:∀ b o,s3.heap.get? b=some o->s4.heap.get? b=some o) (hn:s4.heap.Ns s3.heap.objs.size m) (hos:s4.os=s3.os) (hg:s4.gens=s3.gens):Inv (cxComp X cs cl N' fp s3 H) [] (inner N' σ) H s4:=by
 have kcell:∀ {c:Addr} {v:Option Value},s3.heap.IsCell c v->s4.heap.IsCell c v:=fun {c v} z=>by obtain ⟨o,e,d⟩:=z; exact ⟨o,kp c o e,d⟩
 refine ⟨⟨I.ok.mod,S.kind,I.ok.glob,I.ok.blt,Nat.le_refl _,fun x y c h1 h2=>I.ok.inj x y c (hcl1 x c h1) (hcl1 y c h2),fun x hx=>?_,fun x c h _=>absurd (show false=true from h) (by decide),I.ok.hd,I.ok.frames,.inl rfl,fun b hb=>⟨?_,fun x c e=>(hf b hb).2.2.2.2.1 x c (hcl1 x c e)⟩,I.bs,Nat.le_trans I.ok.bsz I.sz,fun b o e hb=>?_,fun b hb hfs=>?_,I.stack,I.stkFree⟩,
  hos,by rw [hg]; exact I.bare,Un.kept kp,⟨m,hn,fun i x v e1 e2 e3=>?_⟩,fun x c e=>?_,I.hok.fresh (Nat.le_refl _),fun x c e=>I.freeC x c (hcl1 x c e),fun p hp=>absurd (show p∈([]:List (Addr×Obj)) from hp) (by simp),I.hok.kept kp,?_⟩
 ·have hx':(relabel cs X.env).names.lookup x=some .cell\/(relabel cs X.env).names.lookup x=some .free:=hx
  rw [relabel_lookup] at hx'
  cases hl:cs.names.lookup x with
  | none=>rw [hl] at hx'; rcases hx' with h | h <;> cases h
  | some k=>
   have hm:=PySem.mem_of_lookup hl
   by_cases hk:k=.free
   ·subst hk; exact hcl2 x hm
   ·exfalso
    have hb:(k == NameKind.free)=false:=by simpa using hk
    rw [hl] at hx'
    simp only [Option.map_some,hb,Bool.false_and,Bool.false_eq_true,if_false] at hx'
    rcases hx' with h | h
    ·cases h; exact S.ncell _ hm rfl
    ·cases h; exact hk rfl
 ·intro q
  have hb':b=s3.heap.objs.size:=q
  exact absurd (hlt b hb) (by rw [hb']; exact Nat.lt_irrefl _)
 ·obtain ⟨f0,f1,f2,f3,f4,f5⟩:=hf b hb
  rcases f3 with z | z
  ·exact I.ok.noex b o e z
  ·exact absurd (Nat.lt_of_lt_of_le (Heap.lt_size (I.ok.bs b o e).1) z) (Nat.lt_irrefl _)
 ·have hfs':b∈frs X.stack:=hfs
  rcases List.mem_cons.mp (I.stkSub b hfs') with z | z
  ·exact (hf b hb).2.1 z
  ·exact (hf b hb).2.2.1 z
 ·have e2':=inner_get e2
  have hi:i<X.N.length:=by rw [<- I.len]; exact (List.getElem?_eq_some_iff.mp e2').1
  have e1':N'[i]?=some x:=e1
  have e3':Vis (relabel cs X.env) x:=e3
  have hv:∃ k,cs.names.lookup x=some k:=by
   unfold Vis at e3'
   rw [relabel_lookup] at e3'
   cases hl:cs.names.lookup x with
   | none=>rw [hl] at e3'; rcases e3' with h | h | h <;> cases h
   | some k=>exact ⟨k,rfl⟩
  obtain ⟨k,hk⟩:=hv
  have hN:X.N[i]?=some x:=by
   rcases S.same i (List.mem_range.mpr hi) with q | q
   ·rw [<- q]; exact e1'
   ·have:=q x (by rw [e1']; rfl)
    rw [hk] at this; cases this
  have hnl:k≠.local:=fun q=>by
   subst q
   exact S.out x (List.mem_of_getElem? (i:=i) (by rw [List.getElem?_take_of_lt hi]; exact e1')) hk
  have hm:=PySem.mem_of_lookup hk
  have hfree:k=.free:=by
   unfold Vis at e3'
   rw [relabel_lookup,hk] at e3'
   by_cases hkf:k=.free
   ·exact hkf
   ·exfalso
    have hb:(k == NameKind.free)=false:=by simpa using hkf
    simp only [Option.map_some,hb,Bool.false_and,Bool.false_eq_true,if_false] at e3'
    rcases e3' with h | h | h
    ·exact hnl (Option.some.inj h)
    ·exact S.ncell _ hm (Option.some.inj h)
    ·exact hkf (Option.some.inj h)
  subst hfree
  obtain ⟨m0,hn0,hl0⟩:=I.loc
  have hvis:Vis X.env.scope x:=by
   rcases S.free _ hm rfl with h | h
   ·exact .inr (.inl h)
   ·exact .inr (.inr h)
  obtain ⟨u,r,l⟩:=hl0 i x v hN e2' hvis
  refine ⟨u,r,.inr ⟨?_,?_⟩⟩
  ·show (relabel cs X.env).names.lookup x=some .cell\/(relabel cs X.env).names.lookup x=some .free
   rw [relabel_lookup,hk]
   show some (if _ then _ else _)=_\/some (if _ then _ else _)=_
   split
   ·exact .inl rfl
   ·exact .inr rfl
  ·obtain ⟨c,hc⟩:=hcl2 x hm
   have hc':=hcl1 x c hc
   rcases l with ⟨q,_⟩ | ⟨_,c',e,z⟩
   ·exfalso
    have q':X.env.scope.names.lookup x=some .local:=q
    rcases S.free _ hm rfl with h | h <;> (rw [q'] at h; cases h)
   ·rw [hc'] at e; cases e
    exact ⟨c,hc,kcell z⟩
 ·obtain ⟨v,z⟩:=I.cell x c (hcl1 x c e)
  exact ⟨v,kcell z⟩
 ·unfold inner
  rw [List.length_append,List.length_replicate,I.len]
  have:=S.len
  show _=N'.length
  omega
def GKeep (n:Nat) (g:TG):Prop:=∀ (v:V) (σ:St) (H:Hp) (Q:St->Hp->Prop),g v σ H Q->g v σ H fun σ2 H2=>Q σ2 H2/\σ2.length=σ.length/\∀ j,j<n->σ2[j]?=σ[j]?
theorem gk_name {n i:Nat} (h:n<=i):GKeep n (gName i):=fun v σ H Q q=>⟨q,by simp,fun j hj=>List.getElem?_set_ne (by omega)⟩
def PIf (X:Cx) (ifs:List Expr) (t:TT):Prop:=
 ∀ (pins:List (Addr×Obj)) (s:Shared) (σ:St) (H:Hp) (Q:Bool->Hp->Prop),Inv X pins σ H s->t σ H Q ->
  wpAny (model X.prog X.w) X.A (forIn ifs true fun c r=>if r=true then do let ok <- isTrue c X.env (eval c X.env); pure (ForInStep.yield ok) else pure (ForInStep.yield r)) (TP X pins σ Q) X.xe s
def tYes:TT:=fun _ H Q=>Q true H
theorem pif_nil {X:Cx}:PIf X [] tYes:=fun _ _ _ H _ I h=>wpAny_tests_nil ⟨H,I,h⟩
def CompW (J:It) (D:Addr) (g:TG) (tc:TT) (te:TE) (σ':St) (H1:Hp) (Q:Hp->Prop):Prop:=
 ∃ W:Nat->Nat->Hp->Prop,(∃ m,W 0 m (upd H1 D (.lst [])))/\∀ i m H2,W i m H2 ->
  (J.stop i H2/\Q H2)\/(J.go i H2/\∀ x H3,J.yld i H2 x H3->g x σ' H3 fun σ4 H4=>tc σ4 H4 fun b H5=>
   if b=true then te σ4 H5 fun y H6=>∃ ys,H6 D=some (.lst ys)/\ys.length<sizeLine/\∃ m',m'<m/\W (i+1) m' (upd H6 D (.lst (ys ++ [y])))
   else ∃ m',m'<m/\W (i+1) m' H5)
def tComp (N':List Str) (wi:TI) (g:TG) (tc:TT) (te:TE):TE:=fun σ H Q=>wi σ H fun J H1=>∀ D,H1 D=none->CompW J D g tc te (inner N' σ) H1 (Q (.ref D))
section
variable {X:Cx} {cs:Scope} {N':List Str} {tg iter elt:Expr} {ifs:List Expr} {wi:TI} {g:TG} {tc:TT} {te:TE} {pos:Pos}
theorem fp_in {cl:List (Str×Addr)} {pins:List (Addr×Obj)} {fp:List Addr} {H3 H':Hp} {s3:Shared} (hcl1:∀ x c,cl.lookup x=some c->X.env.cells.lookup x=some c) (stk:∀ b∈frs X.stack,b∈X.env.locals::X.fs)
  (hf3:∀ b∈fp,FpOk X pins H3 b) (hlt:∀ b∈fp,b<s3.heap.objs.size) (hn:∀ b∈fp,H' b=none):∀ b∈fp,FpOk (cxComp X cs cl N' fp s3 H3) [] H' b:=fun b hb=>by
 obtain ⟨f0,f1,f2,f3,f4,f5⟩:=hf3 b hb
 refine ⟨hn b hb,Nat.ne_of_lt (hlt b hb),fun hfs=>?_,.inl hb,fun x c e=>f4 x c (hcl1 x c e),fun p hp=>absurd (show p∈([]:List (Addr×Obj)) from hp) (by simp)⟩
 have hfs':b∈frs X.stack:=hfs
 rcases List.mem_cons.mp (stk b hfs') with z | z
 ·exact f1 z
 ·exact f2 z
theorem comp_loop {cl:List (Str×Addr)} {pins:List (Addr×Obj)} {σ:St} {R:Result->Shared->Prop} {Q:Hp->Prop} {s3 s4:Shared} {H3:Hp} {it D:Addr} {fp:List Addr} {tn:Nat->Heap->Prop} {J:It} {W:Nat->Nat->Hp->Prop} {m0:Nat}
  (hc:X.calm=true) (hg:PG (cxComp X cs cl N' fp s3 H3) tg g) (hk:GKeep X.N.length g) (ht:PIf (cxComp X cs cl N' fp s3 H3) ifs tc) (he:PE (cxComp X cs cl N' fp s3 H3) elt te)
  (hcl1:∀ x c,cl.lookup x=some c->X.env.cells.lookup x=some c)
  (I3:Inv X pins σ H3 s3) (I4:Inv (cxComp X cs cl N' fp s3 H3) [] (inner N' σ) H3 s4) (T:Turn X.prog X.w X.K tg J fp it tn) (st:tn 0 s4.heap) (hf3:∀ b∈fp,FpOk X pins H3 b) (hlt:∀ b∈fp,b<s3.heap.objs.size)
  (w0:W 0 m0 H3)
  (turn:∀ i m H2,W i m H2->(J.stop i H2/\Q H2)\/(J.go i H2/\∀ x H3,J.yld i H2 x H3->g x (inner N' σ) H3 fun σ4 H4=>tc σ4 H4 fun b H5=>
   if b=true then te σ4 H5 fun y H6=>∃ ys,H6 D=some (.lst ys)/\ys.length<sizeLine/\∃ m',m'<m/\W (i+1) m' (upd H6 D (.lst (ys ++ [y])))
   else ∃ m',m'<m/\W (i+1) m' H5))
  (hR:∀ (H':Hp) (s':Shared),Inv X pins σ H' s'->Q H'->(∃ m,s'.heap.Ns s3.heap.objs.size m)->FpOk X pins H' s3.heap.objs.size->R (.ok .next) s') :
  codeAny (model X.prog X.w) X.A (.compLoop (.ListComp elt [⟨tg,iter,ifs,0⟩] cs pos) 0 (.ref it) (.ref D) (cxComp X cs cl N' fp s3 H3).env) R s4:=by
 have fpx:∀ {H':Hp},(∀ b∈fp,H' b=none)->∀ b∈fp,FpOk (cxComp X cs cl N' fp s3 H3) [] H' b:=fun hn=>fp_in hcl1 I3.stkSub hf3 hlt hn
 have lσ:(inner N' σ).length=N'.length:=I4.len
 refine codeAny_loop rfl (fun n s'=>∃ i H',Inv (cxComp X cs cl N' fp s3 H3) [] (inner N' σ) H' s'/\tn i s'.heap/\(∀ b∈fp,H' b=none)/\W i n H') (fun n s5 hI=>?_) m0 ⟨0,H3,I4,st,fun b hb=>(hf3 b hb).1,w0⟩
 obtain ⟨i,H5,I5,st5,fr5,w5⟩:=hI
 show wpAny _ _ ((compTurn (.ListComp elt [⟨tg,iter,ifs,0⟩] cs pos) 0 (.ref it) (.ref D) (cxComp X cs cl N' fp s3 H3).env).onRaise _) _ _ s5
 refine wpAny_noted ?_
 rw [compTurn_list]
 refine wpAny_bind (wpAny_standAt (wpAny_bind ?_))
 have cvt:∀ {α:Type} {t:Sem α} {P:α->Shared->Prop} {E':Value->Shared->Prop} {s:Shared},wpAny (model X.prog X.w) X.A t P (fun _ _=>False) s->wpAny (model X.prog X.w) X.A t P E' s:=fun h=>wpAny_mono h (fun _ _ q=>q) fun _ _ q=>q.elim
 rcases turn i n H5 w5 with ⟨stop,q⟩ | ⟨go,step⟩
 ·refine thn (T.done (cxComp X cs cl N' fp s3 H3) rfl rfl rfl hc i [] s5 _ H5 _ I5 (fpx fr5) st5 stop) fun r s6 ⟨hr,I6⟩=>?_
  subst hr
  refine wpAny_pure ?_
  have J6:Inv X pins σ H5 s6:=I3.call' (H':=H5) (ch:=fp) I6.os I6.base I6.hok I6.bare fun b hb=>by
   obtain ⟨f0,f1,f2,f3,f4,f5⟩:=hf3 b hb
   exact ⟨f3,f1,f4,f5⟩
  obtain ⟨m,hn,_⟩:=I6.loc
  exact hR H5 s6 J6 q ⟨m,hn⟩ (I3.fpOk (Nat.le_refl _) I6.free)
 ·refine thn (T.item (cxComp X cs cl N' fp s3 H3) rfl rfl rfl hc i [] s5 _ H5 _ I5 (fpx fr5) st5 go) fun r s6 ⟨u,hr,h6⟩=>?_
  subst hr
  refine wpAny_bind (thn h6 fun _ s7 zz52=>?_)
  obtain ⟨x,H7,I7,r7,y7,st7,fr7⟩:=zz52
  have I7':=I7.pinned (fpx fr7) (T.obj _ _ st7)
  refine wpAny_bind (cvt (thn (hg _ s7 _ H7 x u _ I7' r7 (hk x _ H7 _ (step x H7 y7))) fun _ s8 zz53=>?_))
  obtain ⟨σ8,H8,I8,q8,l8,k8⟩:=zz53
  refine wpAny_bind (cvt (thn (ht _ s8 σ8 H8 _ I8 q8) fun b s9 zz54=>?_))
  obtain ⟨H9,I9,q9⟩:=zz54
  have again:∀ {s':Shared} {H':Hp},Inv (cxComp X cs cl N' fp s3 H3) ([]++pinsAt fp s7.heap) σ8 H' s'->(∃ m',m'<n/\W (i+1) m' H') ->
    ∃ m',m'<n/\∃ i H',Inv (cxComp X cs cl N' fp s3 H3) [] (inner N' σ) H' s'/\tn i s'.heap/\(∀ b∈fp,H' b=none)/\W i m' H':=fun {s' H'} I' zz55=>by
   obtain ⟨m',hm,w'⟩:=zz55
   refine ⟨m',hm,i+1,H',(I'.unpinned).weak (by rw [l8]) (fun j v e=>?_),T.keep _ _ _ st7 fun b hb o e=>(I'.pin (b,o) (List.mem_append_right _ (List.mem_append_right _ (mem_pinsAt hb e)))).1,fun b hb=>?_,w'⟩
   ·have hj:j<X.N.length:=by rw [<- I3.len]; exact (List.getElem?_eq_some_iff.mp (inner_get e)).1
    rw [k8 j hj]; exact e
   ·obtain ⟨o,e,d⟩:=T.obj _ _ st7 b hb
    exact (I'.pin (b,o) (List.mem_append_right _ (List.mem_append_right _ (mem_pinsAt hb e)))).2.1
  cases b with
  | false=>
   have q9':∃ m',m'<n/\W (i+1) m' H9:=q9
   exact wpAny_pure ⟨rfl,again I9 q9'⟩
  | true=>
   have q9':te σ8 H9 _:=q9
   refine wpAny_bind (wpAny_bind (cvt (thn (he _ s9 σ8 H9 _ I9 q9') fun v s10 zz56=>?_)))
   obtain ⟨y,H10,I10,r10,ys,hD,hy,q10⟩:=zz56
   refine wpAny_bind (cvt (thn (mt_append _ s10 σ8 H10 (.ref D) [y] (.ref D) [v] (fun _ H'=>∃ m',m'<n/\W (i+1) m' H') I10 rfl (.cons r10 .nil) ⟨D,ys,y,rfl,rfl,hD,hy,q10⟩) fun _ s11 zz57=>?_))
   obtain ⟨_,H11,I11,_,q11⟩:=zz57
   exact wpAny_pure (wpAny_pure ⟨rfl,again I11 q11⟩)
theorem comp_core {cl:List (Str×Addr)} {pins:List (Addr×Obj)} {σ:St} {R:Value->Addr->Result->Shared->Prop} {Q:V->Hp->Prop} {s2:Shared} {itv:Value} (S:CompScope X.env.scope cs X.N N') (hc:X.calm=true)
  (hg:∀ cl ex s H,PG (cxComp X cs cl N' ex s H) tg g) (hk:GKeep X.N.length g) (ht:∀ cl ex s H,PIf (cxComp X cs cl N' ex s H) ifs tc) (he:∀ cl ex s H,PE (cxComp X cs cl N' ex s H) elt te)
  (hcl1:∀ x c,cl.lookup x=some c->X.env.cells.lookup x=some c) (hcl2:∀ x,(x,NameKind.free)∈cs.names->∃ c,cl.lookup x=some c)
  (h:PIE X pins σ tg (fun J H1=>∀ D,H1 D=none->CompW J D g tc te (inner N' σ) H1 (Q (.ref D))) itv s2)
  (hR:∀ (D C:Addr) (H':Hp) (s':Shared),Inv X pins σ H' s'->Q (.ref D) H'->(∃ m,s'.heap.Ns C m)->FpOk X pins H' C->R (.ref D) C (.ok .next) s') :
  wpAny (model X.prog X.w) X.A (newList []) (fun acc s₃=>wpAny (model X.prog X.w) X.A (newFunctionEnv cs X.env.globals cl [] X.env.qual none .none (some X.env)) (fun cenv s₄=>
   codeAny (model X.prog X.w) X.A (.compStart (.ListComp elt [⟨tg,iter,ifs,0⟩] cs pos) 0 itv acc { cenv with scope:=relabel cs X.env }) (R acc cenv.locals) s₄) X.xe s₃) X.xe s2:=by
 obtain ⟨it,fp,tn,J,H2,e,I2,T,st2,f2,hw⟩:=h
 subst e
 refine wpAny_newObj_type (wpAny_newFunctionEnv S.ncell (by intro y hy; simp at hy) (fun h1 hns1 hsb1=>?_) S.kind)
 dsimp only at hns1 hsb1 ⊢
 have hD:=I2.hok.fresh (Nat.le_refl _)
 obtain ⟨W,⟨m0,w0⟩,turn⟩:=hw s2.heap.objs.size hD
 have I3:Inv X pins σ (upd H2 s2.heap.objs.size (.lst [])) { s2 with heap:=s2.heap.push { cls:=.type "list",dict:=none,data:=.seq ([]:List Value).toArray } }:=I2.lnew (t':=s2.toks) .nil (Nat.zero_le _)
 have hfp3:∀ b∈fp,b<s2.heap.objs.size:=fun b hb=>by
  obtain ⟨o,e,_⟩:=T.obj 0 _ st2 b hb
  exact Heap.lt_size e
 have hf3:∀ b∈fp,FpOk X pins (upd H2 s2.heap.objs.size (.lst [])) b:=fun b hb=>by
  obtain ⟨f0,r⟩:=f2 b hb
  exact ⟨by rw [upd_ne (Nat.ne_of_lt (hfp3 b hb))]; exact f0,r⟩
 have hlt:∀ b∈fp,b<(s2.heap.push { cls:=.type "list",dict:=none,data:=.seq ([]:List Value).toArray }).objs.size:=fun b hb=>by rw [Heap.size_push]; exact Nat.lt_succ_of_lt (hfp3 b hb)
 have kp:∀ b o,(s2.heap.push { cls:=.type "list",dict:=none,data:=.seq ([]:List Value).toArray }).get? b=some o->h1.get? b=some o:=fun b o e=>hsb1.extBut b o (Nat.ne_of_lt (Heap.lt_size e)) (Heap.get?_push_of_some _ e)
 have I4:=comp_inv (cs:=cs) (cl:=cl) (N':=N') (fp:=fp) (s4:={ s2 with heap:=h1,toks:=s2.toks+([]:List (Str×Value)).length }) S I3 hcl1 hcl2 hf3 hlt kp hns1 rfl rfl
 have st4:tn 0 h1:=T.keep 0 _ _ st2 fun b hb o e=>kp b o (Heap.get?_push_of_some _ e)
 have loop:=comp_loop (R:=R (.ref s2.heap.objs.size) (s2.heap.push { cls:=.type "list",dict:=none,data:=.seq ([]:List Value).toArray }).objs.size) (D:=s2.heap.objs.size) (iter:=iter) (pos:=pos) (it:=it) (Q:=Q (.ref s2.heap.objs.size)) hc (hg cl fp _ _) hk (ht cl fp _ _) (he cl fp _ _) hcl1 I3 I4 T st4 hf3 hlt w0 turn fun H' s' I' q n f=>hR _ _ H' s' I' q n f
 exact codeAny_compStart_list loop (T.self _ 0 _ _ _ st4 loop)
theorem pe_comp (S:CompScope X.env.scope cs X.N N') (hc:X.calm=true) (hi:PI X tg iter wi)
  (hg:∀ cl ex s H,PG (cxComp X cs cl N' ex s H) tg g) (hk:GKeep X.N.length g) (ht:∀ cl ex s H,PIf (cxComp X cs cl N' ex s H) ifs tc) (he:∀ cl ex s H,PE (cxComp X cs cl N' ex s H) elt te)
  (hs:∀ x,foldedSetIterable iter X.env x=pure x:=by intro _; rfl):PE X (.ListComp elt [⟨tg,iter,ifs,0⟩] cs pos) (tComp N' wi g tc te):=by
 intro pins s σ H Q I h
 obtain ⟨cl,e,h1,h2,_⟩:=closure_of (env:=X.env) cs.names [] (fun x hx hk=>I.ok.has x.1 (S.free x hx hk)) (fun _ _ z=>nomatch z)
 have hclos:closureFor cs X.env=pure cl:=by
  simp only [closureFor]
  rw [e]; rfl
 rw [eval_ListComp]
 refine wpAny_comprehension_free (use:=none) rfl hs hclos S.kind S.loc (thn (hi pins s σ H _ I h) fun v s1 q1=>thn q1 fun itv s2 q2=>?_)
 refine comp_core (R:=fun acc C=>compPost (model X.prog X.w) X.A X.xe none (EP X pins σ Q) acc C) (Q:=Q) S hc hg hk ht he h1 h2 q2 fun D C H' s' I' q n f=>?_
 obtain ⟨m,hn⟩:=n
 obtain ⟨f0,f1,f2,f3,f4,f5⟩:=f
 exact ⟨m,hn,fun h' sb=>⟨.ref D,H',I'.turned (t':=s'.toks) (fun b o hb e=>sb.extBut b o hb e) f0 f1 f3 f4 f5,rfl,q⟩⟩
theorem ps_setc {i:Nat} {y:Str} {py spos:Pos} (S:CompScope X.env.scope cs X.N N') (hc:X.calm=true) (hi:PI X tg iter wi)
  (hg:∀ cl ex s H,PG (cxComp X cs cl N' ex s H) tg g) (hk:GKeep X.N.length g) (ht:∀ cl ex s H,PIf (cxComp X cs cl N' ex s H) ifs tc) (he:∀ cl ex s H,PE (cxComp X cs cl N' ex s H) elt te)
  (hN:X.N.Nodup) (hy:X.N[i]?=some y) (hl:Loc X.env.scope y)
  (hsw:swapsWith (.ListComp elt [⟨tg,iter,ifs,0⟩] cs pos) (some (.Name y py)) spos.line X.env=pure true:=by rfl) (hf:X.fn y=true\/X.env.scope.names.lookup y=some .local:=by first | exact .inl rfl | exact .inr rfl | assumption)
  (hs:∀ x,foldedSetIterable iter X.env x=pure x:=by intro _; rfl):PS X (.Assign [.Name y py] (.ListComp elt [⟨tg,iter,ifs,0⟩] cs pos) spos) (tAsg (tComp N' wi g tc te) (gName i)):=by
 intro pins s σ H Q I h
 obtain ⟨cl,e,h1,h2,_⟩:=closure_of (env:=X.env) cs.names [] (fun x hx hk=>I.ok.has x.1 (S.free x hx hk)) (fun _ _ z=>nomatch z)
 have hclos:closureFor cs X.env=pure cl:=by
  simp only [closureFor]
  rw [e]; rfl
 rw [exec_Assign_Name_used _ _ _ _ hsw]
 refine wpAny_bind (wpAny_standAt (wpAny_bind ?_))
 show wpAny _ _ (comprehension (.ListComp elt [⟨tg,iter,ifs,0⟩] cs pos) cs X.env _ (newList []) false (eval iter X.env) (some (assign (.Name y py) X.env))>>=_) _ _ s
 refine wpAny_bind (thn (wpAny_comprehension_free (use:=some (assign (.Name y py) X.env)) (Q:=fun _ s'=>SP X pins Q .next s') rfl hs hclos S.kind S.loc (thn (hi pins s σ H _ I h) fun v s1 q1=>thn q1 fun itv s2 q2=>?_)) fun _ s' q=>wpAny_pure (wpAny_pure q))
 refine comp_core (R:=fun acc C=>compPost (model X.prog X.w) X.A X.xe (some (assign (.Name y py) X.env)) (fun _ s'=>SP X pins Q .next s') acc C) (Q:=fun x H1=>gName i x σ H1 Q.nx) S hc hg hk ht he h1 h2 q2 fun D C H' s' I' q n f=>?_
 obtain ⟨m,hn⟩:=n
 obtain ⟨f0,f1,f2,f3,f4,f5⟩:=f
 show wpAny _ _ (assign (.Name y py) X.env (.ref D)) _ _ _
 refine wpAny_assign_Name (store_ok2 (v:=.ref D) (u:=.ref D) I' hN hy hl rfl (fun s'' I'' zz58=>?_) hf)
 obtain ⟨a,sb,ha⟩:=zz58
 have hCa:C≠a:=by
  rcases ha with rfl | ha
  ·exact f1
  ·exact fun q=>f4 _ _ ha q.symm
 refine ⟨m,hn.sameBut sb hCa,fun h' sb'=>?_⟩
 exact ⟨_,H',I''.turned (t':=s''.toks) (fun b o hb e=>sb'.extBut b o hb e) f0 f1 f3 f4 f5,q⟩
end
end L2
namespace L2
open PySem PySem.Spec PyProof.Rows
theorem Sq.same {K:Frag} {H H':Hp} {t:Bool} {a:Addr} {xs:List V} (e:Same H H') (h:Sq K H t a xs):Sq K H' t a xs:=by
 unfold Sq at h ⊢
 split
 ·rename_i ht; rw [if_pos ht] at h
  rcases h with (h | ⟨o,h⟩) | h
  ·exact .inl (.inl (e _ _ h))
  ·exact .inl (.inr ⟨o,e _ _ h⟩)
  ·exact .inr h
 ·rename_i ht; rw [if_neg ht] at h
  exact e.seq h
def seqAt (K:Frag) (H:Hp) (p:Addr) (R:List V->Prop):Prop:=match H p with
 | some (.tup xs)=>R xs
 | some (.lst xs)=>R xs
 | _=>∃ t xs,Sq K H t p xs/\R xs
section
variable {X:Cx}
def ItQ (K:Frag) (t:Bool) (a:Addr):It:=if t=true then Itt K a else Itl K a
def iSq (K:Frag) (tl:TE):TI:=fun σ H R=>tl σ H fun x H1=>∃ a,x=.ref a/\∃ t xs,Sq K H1 t a xs/\R (ItQ K t a) H1
theorem pi_sq {tg l:Expr} {tl:TE} (hl:PE X l tl):PI X tg l (iSq X.K tl):=by
 intro pins s σ H R I h
 refine thn (hl pins s σ H _ I h) fun v s1 zz59=>?_
 obtain ⟨x,H1,I1,r1,q1⟩:=zz59
 obtain ⟨a,e,t,xs,hq,q⟩:=q1
 subst e
 cases r1
 cases t with
 | true=>
  have hq':SqT X.K H1 a xs:=by unfold Sq at hq; rw [if_pos rfl] at hq; exact hq
  obtain ⟨its,rv,p,hz⟩:=I1.tuple hq'
  refine wpAny_pyIter_tuple (show s1.heap.IsTuple a its.toArray from p) ?_
  refine ⟨s1.heap.objs.size,[s1.heap.objs.size],_,Itt X.K a,H1,rfl,I1.kept (t':=s1.toks) fun b o e=>Heap.get?_push_of_some _ e,turn_tuple a _,⟨_,Heap.get?_push_size _ rfl,rfl,rfl⟩,fun b hb=>?_,q⟩
  have e:b=s1.heap.objs.size:=by simpa using hb
  subst e
  exact I1.fpOk (Nat.le_refl _) (I1.hok.fresh (Nat.le_refl _))
 | false=>
  have hq':SqL X.K H1 a xs:=by unfold Sq at hq; rw [if_neg Bool.false_ne_true] at hq; exact hq
  obtain ⟨its,rv,p,hz⟩:=I1.list hq'
  refine wpAny_pyIter_list p.isList ?_
  refine ⟨s1.heap.objs.size,[s1.heap.objs.size],_,Itl X.K a,H1,rfl,I1.kept (t':=s1.toks) fun b o e=>Heap.get?_push_of_some _ e,turn_list a _,⟨_,Heap.get?_push_size _ rfl,rfl,rfl⟩,fun b hb=>?_,q⟩
  have e:b=s1.heap.objs.size:=by simpa using hb
  subst e
  exact I1.fpOk (Nat.le_refl _) (I1.hok.fresh (Nat.le_refl _))
theorem bt_bool:bootBuiltins "bool" = some (.type "bool"):=by decide +kernel
theorem bt_int:bootBuiltins "int" = some (.type "int"):=by decide +kernel
theorem bt_list:bootBuiltins "list" = some (.type "list"):=by decide +kernel
theorem bt_tuple:bootBuiltins "tuple" = some (.type "tuple"):=by decide +kernel
def tyO:Option HO->Option String
 | some (.lst _)=>some "list"
 | some (.tup _)=>some "tuple"
 | some (.dK _)=>some "dict"
 | _=>none
def tyB (H:Hp):V->Option String
 | .non=>some "NoneType"
 | .bl _=>some "bool"
 | .int _=>some "int"
 | .str _=>some "str"
 | .ref a=>tyO (H a)
 | _=>none
def isiB (A T:String):Option Bool:=
 if A=T then some true else if A = "bool" /\ T = "int" then some true
 else if (A = "NoneType" \/ A = "bool" \/ A = "int" \/ A = "str" \/ A = "list" \/ A = "tuple" \/ A = "dict")/\(T = "bool" \/ T = "int" \/ T = "list" \/ T = "tuple") then some false else none
theorem tyB_ok {K:Frag} {H:Hp} {x:V} {A:String} (h:tyB H x=some A):TyOf K H x (.type A):=by
 cases x with
 | non=>cases h; exact .non
 | bl _=>cases h; exact .bl _
 | int _=>cases h; exact .int _
 | str _=>cases h; exact .str _
 | ref a=>
  have h:tyO (H a)=some A:=h
  cases e:H a with
  | none=>rw [e] at h; cases h
  | some o=>
   rw [e] at h
   cases o <;> first | (cases h; exact .lst e) | (cases h; exact .tup e) | (cases h; exact .dK e) | cases h
 | _=>cases h
theorem isiB_ok {K:Frag} {A T:String} {b:Bool} (h:isiB A T=some b):PySem.W.kitOne K (.type A) (.type T)=some b:=by
 unfold isiB at h
 split at h
 ·rename_i e; subst e; cases h
  unfold PySem.W.kitOne
  rw [if_pos (by simp)]
 ·split at h
  ·rename_i e; obtain ⟨rfl,rfl⟩:=e; cases h; with_unfolding_all rfl
  ·split at h
   ·rename_i h1 h2 e
    obtain ⟨e1,e2⟩:=e
    cases h
    rcases e1 with rfl | rfl | rfl | rfl | rfl | rfl | rfl <;> rcases e2 with rfl | rfl | rfl | rfl <;>
     first | exact absurd rfl h1 | exact absurd ⟨rfl,rfl⟩ h2 | with_unfolding_all rfl
   ·cases h
def rIsi:List V->Hp->VK->Prop:=fun xs H Q=>∃ x T,xs = [x,.ty T]/\∃ A,tyB H x=some A/\∃ b,isiB A T=some b/\Q (.bl b) H
theorem call_isi:CallR X (.builtin "isinstance") rIsi:=by
 intro pins s σ H xs us Q I r h
 obtain ⟨x,T,rfl,A,ty,b,e,q⟩:=h
 obtain ⟨u,w',rfl,r1,r2⟩:=vals2 r
 have e2:w'=Value.type T:=r2
 subst e2
 exact isinst_ok I r1 (tyB_ok ty) (isiB_ok e) fun tk=>⟨.bl b,H,I.tok tk,rfl,q⟩
end
theorem isi_bb:isiB "bool" "bool" = some true:=by decide
theorem isi_bi:isiB "bool" "int" = some true:=by decide
theorem isi_ib:isiB "int" "bool" = some false:=by decide
theorem isi_ii:isiB "int" "int" = some true:=by decide
theorem isi_tt:isiB "tuple" "tuple" = some true:=by decide
theorem isi_ll:isiB "list" "list" = some true:=by decide
theorem isi_ni:isiB "NoneType" "int" = some false:=by decide
theorem isi_nb:isiB "NoneType" "bool" = some false:=by decide
theorem isi_si:isiB "str" "int" = some false:=by decide
theorem isi_sb:isiB "str" "bool" = some false:=by decide
theorem isi_li:isiB "list" "int" = some false:=by decide
theorem isi_lb:isiB "list" "bool" = some false:=by decide
theorem isi_ti:isiB "tuple" "int" = some false:=by decide
theorem isi_tb:isiB "tuple" "bool" = some false:=by decide
theorem ixN_int {n:Nat} {i:Int} (h0:0<=i) (h1:i<n):ixN n i=some i.toNat:=by unfold ixN; rw [if_pos h0,if_pos h1]
theorem mem_getD {ms:List Int} {P:Int->Prop} (h:∀ x∈ms,P x) {i:Nat} (hi:i<ms.length):P (ms.getD i 0):=by
 have:ms.getD i 0=ms[i]:=by simp [hi]
 rw [this]; exact h _ (List.getElem_mem hi)
structure Runs (J:It) (n:Nat) (H1:Hp) (Y:Nat->V->Hp->Hp->Prop):Prop where
 go:∀ i H,i<n->Same H1 H->J.go i H
 stop:∀ H,Same H1 H->J.stop n H
 yld:∀ i H x H',i<n->Same H1 H->J.yld i H x H'->Y i x H H'
theorem runs_zip2 {K:Frag} {t u:Bool} {a b:Addr} {xs ys:List V} {H1:Hp} (h:Sq K H1 t a xs) (h':Sq K H1 u b ys) :
  Runs (ItZ K [(t,a),(u,b)]) (min xs.length ys.length) H1 fun i x H H'=>∃ p y z,x=.ref p/\H p=none/\H'=upd H p (.tup [y,z])/\xs[i]?=some y/\ys[i]?=some z:=by
 refine ⟨fun i H hi s v hv=>?_,fun H s=>⟨fun v hv=>?_,?_⟩,fun i H x H' hi s hy=>?_⟩
 ·simp only [List.mem_cons,List.not_mem_nil,or_false] at hv
  rcases hv with rfl | rfl
  ·exact ⟨xs,xs[i]'(Nat.lt_of_lt_of_le hi (Nat.min_le_left _ _)),Sq.same s h,by simp⟩
  ·exact ⟨ys,ys[i]'(Nat.lt_of_lt_of_le hi (Nat.min_le_right _ _)),Sq.same s h',by simp⟩
 ·simp only [List.mem_cons,List.not_mem_nil,or_false] at hv
  rcases hv with rfl | rfl
  ·exact ⟨xs,Sq.same s h⟩
  ·exact ⟨ys,Sq.same s h'⟩
 ·rcases Nat.le_total xs.length ys.length with q | q
  ·exact ⟨(t,a),by simp,xs,Sq.same s h,by omega⟩
  ·exact ⟨(u,b),by simp,ys,Sq.same s h',by omega⟩
 ·obtain ⟨p,zs,e1,e2,e3,pr⟩:=hy
  cases pr with
  | cons r1 pr=>
   cases pr with
   | cons r2 pr=>
    cases pr
    exact ⟨p,_,_,e1,e2,e3,r1 xs (Sq.same s h),r2 ys (Sq.same s h')⟩
theorem runs_zip3 {K:Frag} {t u w:Bool} {a b c:Addr} {xs ys zs:List V} {H1:Hp} (h:Sq K H1 t a xs) (h':Sq K H1 u b ys) (h'':Sq K H1 w c zs) :
  Runs (ItZ K [(t,a),(u,b),(w,c)]) (min xs.length (min ys.length zs.length)) H1 fun i x H H'=>∃ p y z v,x=.ref p/\H p=none/\H'=upd H p (.tup [y,z,v])/\xs[i]?=some y/\ys[i]?=some z/\zs[i]?=some v:=by
 refine ⟨fun i H hi s v hv=>?_,fun H s=>⟨fun v hv=>?_,?_⟩,fun i H x H' hi s hy=>?_⟩
 ·simp only [List.mem_cons,List.not_mem_nil,or_false] at hv
  rcases hv with rfl | rfl | rfl
  ·exact ⟨xs,xs[i]'(Nat.lt_of_lt_of_le hi (Nat.min_le_left _ _)),Sq.same s h,by simp⟩
  ·exact ⟨ys,ys[i]'(Nat.lt_of_lt_of_le hi (Nat.le_trans (Nat.min_le_right _ _) (Nat.min_le_left _ _))),Sq.same s h',by simp⟩
  ·exact ⟨zs,zs[i]'(Nat.lt_of_lt_of_le hi (Nat.le_trans (Nat.min_le_right _ _) (Nat.min_le_right _ _))),Sq.same s h'',by simp⟩
 ·simp only [List.mem_cons,List.not_mem_nil,or_false] at hv
  rcases hv with rfl | rfl | rfl
  ·exact ⟨xs,Sq.same s h⟩
  ·exact ⟨ys,Sq.same s h'⟩
  ·exact ⟨zs,Sq.same s h''⟩
 ·have:min xs.length (min ys.length zs.length)=xs.length\/min xs.length (min ys.length zs.length)=ys.length\/min xs.length (min ys.length zs.length)=zs.length:=by omega
  rcases this with q | q | q
  ·exact ⟨(t,a),by simp,xs,Sq.same s h,by omega⟩
  ·exact ⟨(u,b),by simp,ys,Sq.same s h',by omega⟩
  ·exact ⟨(w,c),by simp,zs,Sq.same s h'',by omega⟩
 ·obtain ⟨p,vs,e1,e2,e3,pr⟩:=hy
  cases pr with
  | cons r1 pr=>
   cases pr with
   | cons r2 pr=>
    cases pr with
    | cons r3 pr=>
     cases pr
     exact ⟨p,_,_,_,e1,e2,e3,r1 xs (Sq.same s h),r2 ys (Sq.same s h'),r3 zs (Sq.same s h'')⟩
structure Def (K:Frag) (mg:Str->Option Value) (x:Str) (st:Stmt) (ps:List Str) (f:Addr) (fd:FuncData):Prop where
 F:Fun K x x st f fd
 m:mg x=some (.ref f)
 b:Binds K fd ps []
section
variable {X:Cx}
theorem pi_sqK (K:Frag) {tg l:Expr} {tl:TE} (hl:PE X l tl) (hK:X.K=K:=by rfl):PI X tg l (iSq K tl):=by subst hK; exact pi_sq hl
theorem pg_tupK (K:Frag) {es:List Expr} {pos:Pos} {k:Nat} {t:TGs} (n:Nat) (hc:X.calm=true) (h:PGs X es t) (hK:X.K=K:=by rfl)
  (hn:(assignEach es X.env).length=n:=by rfl) (hst:(assignEach es X.env).findIdx? (·.1)=none:=by rfl):PG X (.Tuple es k pos) (gTup K n t):=by subst hK; exact pg_tup hc h hn hst
def tApp (to:TE) (te:TE):TE:=fun σ H Q=>to σ H fun x H1=>∃ p,x=.ref p/\(∃ xs,H1 p=some (.lst xs))/\te σ H1 fun y H2=>match H2 p with
 | some (.lst xs)=>xs.length<sizeLine/\Q .non (upd H2 p (.lst (xs ++ [y])))
 | _=>False
theorem pe_append {o e:Expr} {to te:TE} {apos cpos:Pos} (ho:PE X o to) (ha:PE X e te)
  (hbase:attributeBase o "append" X.env (eval o X.env)=eval o X.env:=by rfl)
  (hfew:((backTo cpos (starEach [e] X.env)).all (fun x=>!x.1)&&(backToKw cpos (keywordEach [] X.env)).all (fun x=>x.1.isSome)
   && decide (([e]:List Expr).length+([]:List Keyword).length+(if ([]:List Keyword).isEmpty then 0 else 1)<30))=true:=by rfl)
  (hline:(apos.endLine == cpos.line)=true:=by rfl) (hs:starEach [e] X.env=(false,eval e X.env)::starEach [] X.env:=by rfl):PE X (.Call (.Attribute o "append" apos) [e] [] cpos) (tApp to te):=by
 intro pins s σ H Q I h
 refine wpAny_Call_method_late hbase hfew hline rfl (thn (ho pins s σ H _ I h) fun v s1 zz60=>?_)
 obtain ⟨x,H1,I1,r1,p,ex,⟨xs,e1⟩,q1⟩:=zz60
 subst ex
 obtain ⟨h1,h2⟩:=tyV_is (T := "list") I1 r1 (.inl ⟨rfl,xs,SqL.of e1⟩)
 refine ⟨"list", "list.append",PySem.F.plainAttrs_list,PySem.F.slot_list_append,PySem.F.type_list_append,h1,h2,?_⟩
 have hA:=pa_cons ha pa_nil hs cpos pins s1 σ H1 (fun vs H2=>∃ y,vs = [y]/\match H2 p with
  | some (.lst xs)=>xs.length<sizeLine/\Q .non (upd H2 p (.lst (xs ++ [y])))
  | _=>False) I1 (by
   have e:(fun (y:V) (H2:Hp)=>match H2 p with
     | some (.lst xs)=>xs.length<sizeLine/\Q .non (upd H2 p (.lst (xs ++ [y])))
     | _=>False)=fun (y:V) (H2:Hp)=>∃ y',[y] = [y']/\match H2 p with
     | some (.lst xs)=>xs.length<sizeLine/\Q .non (upd H2 p (.lst (xs ++ [y'])))
     | _=>False:=by
    funext y H2
    exact propext ⟨fun q=>⟨y,rfl,q⟩,fun zz61=>by obtain ⟨y',e,q⟩:=zz61; cases e; exact q⟩
   rw [e] at q1
   exact q1)
 rw [hs] at hA ⊢
 refine Calls.callWith_builtin rfl (Calls.evalArgs_plain ?_)
 refine thn hA fun us s2 zz62=>?_
 obtain ⟨vs,H2,I2,r2,y,ev,q2⟩:=zz62
 subst ev
 refine mt_append pins s2 σ H2 (.ref p) [y] v us Q I2 r1 r2 ?_
 split at q2
 ·rename_i ys e2; exact ⟨p,ys,y,rfl,rfl,e2,q2.1,q2.2⟩
 ·exact q2.elim
end
section
variable {X:Cx}
end
def CPowB (i j:Int):Prop:=0<=j/\(Builtin.Int.intBits i:Int)*j<=2^27
theorem getD_of {ns:List Int} {i:Nat} {z:Int} (h:ns[i]?=some z):ns.getD i 0=z:=by rw [List.getD_eq_getElem?_getD,h]; rfl
theorem some_getD {ns:List Int} {i:Nat} (h:i<ns.length):ns[i]?=some (ns.getD i 0):=by rw [List.getD_eq_getElem?_getD]; simp [h]
end L2
namespace TP
open PySem L2
inductive W where
 | non | bl (b:Bool) | int (i:Int) | str (x:Str) | ty (n:String) | tup (ws:List W) | lst (ws:List W) | scr (ws:List W)
 | exc (c:Str) (i:Option Int) | cls (c:Str)
def XD (F:Hp) (od:Option Addr):Option Int->Prop
 | none=>od=none
 | some i=>∃ d,od=some d/\F d=some (.xd [("at",.int i)])
mutual
inductive Rep (K:Frag) (F:Hp):V->W->Prop where
 | non:Rep K F .non .non
 | bl {b:Bool}:Rep K F (.bl b) (.bl b)
 | int {i:Int}:Rep K F (.int i) (.int i)
 | str {x:Str}:Rep K F (.str x) (.str x)
 | ty {n:String}:Rep K F (.ty n) (.ty n)
 | tup {a:Addr} {vs:List V} {ws:List W}:F a=some (.tup vs)->Reps K F vs ws->Rep K F (.ref a) (.tup ws)
 | lst {a:Addr} {vs:List V} {ws:List W}:F a=some (.lst vs)->Reps K F vs ws->Rep K F (.ref a) (.lst ws)
 | scr {a:Addr} {vs:List V} {ws:List W}:SqL K F a vs->Reps K F vs ws->Rep K F (.ref a) (.scr ws)
 | exc {a C:Addr} {o:Obj} {vs:Array Value} {c:Str} {i:Option Int}:F a=some (.ext fun h=>h.get? a=some o)->o.cls=.ref C->o.data=.fields vs->PySem.W.nsIn K mainGlobals c=some (some (.ref C))->XD F o.dict i->Rep K F (.ref a) (.exc c i)
 | cls {C:Addr} {c:Str}:PySem.W.nsIn K mainGlobals c=some (some (.ref C))->Rep K F (.ref C) (.cls c)
inductive Reps (K:Frag) (F:Hp):List V->List W->Prop where
 | nil:Reps K F [] []
 | cons {v:V} {w:W} {vs:List V} {ws:List W}:Rep K F v w->Reps K F vs ws->Reps K F (v::vs) (w::ws)
end
section
variable {K:Frag} {F F':Hp}
theorem sqT_same {a:Addr} {xs:List V} (e:Same F F') (h:SqT K F a xs):SqT K F' a xs:=by
 rcases h with (h | ⟨o,h⟩) | h
 ·exact .inl (.inl (e _ _ h))
 ·exact .inl (.inr ⟨o,e _ _ h⟩)
 ·exact .inr h
theorem XD.same (e:Same F F') {od:Option Addr}:∀ {i:Option Int},XD F od i->XD F' od i:=by
 intro i h
 cases i with
 | none=>exact h
 | some _=>obtain ⟨d,h1,h2⟩:=h; exact ⟨d,h1,e _ _ h2⟩
theorem Rep.same (e:Same F F') {v:V} {w:W} (r:Rep K F v w):Rep K F' v w:=
 @Rep.rec K F (fun v w _=>Rep K F' v w) (fun vs ws _=>Reps K F' vs ws) .non .bl .int .str .ty (fun h _ r=>.tup (e _ _ h) r) (fun h _ r=>.lst (e _ _ h) r) (fun h _ r=>.scr (Same.seq e h) r) (fun h1 h2 h3 h4 h5=>.exc (e _ _ h1) h2 h3 h4 (XD.same e h5)) (fun h=>.cls h) .nil (fun _ _ a b=>.cons a b) v w r
theorem Reps.same (e:Same F F') {vs:List V} {ws:List W} (r:Reps K F vs ws):Reps K F' vs ws:=
 @Reps.rec K F (fun _ _ _=>True) (fun vs ws _=>Reps K F' vs ws) trivial trivial trivial trivial trivial (fun _ _ _=>trivial) (fun _ _ _=>trivial) (fun _ _ _=>trivial) (fun _ _ _ _ _=>trivial) (fun _=>trivial) .nil (fun h _ _ b=>.cons (Rep.same e h) b) vs ws r
theorem Reps.ind {P:List V->List W->Prop} (h0:P [] []) (h1:∀ {v:V} {w:W} {vs:List V} {ws:List W},Rep K F v w->Reps K F vs ws->P vs ws->P (v::vs) (w::ws)) {vs:List V} {ws:List W} (r:Reps K F vs ws):P vs ws:=
 @Reps.rec K F (fun _ _ _=>True) (fun vs ws _=>P vs ws) trivial trivial trivial trivial trivial (fun _ _ _=>trivial) (fun _ _ _=>trivial) (fun _ _ _=>trivial) (fun _ _ _ _ _=>trivial) (fun _=>trivial) h0 (fun h r _ b=>h1 h r b) vs ws r
def RepI (K:Frag) (F:Hp) (v:V):W->Prop
 | .non=>v=.non
 | .bl b=>v=.bl b
 | .int i=>v=.int i
 | .str x=>v=.str x
 | .ty n=>v=.ty n
 | .tup ws=>∃ a vs,v=.ref a/\F a=some (.tup vs)/\Reps K F vs ws
 | .lst ws=>∃ a vs,v=.ref a/\F a=some (.lst vs)/\Reps K F vs ws
 | .scr ws=>∃ a vs,v=.ref a/\SqL K F a vs/\Reps K F vs ws
 | .exc _ _=>True
 | .cls _=>True
theorem Rep.inv {v:V} {w:W} (r:Rep K F v w):RepI K F v w:=
 @Rep.rec K F (fun v w _=>RepI K F v w) (fun _ _ _=>True) rfl rfl rfl rfl rfl (fun h r _=>⟨_,_,rfl,h,r⟩) (fun h r _=>⟨_,_,rfl,h,r⟩) (fun h r _=>⟨_,_,rfl,h,r⟩) (fun _ _ _ _ _=>trivial) (fun _=>trivial) trivial (fun _ _ _ _=>trivial) v w r
def RepsI (K:Frag) (F:Hp) (vs:List V):List W->Prop
 | []=>vs = []
 | w::ws=>∃ v us,vs=v::us/\Rep K F v w/\Reps K F us ws
theorem Reps.inv {vs:List V} {ws:List W} (r:Reps K F vs ws):RepsI K F vs ws:=
 Reps.ind (P:=fun vs ws=>RepsI K F vs ws) rfl (fun h t _=>⟨_,_,rfl,h,t⟩) r
theorem Reps.length {vs:List V} {ws:List W} (r:Reps K F vs ws):vs.length=ws.length:=
 Reps.ind (P:=fun vs ws=>vs.length=ws.length) rfl (fun _ _ h=>congrArg (·+1) h) r
theorem Reps.get {vs:List V} {ws:List W} {i:Nat} {w:W} (r:Reps K F vs ws):ws[i]?=some w->∃ v,vs[i]?=some v/\Rep K F v w:=
 Reps.ind (P:=fun vs ws=>∀ (i:Nat) (w:W),ws[i]?=some w->∃ v,vs[i]?=some v/\Rep K F v w) (fun i w e=>by cases e) (fun h _ b i w e=>by
  cases i with
  | zero=>cases e; exact ⟨_,rfl,h⟩
  | succ i=>exact b i w e) r i w
theorem Reps.get' {vs:List V} {ws:List W} {i:Nat} {v:V} (r:Reps K F vs ws):vs[i]?=some v->∃ w,ws[i]?=some w/\Rep K F v w:=
 Reps.ind (P:=fun vs ws=>∀ (i:Nat) (v:V),vs[i]?=some v->∃ w,ws[i]?=some w/\Rep K F v w) (fun i w e=>by cases e) (fun h _ b i w e=>by
  cases i with
  | zero=>cases e; exact ⟨_,rfl,h⟩
  | succ i=>exact b i w e) r i v
theorem Reps.append {vs us:List V} {ws xs:List W} (r:Reps K F vs ws) (s:Reps K F us xs):Reps K F (vs++us) (ws++xs):=
 Reps.ind (P:=fun vs ws=>Reps K F (vs++us) (ws++xs)) s (fun h _ b=>.cons h b) r
theorem Reps.take {vs:List V} {ws:List W} (n:Nat) (r:Reps K F vs ws):Reps K F (vs.take n) (ws.take n):=
 Reps.ind (P:=fun vs ws=>∀ n,Reps K F (vs.take n) (ws.take n)) (fun n=>by simpa using .nil) (fun h _ b n=>by
  cases n with
  | zero=>exact .nil
  | succ n=>exact .cons h (b n)) r n
theorem Reps.drop {vs:List V} {ws:List W} (n:Nat) (r:Reps K F vs ws):Reps K F (vs.drop n) (ws.drop n):=
 Reps.ind (P:=fun vs ws=>∀ n,Reps K F (vs.drop n) (ws.drop n)) (fun n=>by simpa using .nil) (fun h r b n=>by
  cases n with
  | zero=>exact .cons h r
  | succ n=>exact b n) r n
theorem Reps.snoc {vs:List V} {ws:List W} {v:V} {w:W} (r:Reps K F vs ws) (h:Rep K F v w):Reps K F (vs ++ [v]) (ws ++ [w]):=r.append (.cons h .nil)
end
mutual
def noL:W->Bool
 | .lst _=>false
 | .scr _=>false
 | .tup ws=>noLs ws
 | _=>true
def noLs:List W->Bool
 | []=>true
 | w::ws=>noL w&&noLs ws
end
def isL:HO->Bool
 | .lst _=>true
 | .dT _=>true
 | .dK _=>true
 | .frz _ (.lst _)=>true
 | _=>false
def join (H0 G:Hp):Hp:=fun a=>match H0 a with
 | some o=>if isL o then some o else G a
 | none=>G a
inductive Sl where
 | un | val (w:W) | par (w:W) | own (ws:List W) | dic (ks:List (List Int)) | dik (ks:List Int) | iop (p:Addr) (ws:List W) | hz (w:W) | dz (zs:List (List Int))
abbrev Rho:=List Sl
def noLG (G:Hp):Hp:=fun a=>match G a with
 | some o=>if isL o then none else some o
 | none=>none
theorem noLG_same {G G':Hp} (h:Same G G'):Same (noLG G) (noLG G'):=fun a o e=>by
 unfold noLG at e ⊢
 cases q:G a with
 | none=>rw [q] at e; cases e
 | some u=>rw [q] at e; rw [h a u q]; exact e
theorem noLG_sub {G:Hp}:Same (noLG G) G:=fun a o e=>by
 unfold noLG at e
 cases q:G a with
 | none=>rw [q] at e; cases e
 | some u=>
  rw [q] at e
  dsimp only at e
  cases hl:isL u
  ·rw [hl] at e; exact e
  ·rw [hl] at e; cases e
abbrev rowI (zs:List Int):W:=.lst (zs.map W.int)
def DzR (K:Frag) (G:Hp) (zs:List (List Int)) (o:Option V):Prop:=∃ (a:Addr) (as:List Addr),o=some (.ref a)/\G a=some (.lst (as.map V.ref))/\as.Nodup/\Reps K G (as.map V.ref) (zs.map rowI)
theorem DzR.same {K:Frag} {G G':Hp} {zs:List (List Int)} {o:Option V} (s:Same G G') (h:DzR K G zs o):DzR K G' zs o:=by
 obtain ⟨a,as,e,g,n,r⟩:=h
 exact ⟨a,as,e,s a _ g,n,r.same s⟩
def SlR (K:Frag) (H0 G H:Hp):Sl->Option V->Prop
 | .un,_=>True
 | .val w,o=>∃ v,o=some v/\Rep K G v w
 | .par w,o=>∃ v,o=some v/\Rep K (join H0 G) v w
 | .own ws,o=>∃ a vs,o=some (.ref a)/\H a=some (.lst vs)/\G a=none/\H0 a=none/\Reps K G vs ws
 | .dic ks,o=>∃ (a:Addr) (kvs:List (List Key×V)),o=some (.ref a)/\H a=some (.dT kvs)/\G a=none/\H0 a=none/\kvs.map (·.1)=ks.map fun k=>k.map Sum.inl
 | .dik ks,o=>∃ (a:Addr) (kvs:List (Key×V)),o=some (.ref a)/\H a=some (.dK kvs)/\G a=none/\H0 a=none/\kvs.map (·.1)=ks.map Sum.inl
 | .iop p ws,o=>o=some (.ref p)/\∃ vs,H0 p=some (.lst vs)/\Reps K G vs ws
 | .hz w,o=>∃ v,o=some v/\Rep K (join H0 (noLG G)) v w
 | .dz zs,o=>DzR K G zs o
structure PIv (K:Frag) (H0 G:Hp) (ρ:Rho) (σ:St) (H:Hp):Prop where
 g0:∀ a o,H0 a=some o->isL o=false->G a=some o
 gl:∀ a o,H0 a=some o->isL o=true->G a=none
 gh:Same G H
 hh:Same H0 H
 len:ρ.length=σ.length
 sl:∀ (i:Nat) (x:Sl) (o:Option V),ρ[i]?=some x->σ[i]?=some o->SlR K H0 G H x o
 ne:∀ (i j:Nat) (ws us:List W) (a:Addr),i≠j->ρ[i]?=some (.own ws)->ρ[j]?=some (.own us)->σ[i]?=some (some (.ref a))->σ[j]?≠some (some (.ref a))
structure Ext (G H G' H':Hp):Prop where
 gg:Same G G'
 hh:Same H H'
 gh:Same G' H'
 keep:∀ a o,H a=some o->isL o=true->G a=none->G' a=none
theorem Ext.refl {G H:Hp} (h:Same G H):Ext G H G H:=⟨Same.refl G,Same.refl H,h,fun _ _ _ _ e=>e⟩
theorem Ext.trans {G H G1 H1 G2 H2:Hp} (a:Ext G H G1 H1) (b:Ext G1 H1 G2 H2):Ext G H G2 H2:=
 ⟨a.gg.trans b.gg,a.hh.trans b.hh,b.gh,fun x o h l e=>b.keep x o (a.hh x o h) l (a.keep x o h l e)⟩
section
variable {K:Frag} {H0 G H G' H':Hp} {ρ:Rho} {σ:St}
theorem join_same (h:Same G G'):Same (join H0 G) (join H0 G'):=fun a o e=>by
 unfold join at e ⊢
 cases q:H0 a with
 | none=>rw [q] at e; exact h a o e
 | some u=>
  rw [q] at e
  dsimp only at e ⊢
  by_cases hl:isL u=true
  ·rw [if_pos hl] at e ⊢; exact e
  ·rw [if_neg hl] at e ⊢; exact h a o e
theorem PIv.G_join (I:PIv K H0 G ρ σ H):Same G (join H0 G):=fun a o e=>by
 unfold join
 cases q:H0 a with
 | none=>exact e
 | some u=>
  dsimp only
  by_cases hl:isL u=true
  ·rw [I.gl a u q hl] at e; cases e
  ·rw [if_neg hl]; exact e
theorem PIv.join_H (I:PIv K H0 G ρ σ H):Same (join H0 G) H:=fun a o e=>by
 unfold join at e
 cases q:H0 a with
 | none=>rw [q] at e; exact I.gh a o e
 | some u=>
  rw [q] at e
  dsimp only at e
  by_cases hl:isL u=true
  ·rw [if_pos hl] at e; cases e; exact I.hh a _ q
  ·rw [if_neg hl] at e; exact I.gh a o e
theorem PIv.ext (I:PIv K H0 G ρ σ H) (x:Ext G H G' H'):PIv K H0 G' ρ σ H' where
 g0 a o e l:=x.gg a o (I.g0 a o e l)
 gl a o e l:=x.keep a o (I.hh a o e) l (I.gl a o e l)
 gh:=x.gh
 hh:=I.hh.trans x.hh
 len:=I.len
 sl i s o h1 h2:=by
  have:=I.sl i s o h1 h2
  cases s with
  | un=>trivial
  | val w=>obtain ⟨v,e,r⟩:=this; exact ⟨v,e,r.same x.gg⟩
  | par w=>obtain ⟨v,e,r⟩:=this; exact ⟨v,e,r.same (join_same x.gg)⟩
  | own ws=>
   obtain ⟨a,vs,e,h,g,h0,r⟩:=this
   exact ⟨a,vs,e,x.hh a _ h,x.keep a _ h rfl g,h0,r.same x.gg⟩
  | dic ks=>
   obtain ⟨a,kvs,e,h,g,h0,r⟩:=this
   exact ⟨a,kvs,e,x.hh a _ h,x.keep a _ h rfl g,h0,r⟩
  | dik ks=>
   obtain ⟨a,kvs,e,h,g,h0,r⟩:=this
   exact ⟨a,kvs,e,x.hh a _ h,x.keep a _ h rfl g,h0,r⟩
  | iop p ws=>
   obtain ⟨e,vs,h,r⟩:=this
   exact ⟨e,vs,h,r.same x.gg⟩
  | hz w=>obtain ⟨v,e,r⟩:=this; exact ⟨v,e,r.same (join_same (noLG_same x.gg))⟩
  | dz zs=>exact DzR.same x.gg this
 ne:=I.ne
theorem join_noL {a:Addr} {o:HO} (h:join H0 G a=some o) (l:isL o=false):G a=some o:=by
 unfold join at h
 cases q:H0 a with
 | none=>rw [q] at h; exact h
 | some u=>
  rw [q] at h
  dsimp only at h
  by_cases hl:isL u=true
  ·rw [if_pos hl] at h; cases h; rw [hl] at l; cases l
  ·rw [if_neg hl] at h; exact h
theorem XD.clean {od:Option Addr}:∀ {i:Option Int},XD (join H0 G) od i->XD G od i
 | none,h=>h
 | some _,⟨d,h1,h2⟩=>⟨d,h1,join_noL h2 rfl⟩
theorem Rep.clean (I:PIv K H0 G ρ σ H) {v:V} {w:W} (r:Rep K (join H0 G) v w):noL w=true->Rep K G v w:=
 @Rep.rec K (join H0 G) (fun v w _=>noL w=true->Rep K G v w) (fun vs ws _=>noLs ws=true->Reps K G vs ws) (fun _=>.non) (fun _=>.bl) (fun _=>.int) (fun _=>.str) (fun _=>.ty)
  (fun h _ r n=>.tup (join_noL h rfl) (r n)) (fun _ _ _ n=>by cases n) (fun _ _ _ n=>by cases n) (fun h1 h2 h3 h4 h5 _=>.exc (join_noL h1 rfl) h2 h3 h4 (XD.clean h5)) (fun h _=>.cls h) (fun _=>.nil)
  (fun _ _ a b n=>by rw [noLs,Bool.and_eq_true] at n; exact .cons (a n.1) (b n.2)) v w r
theorem Reps.clean (I:PIv K H0 G ρ σ H) {vs:List V} {ws:List W} (r:Reps K (join H0 G) vs ws):noLs ws=true->Reps K G vs ws:=
 @Reps.rec K (join H0 G) (fun _ _ _=>True) (fun vs ws _=>noLs ws=true->Reps K G vs ws) trivial trivial trivial trivial trivial (fun _ _ _=>trivial) (fun _ _ _=>trivial) (fun _ _ _=>trivial) (fun _ _ _ _ _=>trivial) (fun _=>trivial) (fun _=>.nil)
  (fun h _ _ b n=>by rw [noLs,Bool.and_eq_true] at n; exact .cons (Rep.clean I h n.1) (b n.2)) vs ws r
end
structure XW where
 cls:Str
 at_:Option Int
inductive R (α:Type) where
 | ok (a:α) | ex (e:XW) | stuck
def R.bind {α β:Type} (x:R α) (f:α->R β):R β:=match x with
 | .ok a=>f a
 | .ex e=>.ex e
 | .stuck=>.stuck
instance:Monad R where
 pure:=R.ok
 bind:=R.bind
@[simp] theorem R.ok_bind {α β:Type} (a:α) (f:α->R β):((R.ok a:R α)>>=f)=f a:=rfl
@[simp] theorem R.stuck_bind {α β:Type} (f:α->R β):((R.stuck:R α)>>=f)=.stuck:=rfl
@[simp] theorem R.ex_bind {α β:Type} (e:XW) (f:α->R β):((R.ex e:R α)>>=f)=.ex e:=rfl
@[simp] theorem R.pure_eq {α:Type} (a:α):(pure a:R α)=.ok a:=rfl
inductive Mode where
 | F | V | U | C | B
def Md (K:Frag) (H0 H G' H':Hp) (v:V) (w:W):Mode->Prop
 | .V=>Rep K G' v w
 | .U=>Rep K (join H0 G') v w
 | .F=>match w with
  | .lst ws=>∃ a vs,v=.ref a/\H' a=some (.lst vs)/\G' a=none/\H a=none/\Reps K G' vs ws
  | w=>Rep K G' v w
 | .C=>Rep K G' v w\/∃ a vs ws,v=.ref a/\w=.lst ws/\H' a=some (.lst vs)/\Reps K G' vs ws
 | .B=>Rep K (join H0 G') v w\/∃ a vs ws,v=.ref a/\w=.lst ws/\H' a=some (.lst vs)/\Reps K G' vs ws
abbrev EXT:=XW->Hp->Prop
def Out {α β:Type} (EX:EXT) (G H:Hp) (md:α->β->Hp->Hp->Prop) (r:R α) (Q:β->Hp->Prop):Prop:=match r with
 | .ok w=>∀ v G' H',Ext G H G' H'->md w v G' H'->Q v H'
 | .ex e=>∀ H',Same H H'->EX e H'
 | .stuck=>False
abbrev mdW (K:Frag) (d:Mode) (H0 H:Hp):W->V->Hp->Hp->Prop:=fun w v G' H'=>Md K H0 H G' H' v w d
abbrev mdB:Bool->Bool->Hp->Hp->Prop:=fun b c _ _=>c=b
inductive MdA (K:Frag) (d:Mode) (H0 H G' H':Hp):List W->List V->Prop where
 | nil:MdA K d H0 H G' H' [] []
 | cons {w:W} {v:V} {ws:List W} {vs:List V}:Md K H0 H G' H' v w d->MdA K d H0 H G' H' ws vs->MdA K d H0 H G' H' (w::ws) (v::vs)
def MdAI (K:Frag) (d:Mode) (H0 H G' H':Hp) (vs:List V):List W->Prop
 | []=>vs = []
 | w::ws=>∃ v us,vs=v::us/\Md K H0 H G' H' v w d/\MdA K d H0 H G' H' ws us
abbrev mdA (K:Frag) (d:Mode) (H0 H:Hp):List W->List V->Hp->Hp->Prop:=fun ws vs G' H'=>MdA K d H0 H G' H' ws vs
def tM (K:Frag) (EX:EXT) (d:Mode) (m:Rho->R W):TE:=fun σ H Q=>∃ H0 G ρ,PIv K H0 G ρ σ H/\Out EX G H (mdW K d H0 H) (m ρ) Q
def tT (K:Frag) (EX:EXT) (m:Rho->R Bool):TT:=fun σ H Q=>∃ H0 G ρ,PIv K H0 G ρ σ H/\Out EX G H mdB (m ρ) Q
def tA (K:Frag) (EX:EXT) (d:Mode) (m:Rho->R (List W)):TA:=fun σ H Q=>∃ H0 G ρ,PIv K H0 G ρ σ H/\Out EX G H (mdA K d H0 H) (m ρ) Q
section
variable {K:Frag} {EX:EXT} {H0 G H G1 H1 G2 H2:Hp} {ρ:Rho} {σ:St}
theorem Out.bind {α β γ δ:Type} {md:α->β->Hp->Hp->Prop} {md':γ->δ->Hp->Hp->Prop} {m:R α} {k:α->R γ} {Q:δ->Hp->Prop} {Q1:β->Hp->Prop} (o:Out EX G H md' (m>>=k) Q)
  (h:∀ x G1 H1 w,Ext G H G1 H1->md w x G1 H1->Out EX G1 H1 md' (k w) Q->Q1 x H1):Out EX G H md m Q1:=by
 cases m with
 | ok w=>
  intro v G' H' e d
  refine h v G' H' w e d ?_
  rw [R.ok_bind] at o
  revert o
  cases k w with
  | ok u=>exact fun o v2 G2 H2 e2 d2=>o v2 G2 H2 (e.trans e2) d2
  | ex x=>exact fun o H2 s2=>o H2 (e.hh.trans s2)
  | stuck=>exact fun o=>o
 | ex x=>exact o
 | stuck=>exact o
theorem Md.start {v:V} {w:W} {d:Mode} (s:Same H H1) (h:Md K H0 H1 G2 H2 v w d):Md K H0 H G2 H2 v w d:=by
 cases d with
 | F=>
  cases w with
  | lst ws=>obtain ⟨a,vs,e,h1,h2,h3,r⟩:=h; exact ⟨a,vs,e,h1,h2,s.free h3,r⟩
  | _=>exact h
 | _=>exact h
theorem Md.move {v:V} {w:W} {d:Mode} (x:Ext G1 H1 G2 H2) (h:Md K H0 H G1 H1 v w d):Md K H0 H G2 H2 v w d:=by
 cases d with
 | V=>exact Rep.same x.gg h
 | U=>exact Rep.same (join_same x.gg) h
 | F=>
  cases w with
  | lst ws=>obtain ⟨a,vs,e,h1,h2,h3,r⟩:=h; exact ⟨a,vs,e,x.hh _ _ h1,x.keep _ _ h1 rfl h2,h3,r.same x.gg⟩
  | non=>exact Rep.same x.gg h
  | bl _=>exact Rep.same x.gg h
  | int _=>exact Rep.same x.gg h
  | str _=>exact Rep.same x.gg h
  | ty _=>exact Rep.same x.gg h
  | tup _=>exact Rep.same x.gg h
  | scr _=>exact Rep.same x.gg h
  | exc _ _=>exact Rep.same x.gg h
  | cls _=>exact Rep.same x.gg h
 | C=>
  rcases h with h | ⟨a,vs,ws,e,e2,h1,r⟩
  ·exact .inl (h.same x.gg)
  ·exact .inr ⟨a,vs,ws,e,e2,x.hh _ _ h1,r.same x.gg⟩
 | B=>
  rcases h with h | ⟨a,vs,ws,e,e2,h1,r⟩
  ·exact .inl (h.same (join_same x.gg))
  ·exact .inr ⟨a,vs,ws,e,e2,x.hh _ _ h1,r.same x.gg⟩
theorem Md.CB {v:V} {w:W} (I:PIv K H0 G1 ρ σ H1) (h:Md K H0 H G1 H1 v w .C):Md K H0 H G1 H1 v w .B:=by
 rcases h with h | h
 ·exact .inl (h.same I.G_join)
 ·exact .inr h
def sca:W->Bool
 | .tup _=>false
 | .scr _=>false
 | .lst _=>false
 | _=>true
theorem Md.sca {v:V} {w:W} (hs:sca w=true) (r:∀ F,Rep K F v w) (d:Mode):Md K H0 H G1 H1 v w d:=by
 cases d with
 | V=>exact r _
 | U=>exact r _
 | C=>exact .inl (r _)
 | B=>exact .inl (r _)
 | F=>cases w <;> first | exact r _ | cases hs
theorem Md.repB {v:V} {w:W} (h:Md K H0 H G1 H1 v w .B) (n:∀ us,w≠.lst us):Rep K (join H0 G1) v w:=Or.elim h id fun zz63=>by obtain ⟨_,_,us,_,e,_⟩:=zz63; exact absurd e (n us)
theorem Md.repC {v:V} {w:W} (h:Md K H0 H G1 H1 v w .C) (n:∀ us,w≠.lst us):Rep K G1 v w:=Or.elim h id fun zz64=>by obtain ⟨_,_,us,_,e,_⟩:=zz64; exact absurd e (n us)
theorem Md.lstB {v:V} {ws:List W} (I:PIv K H0 G1 ρ σ H1) (h:Md K H0 H G1 H1 v (.lst ws) .B):∃ a vs,v=.ref a/\H1 a=some (.lst vs)/\Reps K (join H0 G1) vs ws:=by
 rcases h with h | ⟨a,vs,us,e,e2,h1,r⟩
 ·obtain ⟨a,vs,e,s,r⟩:=h.inv; exact ⟨a,vs,e,I.join_H _ _ s,r⟩
 ·rw [W.lst.inj e2]; exact ⟨a,vs,e,h1,r.same I.G_join⟩
theorem Md.scrB {v:V} {ws:List W} (I:PIv K H0 G1 ρ σ H1) (h:Md K H0 H G1 H1 v (.scr ws) .B):∃ a vs,v=.ref a/\SqL K H1 a vs/\Reps K (join H0 G1) vs ws:=by
 obtain ⟨a,vs,e,s,r⟩:=(h.repB fun _=>W.noConfusion).inv; exact ⟨a,vs,e,Same.seq I.join_H s,r⟩
theorem Md.lstC {v:V} {ws:List W} (I:PIv K H0 G1 ρ σ H1) (h:Md K H0 H G1 H1 v (.lst ws) .C):∃ a vs,v=.ref a/\H1 a=some (.lst vs)/\Reps K G1 vs ws:=by
 rcases h with h | ⟨a,vs,us,e,e2,h1,r⟩
 ·obtain ⟨a,vs,e,s,r⟩:=h.inv; exact ⟨a,vs,e,I.gh _ _ s,r⟩
 ·rw [W.lst.inj e2]; exact ⟨a,vs,e,h1,r⟩
theorem Md.tupB {v:V} {ws:List W} (I:PIv K H0 G1 ρ σ H1) (h:Md K H0 H G1 H1 v (.tup ws) .B):∃ a vs,v=.ref a/\H1 a=some (.tup vs)/\Reps K (join H0 G1) vs ws:=by
 obtain ⟨a,vs,e,s,r⟩:=(h.repB fun _=>W.noConfusion).inv; exact ⟨a,vs,e,I.join_H _ _ s,r⟩
theorem Md.tupC {v:V} {ws:List W} (I:PIv K H0 G1 ρ σ H1) (h:Md K H0 H G1 H1 v (.tup ws) .C):∃ a vs,v=.ref a/\H1 a=some (.tup vs)/\Reps K G1 vs ws:=by
 obtain ⟨a,vs,e,s,r⟩:=(h.repC fun _=>W.noConfusion).inv; exact ⟨a,vs,e,I.gh _ _ s,r⟩
theorem Md.intB {v:V} {i:Int} (h:Md K H0 H G1 H1 v (.int i) .B):v=.int i:=(h.repB fun _=>W.noConfusion).inv
theorem Md.blB {v:V} {i:Bool} (h:Md K H0 H G1 H1 v (.bl i) .B):v=.bl i:=(h.repB fun _=>W.noConfusion).inv
theorem Md.strB {v:V} {i:Str} (h:Md K H0 H G1 H1 v (.str i) .B):v=.str i:=(h.repB fun _=>W.noConfusion).inv
theorem Md.nonB {v:V} (h:Md K H0 H G1 H1 v .non .B):v=.non:=(h.repB fun _=>W.noConfusion).inv
theorem Md.tyB {v:V} {n:String} (h:Md K H0 H G1 H1 v (.ty n) .B):v=.ty n:=(h.repB fun _=>W.noConfusion).inv
theorem mode_FV {m:Rho->R W} {Q:VK} (h:tM K EX .V m σ H Q):tM K EX .F m σ H Q:=by
 obtain ⟨H0,G,ρ,I,o⟩:=h
 refine ⟨H0,G,ρ,I,?_⟩
 revert o
 cases m ρ with
 | ex e=>exact id
 | stuck=>exact id
 | ok w=>
  intro o v G' H' e d
  cases w with
  | lst ws=>
   obtain ⟨a,vs,rfl,h1,h2,h3,r⟩:=d
   have s1:Same G' (upd G' a (.lst vs)):=fun b o q=>by rw [upd_ne (ne_of_none q h2)]; exact q
   refine o _ (upd G' a (.lst vs)) H' ⟨e.gg.trans s1,e.hh,fun b o q=>?_,fun b o q l g=>?_⟩ (.lst upd_same (r.same s1))
   ·by_cases hb:b=a
    ·subst hb; rw [upd_same] at q; cases q; exact h1
    ·rw [upd_ne hb] at q; exact e.gh b o q
   ·rw [upd_ne (ne_of_none q h3)]; exact e.keep b o q l g
  | _=>exact o v G' H' e d
theorem mode_VU {m:Rho->R W} {Q:VK} (h:tM K EX .U m σ H Q):tM K EX .V m σ H Q:=by
 obtain ⟨H0,G,ρ,I,o⟩:=h
 refine ⟨H0,G,ρ,I,?_⟩
 revert o
 cases m ρ with
 | ex e=>exact id
 | stuck=>exact id
 | ok w=>exact fun o v G' H' e d=>o v G' H' e (Rep.same (I.ext e).G_join d)
theorem mode_VC {m:Rho->R W} {Q:VK} (h:tM K EX .C m σ H Q):tM K EX .V m σ H Q:=by
 obtain ⟨H0,G,ρ,I,o⟩:=h
 refine ⟨H0,G,ρ,I,?_⟩
 revert o
 cases m ρ with
 | ex e=>exact id
 | stuck=>exact id
 | ok w=>exact fun o v G' H' e d=>o v G' H' e (.inl d)
theorem mode_UB {m:Rho->R W} {Q:VK} (h:tM K EX .B m σ H Q):tM K EX .U m σ H Q:=by
 obtain ⟨H0,G,ρ,I,o⟩:=h
 refine ⟨H0,G,ρ,I,?_⟩
 revert o
 cases m ρ with
 | ex e=>exact id
 | stuck=>exact id
 | ok w=>exact fun o v G' H' e d=>o v G' H' e (.inl d)
theorem mode_CB {m:Rho->R W} {Q:VK} (h:tM K EX .B m σ H Q):tM K EX .C m σ H Q:=by
 obtain ⟨H0,G,ρ,I,o⟩:=h
 refine ⟨H0,G,ρ,I,?_⟩
 revert o
 cases m ρ with
 | ex e=>exact id
 | stuck=>exact id
 | ok w=>exact fun o v G' H' e d=>o v G' H' e (Md.CB (H:=H) (I.ext e) d)
theorem mode_FC {m:Rho->R W} {Q:VK} (h:tM K EX .C m σ H Q):tM K EX .F m σ H Q:=by
 obtain ⟨H0,G,ρ,I,o⟩:=h
 refine ⟨H0,G,ρ,I,?_⟩
 revert o
 cases m ρ with
 | ex e=>exact id
 | stuck=>exact id
 | ok w=>
  intro o v G' H' e d
  cases w with
  | lst ws=>obtain ⟨a,vs,rfl,h1,h2,h3,r⟩:=d; exact o _ G' H' e (.inr ⟨a,vs,ws,rfl,rfl,h1,r⟩)
  | _=>exact o v G' H' e (.inl d)
def chk (w:W):R W:=if noL w then .ok w else .stuck
theorem noL_F {v:V} {w:W} (n:noL w=true) (r:Rep K G1 v w):Md K H0 H G1 H1 v w .F:=by
 cases w with
 | lst ws=>cases n
 | _=>exact r
theorem mode_chk {m:Rho->R W} {Q:VK} {d:Mode} (hd:d=.F\/d=.V) (h:tM K EX d (fun ρ=>m ρ>>=chk) σ H Q):tM K EX .U m σ H Q:=by
 obtain ⟨H0,G,ρ,I,o⟩:=h
 refine ⟨H0,G,ρ,I,Out.bind o fun x G1 H1 w e m1 o1=>?_⟩
 unfold chk at o1
 by_cases n:noL w=true
 ·rw [if_pos n] at o1
  have r:=Rep.clean (I.ext e) m1 n
  refine o1 x G1 H1 (Ext.refl e.gh) ?_
  rcases hd with rfl | rfl
  ·exact noL_F n r
  ·exact r
 ·rw [if_neg n] at o1; exact o1.elim
end
end TP
namespace TP
open PySem L2
section
variable {K:Frag} {EX:EXT} {H0 G H G1 H1 G2 H2:Hp} {ρ:Rho} {σ:St} {d:Mode} {Q:VK}
theorem c_const {v:V} {w:W} (hs:sca w=true) (r:∀ F,Rep K F v w) (h:tM K EX d (fun _=>.ok w) σ H Q):tC v σ H Q:=by
 obtain ⟨H0,G,ρ,I,o⟩:=h
 exact o v G H (Ext.refl I.gh) (Md.sca hs r d)
def mVar (d:Mode) (i:Nat):Rho->R W:=fun ρ=>match ρ[i]? with
 | some (.val w)=>(match d with | .F=>chk w | _=>.ok w)
 | some (.par w)=>(match d with | .F=>chk w | .V=>chk w | .C=>chk w | _=>.ok w)
 | some (.own ws)=>(match d with | .C=>.ok (.lst ws) | .B=>.ok (.lst ws) | _=>.stuck)
 | some (.iop _ ws)=>(match d with | .B=>.ok (.lst ws) | .U=>.ok (.lst ws) | _=>.stuck)
 | some (.hz w)=>(match d with | .B=>.ok w | .U=>.ok w | _=>.stuck)
 | some (.dz zs)=>(match d with | .F=>.stuck | _=>.ok (.lst (zs.map rowI)))
 | _=>.stuck
theorem Out.chk {α:Type} {v:V} {w:W} {md:W->α->Hp->Hp->Prop} {Q:α->Hp->Prop} (o:Out EX G H md (chk w) Q):noL w=true/\Out EX G H md (.ok w) Q:=by
 unfold TP.chk at o
 by_cases n:noL w=true
 ·rw [if_pos n] at o; exact ⟨n,o⟩
 ·rw [if_neg n] at o; exact o.elim
theorem c_var {i:Nat} (h:tM K EX d (mVar d i) σ H Q):tVar i σ H Q:=by
 obtain ⟨H0,G,ρ,I,o⟩:=h
 unfold mVar at o
 cases e:ρ[i]? with
 | none=>rw [e] at o; exact o.elim
 | some s=>
  rw [e] at o
  have hi:i<σ.length:=by rw [<- I.len]; exact (List.getElem?_eq_some_iff.mp e).1
  have es:σ[i]?=some σ[i]:=by simp
  have r:=I.sl i s _ e es
  cases s with
  | un=>exact o.elim
  | val w=>
   obtain ⟨v,ev,r⟩:=r
   refine ⟨v,by rw [es,ev],?_⟩
   cases d with
   | F=>obtain ⟨n,o⟩:=Out.chk (v:=v) o; exact o v G H (Ext.refl I.gh) (noL_F n r)
   | V=>exact o v G H (Ext.refl I.gh) r
   | U=>exact o v G H (Ext.refl I.gh) (r.same I.G_join)
   | C=>exact o v G H (Ext.refl I.gh) (.inl r)
   | B=>exact o v G H (Ext.refl I.gh) (.inl (r.same I.G_join))
  | par w=>
   obtain ⟨v,ev,r⟩:=r
   refine ⟨v,by rw [es,ev],?_⟩
   cases d with
   | F=>obtain ⟨n,o⟩:=Out.chk (v:=v) o; exact o v G H (Ext.refl I.gh) (noL_F n (Rep.clean I r n))
   | V=>obtain ⟨n,o⟩:=Out.chk (v:=v) o; exact o v G H (Ext.refl I.gh) (Rep.clean I r n)
   | U=>exact o v G H (Ext.refl I.gh) r
   | C=>obtain ⟨n,o⟩:=Out.chk (v:=v) o; exact o v G H (Ext.refl I.gh) (.inl (Rep.clean I r n))
   | B=>exact o v G H (Ext.refl I.gh) (.inl r)
  | own ws=>
   obtain ⟨a,vs,ev,ha,hg,h0,r⟩:=r
   refine ⟨.ref a,by rw [es,ev],?_⟩
   cases d with
   | F=>exact o.elim
   | V=>exact o.elim
   | U=>exact o.elim
   | C=>exact o _ G H (Ext.refl I.gh) (.inr ⟨a,vs,ws,rfl,rfl,ha,r⟩)
   | B=>exact o _ G H (Ext.refl I.gh) (.inr ⟨a,vs,ws,rfl,rfl,ha,r⟩)
  | dic ks=>exact o.elim
  | dik ks=>exact o.elim
  | dz zs=>
   obtain ⟨a,as,ev,ga,nd,r⟩:=r
   refine ⟨.ref a,by rw [es,ev],?_⟩
   have rj:Rep K G (.ref a) (.lst (zs.map rowI)):=.lst ga r
   cases d with
   | F=>exact o.elim
   | V=>exact o _ G H (Ext.refl I.gh) rj
   | U=>exact o _ G H (Ext.refl I.gh) (rj.same I.G_join)
   | C=>exact o _ G H (Ext.refl I.gh) (.inl rj)
   | B=>exact o _ G H (Ext.refl I.gh) (.inl (rj.same I.G_join))
  | hz w=>
   obtain ⟨v,ev,r⟩:=r
   refine ⟨v,by rw [es,ev],?_⟩
   have rj:=r.same (join_same (H0:=H0) (noLG_sub (G:=G)))
   cases d with
   | F=>exact o.elim
   | V=>exact o.elim
   | C=>exact o.elim
   | U=>exact o v G H (Ext.refl I.gh) rj
   | B=>exact o v G H (Ext.refl I.gh) (.inl rj)
  | iop p ws=>
   obtain ⟨ev,vs,h0,r⟩:=r
   refine ⟨.ref p,by rw [es,ev],?_⟩
   have rj:Rep K (join H0 G) (.ref p) (.lst ws):=by
    refine .lst (vs:=vs) ?_ (r.same I.G_join)
    unfold join
    rw [h0]; rfl
   cases d with
   | F=>exact o.elim
   | V=>exact o.elim
   | U=>exact o _ G H (Ext.refl I.gh) rj
   | C=>exact o.elim
   | B=>exact o _ G H (Ext.refl I.gh) (.inl rj)
def Op2 (K:Frag) (b d:Mode) (r:R2) (f:W->W->R W):Prop:=∀ (EX:EXT) (H0 Hs G H:Hp) (ρ:Rho) (σ:St) (Ha Hb:Hp) (x y:V) (u v:W) (Q:VK),PIv K H0 G ρ σ H->Same Hs H->Md K H0 Ha G H x u b->Md K H0 Hb G H y v b ->
 Out EX G H (mdW K d H0 Hs) (f u v) Q->r x y H Q
theorem c_op {b:Mode} {r:R2} {f:W->W->R W} {ma mb:Rho->R W} (hr:Op2 K b d r f) (h:tM K EX d (fun ρ=>ma ρ>>=fun x=>mb ρ>>=fun y=>f x y) σ H Q):tOp r (tM K EX b ma) (tM K EX b mb) σ H Q:=by
 obtain ⟨H0,G,ρ,I,o⟩:=h
 refine ⟨H0,G,ρ,I,Out.bind o fun x G1 H1 u e1 m1 o1=>⟨H0,G1,ρ,I.ext e1,Out.bind o1 fun y G2 H2 v e2 m2 o2=>?_⟩⟩
 exact hr EX H0 H G2 H2 ρ σ H H1 x y u v Q ((I.ext e1).ext e2) (e1.hh.trans e2.hh) (m1.move e2) m2 o2
def Op1 (K:Frag) (b d:Mode) (r:V->Hp->VK->Prop) (f:W->R W):Prop:=∀ (EX:EXT) (H0 Hs G H:Hp) (ρ:Rho) (σ:St) (Ha:Hp) (x:V) (u:W) (Q:VK),PIv K H0 G ρ σ H->Same Hs H->Md K H0 Ha G H x u b ->
 Out EX G H (mdW K d H0 Hs) (f u) Q->r x H Q
theorem c_un {b:Mode} {r:V->Hp->VK->Prop} {f:W->R W} {ma:Rho->R W} (hr:Op1 K b d r f) (h:tM K EX d (fun ρ=>ma ρ>>=fun x=>f x) σ H Q):tUn r (tM K EX b ma) σ H Q:=by
 obtain ⟨H0,G,ρ,I,o⟩:=h
 exact ⟨H0,G,ρ,I,Out.bind o fun x G1 H1 u e1 m1 o1=>hr EX H0 H G1 H1 ρ σ H x u Q (I.ext e1) e1.hh m1 o1⟩
def fI (C:Int->Int->Prop) [∀ i j,Decidable (C i j)] (g:Int->Int->W):W->W->R W
 | .int i,.int j=>if C i j then .ok (g i j) else .stuck
 | _,_=>.stuck
def fI0 (g:Int->Int->W):W->W->R W
 | .int i,.int j=>.ok (g i j)
 | _,_=>.stuck
theorem o2_I {C:Int->Int->Prop} [∀ i j,Decidable (C i j)] {g:Int->Int->W} {gv:Int->Int->V} (hs:∀ i j,sca (g i j)=true) (hg:∀ i j F,Rep K F (gv i j) (g i j)):Op2 K .B d (rI C gv) (fI C g):=by
 intro EX H0 Hs G H ρ σ Ha Hb x y u v Q I s mx my o
 cases u <;> first | exact o.elim | skip
 all_goals (cases v <;> first | exact o.elim | skip)
 rename_i i j
 have o':Out EX G H (mdW K d H0 Hs) (if C i j then R.ok (g i j) else .stuck) Q:=o
 by_cases c:C i j
 ·rw [if_pos c] at o'
  exact ⟨i,j,mx.intB,my.intB,c,o' _ G H (Ext.refl I.gh) (Md.sca (hs i j) (hg i j) d)⟩
 ·rw [if_neg c] at o'; exact o'.elim
theorem o2_I0 {g:Int->Int->W} {gv:Int->Int->V} (hs:∀ i j,sca (g i j)=true) (hg:∀ i j F,Rep K F (gv i j) (g i j)):Op2 K .B d (rI0 gv) (fI0 g):=by
 intro EX H0 Hs G H ρ σ Ha Hb x y u v Q I s mx my o
 cases u <;> first | exact o.elim | skip
 all_goals (cases v <;> first | exact o.elim | skip)
 rename_i i j
 exact ⟨i,j,mx.intB,my.intB,o _ G H (Ext.refl I.gh) (Md.sca (hs i j) (hg i j) d)⟩
def fU (g:Int->W):W->R W
 | .int i=>.ok (g i)
 | _=>.stuck
theorem o1_U {g:Int->W} {gv:Int->V} (hs:∀ i,sca (g i)=true) (hg:∀ i F,Rep K F (gv i) (g i)):Op1 K .B d (rU gv) (fU g):=by
 intro EX H0 Hs G H ρ σ Ha x u Q I s mx o
 cases u <;> first | exact o.elim | skip
 rename_i i
 exact ⟨i,mx.intB,o _ G H (Ext.refl I.gh) (Md.sca (hs i) (hg i) d)⟩
def isN:W->Bool
 | .non=>true
 | _=>false
def fIsN (neg:Bool):W->W->R W
 | u,.non=>.ok (.bl (if neg then !isN u else isN u))
 | _,_=>.stuck
def toB:W->R Bool
 | .bl b=>.ok b
 | _=>.stuck
theorem c_test {ma:Rho->R W} {Q:Bool->Hp->Prop} (h:tT K EX (fun ρ=>ma ρ>>=toB) σ H Q):tTest (tM K EX .B ma) σ H Q:=by
 obtain ⟨H0,G,ρ,I,o⟩:=h
 refine ⟨H0,G,ρ,I,Out.bind o fun x G1 H1 u e1 m1 o1=>?_⟩
 cases u <;> first | exact o1.elim | skip
 rename_i b
 exact ⟨b,m1.blB,o1 b G1 H1 (Ext.refl e1.gh) rfl⟩
theorem c_tB {ma:Rho->R W} {Q:Bool->Hp->Prop} (h:tT K EX (fun ρ=>ma ρ>>=toB) σ H Q):tB (tM K EX .B ma) σ H Q:=c_test h
def rAnd (a b:R Bool):R Bool:=a>>=fun c=>if c then b else .ok false
def rOr (a b:R Bool):R Bool:=a>>=fun c=>if c then .ok true else b
def rNot (a:R Bool):R Bool:=a>>=fun c=>.ok (!c)
theorem c_or {ma mb:Rho->R Bool} {Q:Bool->Hp->Prop} (h:tT K EX (fun ρ=>rOr (ma ρ) (mb ρ)) σ H Q):tOr (tT K EX ma) (tT K EX mb) σ H Q:=by
 obtain ⟨H0,G,ρ,I,o⟩:=h
 refine ⟨H0,G,ρ,I,Out.bind o fun x G1 H1 u e1 m1 o1=>?_⟩
 cases m1
 cases x with
 | true=>exact o1 true G1 H1 (Ext.refl e1.gh) rfl
 | false=>exact ⟨H0,G1,ρ,I.ext e1,o1⟩
theorem c_not {ma:Rho->R Bool} {Q:Bool->Hp->Prop} (h:tT K EX (fun ρ=>rNot (ma ρ)) σ H Q):tNot (tT K EX ma) σ H Q:=by
 obtain ⟨H0,G,ρ,I,o⟩:=h
 refine ⟨H0,G,ρ,I,Out.bind o fun x G1 H1 u e1 m1 o1=>?_⟩
 cases m1
 exact o1 _ G1 H1 (Ext.refl e1.gh) rfl
def rAndV (a b:R W):R W:=a>>=fun x=>toB x>>=fun c=>if c then b else .ok (.bl false)
def rOrV (a b:R W):R W:=a>>=fun x=>toB x>>=fun c=>if c then .ok (.bl true) else b
def rNotV (a:R W):R W:=a>>=fun x=>toB x>>=fun c=>.ok (.bl (!c))
theorem c_andV {ma mb:Rho->R W} (h:tM K EX d (fun ρ=>rAndV (ma ρ) (mb ρ)) σ H Q):tAndV (tM K EX .B ma) (tM K EX d mb) σ H Q:=by
 obtain ⟨H0,G,ρ,I,o⟩:=h
 refine ⟨H0,G,ρ,I,Out.bind o fun x G1 H1 u e1 m1 o1=>?_⟩
 cases u <;> first | exact o1.elim | skip
 rename_i b
 refine ⟨b,m1.blB,?_⟩
 cases b with
 | true=>
  rw [if_pos rfl]
  refine ⟨H0,G1,ρ,I.ext e1,?_⟩
  have o2:Out EX G1 H1 (mdW K d H0 H) (mb ρ) Q:=o1
  revert o2
  cases mb ρ with
  | ok w=>exact fun o2 v G2 H2 e2 m2=>o2 v G2 H2 e2 (m2.start e1.hh)
  | ex _=>exact id
  | stuck=>exact id
 | false=>
  rw [if_neg Bool.false_ne_true]
  exact o1 _ G1 H1 (Ext.refl e1.gh) (Md.sca rfl (fun _=>.bl) d)
theorem c_chain {b:Mode} {r r':R2} {f f':W->W->R W} {ma mb mc:Rho->R W} (hr:Op2 K b .B r f) (hr':Op2 K b d r' f')
  (h:tM K EX d (fun ρ=>ma ρ>>=fun x=>mb ρ>>=fun y=>f x y>>=fun z=>toB z>>=fun c=>if c then mc ρ>>=fun u=>f' y u else .ok (.bl false)) σ H Q) :
  (fun σ H Q=>tM K EX b ma σ H fun x H1=>tM K EX b mb σ H1 fun y H2=>r x y H2 fun z H3=>∃ k,z=.bl k/\if k=true then tM K EX b mc σ H3 fun u H4=>r' y u H4 Q else Q (.bl false) H3) σ H Q:=by
 obtain ⟨H0,G,ρ,I,o⟩:=h
 refine ⟨H0,G,ρ,I,Out.bind o fun x G1 H1 u e1 m1 o1=>⟨H0,G1,ρ,I.ext e1,Out.bind o1 fun y G2 H2 v e2 m2 o2=>?_⟩⟩
 have I2:=(I.ext e1).ext e2
 refine hr EX H0 H G2 H2 ρ σ H H1 x y u v _ I2 (e1.hh.trans e2.hh) (m1.move e2) m2 (Out.bind o2 fun z G3 H3 wz e3 m3 o3=>?_)
 cases wz <;> first | exact o3.elim | skip
 rename_i k
 refine ⟨k,m3.blB,?_⟩
 cases k with
 | true=>
  rw [if_pos rfl]
  refine ⟨H0,G3,ρ,I2.ext e3,Out.bind (k:=fun u=>f' v u) o3 fun t G4 H4 wt e4 m4 o4=>?_⟩
  exact hr' EX H0 H G4 H4 ρ σ H1 H3 y t v wt Q ((I2.ext e3).ext e4) (((e1.hh.trans e2.hh).trans e3.hh).trans e4.hh) ((m2.move e3).move e4) m4 o4
 | false=>
  rw [if_neg Bool.false_ne_true]
  exact o3 _ G3 H3 (Ext.refl e3.gh) (Md.sca rfl (fun _=>.bl) d)
theorem c_nil {QA:List V->Hp->Prop} (h:tA K EX d (fun _=>.ok []) σ H QA):tNil σ H QA:=by
 obtain ⟨H0,G,ρ,I,o⟩:=h
 exact o [] G H (Ext.refl I.gh) .nil
theorem c_cons {ma:Rho->R W} {mr:Rho->R (List W)} {QA:List V->Hp->Prop} (h:tA K EX d (fun ρ=>ma ρ>>=fun x=>mr ρ>>=fun xs=>.ok (x::xs)) σ H QA):tCons (tM K EX d ma) (tA K EX d mr) σ H QA:=by
 obtain ⟨H0,G,ρ,I,o⟩:=h
 refine ⟨H0,G,ρ,I,Out.bind o fun x G1 H1 u e1 m1 o1=>⟨H0,G1,ρ,I.ext e1,Out.bind o1 fun xs G2 H2 us e2 m2 o2=>?_⟩⟩
 refine o2 (x::xs) G2 H2 (Ext.refl e2.gh) (.cons (m1.move e2) ?_)
 have go:∀ {ws:List W} {vs:List V},MdA K d H0 H1 G2 H2 ws vs->MdA K d H0 H G2 H2 ws vs:=fun {ws vs} q=>by
  induction q with
  | nil=>exact .nil
  | cons a _ ih=>exact .cons (a.start e1.hh) ih
 exact go m2
theorem MdA.reps {ws:List W} {vs:List V} (h:MdA K .V H0 H G1 H1 ws vs):Reps K G1 vs ws:=
 @MdA.rec K .V H0 H G1 H1 (fun ws vs _=>Reps K G1 vs ws) .nil (fun h _ b=>.cons h b) ws vs h
theorem MdA.repsU {ws:List W} {vs:List V} (h:MdA K .U H0 H G1 H1 ws vs):Reps K (join H0 G1) vs ws:=
 @MdA.rec K .U H0 H G1 H1 (fun ws vs _=>Reps K (join H0 G1) vs ws) .nil (fun h _ b=>.cons h b) ws vs h
theorem new_ext {p:Addr} {o:HO} (hG:Same G H) (hp:H p=none):Ext G H G (upd H p o):=
 ⟨Same.refl G,fun b u q=>by rw [upd_ne (ne_of_none q hp)]; exact q,fun b u q=>by rw [upd_ne (ne_of_none (hG b u q) hp)]; exact hG b u q,fun _ _ _ _ e=>e⟩
theorem new_extG {p:Addr} {o:HO} (hG:Same G H) (hp:H p=none):Ext G H (upd G p o) (upd H p o):=by
 have gp:G p=none:=hG.free hp
 refine ⟨fun b u q=>by rw [upd_ne (ne_of_none q gp)]; exact q,fun b u q=>by rw [upd_ne (ne_of_none q hp)]; exact q,fun b u q=>?_,fun b u q l g=>?_⟩
 ·by_cases hb:b=p
  ·subst hb; rw [upd_same] at q ⊢; exact q
  ·rw [upd_ne hb] at q ⊢; exact hG b u q
 ·rw [upd_ne (ne_of_none q hp)]; exact g
theorem Out.newL {p:Addr} {vs:List V} {ws:List W} {Hs:Hp} (I:PIv K H0 G ρ σ H) (s:Same Hs H) (r:Reps K G vs ws) (hp:H p=none) (o:Out EX G H (mdW K .F H0 Hs) (.ok (.lst ws)) Q):Q (.ref p) (upd H p (.lst vs)):=
 o _ G _ (new_ext I.gh hp) ⟨p,vs,rfl,upd_same,I.gh.free hp,s.free hp,r⟩
theorem Out.newTF {p:Addr} {vs:List V} {ws:List W} {Hs:Hp} (I:PIv K H0 G ρ σ H) (r:Reps K G vs ws) (hp:H p=none) (o:Out EX G H (mdW K .F H0 Hs) (.ok (.tup ws)) Q):Q (.ref p) (upd H p (.tup vs)):=
 o _ (upd G p (.tup vs)) _ (new_extG I.gh hp) (.tup upd_same (r.same fun b u q=>by rw [upd_ne (ne_of_none q (I.gh.free hp))]; exact q))
def lim (n:Nat) (w:W):R W:=if n<=1000 then .ok w else .stuck
theorem Out.lim {α:Type} {n:Nat} {w:W} {md:W->α->Hp->Hp->Prop} {Q:α->Hp->Prop} (o:Out EX G H md (lim n w) Q):n<=1000/\Out EX G H md (.ok w) Q:=by
 unfold TP.lim at o
 by_cases n:n<=1000
 ·rw [if_pos n] at o; exact ⟨n,o⟩
 ·rw [if_neg n] at o; exact o.elim
theorem le_line {n:Nat} (h:n<=1000):n<=sizeLine:=Nat.le_trans h (by decide)
theorem c_tup {ma:Rho->R (List W)} (h:tM K EX .F (fun ρ=>ma ρ>>=fun ws=>lim ws.length (.tup ws)) σ H Q):tTup (tA K EX .V ma) σ H Q:=by
 obtain ⟨H0,G,ρ,I,o⟩:=h
 refine ⟨H0,G,ρ,I,Out.bind o fun xs G1 H1 ws e1 m1 o1=>?_⟩
 obtain ⟨hl,o2⟩:=Out.lim o1
 have r:=MdA.reps m1
 exact ⟨by rw [r.length]; exact le_line hl,fun p hp=>Out.newTF (I.ext e1) r hp o2⟩
theorem c_lst {ma:Rho->R (List W)} (h:tM K EX .F (fun ρ=>ma ρ>>=fun ws=>lim ws.length (.lst ws)) σ H Q):tLst (tA K EX .V ma) σ H Q:=by
 obtain ⟨H0,G,ρ,I,o⟩:=h
 refine ⟨H0,G,ρ,I,Out.bind o fun xs G1 H1 ws e1 m1 o1=>?_⟩
 obtain ⟨hl,o2⟩:=Out.lim o1
 have r:=MdA.reps m1
 exact ⟨by rw [r.length]; exact le_line hl,fun p hp=>Out.newL (I.ext e1) e1.hh r hp o2⟩
theorem join_upd {p:Addr} {o:HO} (h:H0 p=none):join H0 (upd G p o)=upd (join H0 G) p o:=by
 funext b
 by_cases hb:b=p
 ·subst hb; unfold join; rw [h]; dsimp only; rw [upd_same,upd_same]
 ·rw [upd_ne hb]; unfold join; cases H0 b with
  | none=>dsimp only; rw [upd_ne hb]
  | some u=>dsimp only; rw [upd_ne hb]
theorem c_tupU {ma:Rho->R (List W)} (h:tM K EX .U (fun ρ=>ma ρ>>=fun ws=>lim ws.length (.tup ws)) σ H Q):tTup (tA K EX .U ma) σ H Q:=by
 obtain ⟨H0,G,ρ,I,o⟩:=h
 refine ⟨H0,G,ρ,I,Out.bind o fun xs G1 H1 ws e1 m1 o1=>?_⟩
 obtain ⟨hl,o2⟩:=Out.lim o1
 have r:=MdA.repsU m1
 have I1:=I.ext e1
 refine ⟨by rw [r.length]; exact le_line hl,fun p hp=>o2 _ (upd G1 p (.tup xs)) _ (new_extG I1.gh hp) ?_⟩
 show Rep K (join H0 (upd G1 p (.tup xs))) _ _
 rw [join_upd (I1.hh.free hp)]
 exact .tup upd_same (r.same fun b u q=>by rw [upd_ne (ne_of_none (I1.join_H b u q) hp)]; exact q)
end
end TP
namespace TP
open PySem L2
inductive Fl where
 | nx (ρ:Rho) | rt (w:W) | bk (ρ:Rho) | ct (ρ:Rho)
def OutS (K:Frag) (EX:EXT) (d:Mode) (H0 G:Hp) (r:R Fl) (D:Ends):Prop:=match r with
 | .ok (.nx ρ)=>∀ G' σ' H',Same G G'->PIv K H0 G' ρ σ' H'->D.nx σ' H'
 | .ok (.bk ρ)=>∀ G' σ' H',Same G G'->PIv K H0 G' ρ σ' H'->D.bk σ' H'
 | .ok (.ct ρ)=>∀ G' σ' H',Same G G'->PIv K H0 G' ρ σ' H'->D.ct σ' H'
 | .ok (.rt w)=>∀ v G' H',Same G G'->Same G' H'->Same H0 H'->(∀ a o,H0 a=some o->isL o=true->G' a=none)->Md K H0 H0 G' H' v w d->D.rt v H'
 | .ex e=>∀ H',Same H0 H'->EX e H'
 | .stuck=>False
def tSt (K:Frag) (EX:EXT) (d:Mode) (m:Rho->R Fl):TS:=fun D σ H=>∃ H0 G ρ,PIv K H0 G ρ σ H/\OutS K EX d H0 G (m ρ) D
section
variable {K:Frag} {EX:EXT} {H0 G H G1 H1 G2 H2:Hp} {ρ:Rho} {σ:St} {d:Mode} {D:Ends}
theorem OutS.move {r:R Fl} (s:Same G G1) (o:OutS K EX d H0 G r D):OutS K EX d H0 G1 r D:=by
 cases r with
 | stuck=>exact o
 | ex e=>exact o
 | ok f=>
  cases f with
  | nx ρ'=>exact fun G' σ' H' s' I'=>o G' σ' H' (s.trans s') I'
  | bk ρ'=>exact fun G' σ' H' s' I'=>o G' σ' H' (s.trans s') I'
  | ct ρ'=>exact fun G' σ' H' s' I'=>o G' σ' H' (s.trans s') I'
  | rt w=>exact fun v G' H' s0 s1 s2 c md=>o v G' H' (s.trans s0) s1 s2 c md
theorem OutS.bind {α β:Type} {md:α->β->Hp->Hp->Prop} {m:R α} {k:α->R Fl} {Q1:β->Hp->Prop} (I:PIv K H0 G ρ σ H) (o:OutS K EX d H0 G (m>>=k) D)
  (h:∀ x G1 H1 w,Ext G H G1 H1->md w x G1 H1->OutS K EX d H0 G1 (k w) D->Q1 x H1):Out EX G H md m Q1:=by
 cases m with
 | ok w=>exact fun v G' H' e q=>h v G' H' w e q (OutS.move e.gg o)
 | ex e=>exact fun H' s=>o H' (I.hh.trans s)
 | stuck=>exact o
def mSeq (m n:Rho->R Fl):Rho->R Fl:=fun ρ=>m ρ>>=fun f=>match f with
 | .nx ρ'=>n ρ'
 | .rt w=>.ok (.rt w)
 | .bk ρ'=>.ok (.bk ρ')
 | .ct ρ'=>.ok (.ct ρ')
theorem c_next (h:tSt K EX d (fun ρ=>.ok (.nx ρ)) D σ H):tNext D σ H:=by
 obtain ⟨H0,G,ρ,I,o⟩:=h
 exact o G σ H (Same.refl G) I
theorem c_seq {m n:Rho->R Fl} (h:tSt K EX d (mSeq m n) D σ H):tSeq (tSt K EX d m) (tSt K EX d n) D σ H:=by
 obtain ⟨H0,G,ρ,I,o⟩:=h
 refine ⟨H0,G,ρ,I,?_⟩
 unfold mSeq at o
 revert o
 cases m ρ with
 | stuck=>exact id
 | ex e=>exact id
 | ok f=>
  cases f with
  | nx ρ'=>exact fun o G' σ' H' s' I'=>⟨H0,G',ρ',I',OutS.move s' o⟩
  | _=>exact id
theorem c_never (h:tSt K EX d (fun _=>.stuck) D σ H):tNever D σ H:=by
 obtain ⟨H0,G,ρ,I,o⟩:=h
 exact o
theorem c_drop {b:Mode} {m:Rho->R W} (h:tSt K EX d (fun ρ=>m ρ>>=fun _=>.ok (.nx ρ)) D σ H):tDrop (tM K EX b m) D σ H:=by
 obtain ⟨H0,G,ρ,I,o⟩:=h
 exact ⟨H0,G,ρ,I,OutS.bind I o fun x G1 H1 w e1 _ o1=>o1 G1 σ H1 (Same.refl _) (I.ext e1)⟩
theorem c_ret {m:Rho->R W} (h:tSt K EX d (fun ρ=>m ρ>>=fun w=>.ok (.rt w)) D σ H):tRet (tM K EX d m) D σ H:=by
 obtain ⟨H0,G,ρ,I,o⟩:=h
 refine ⟨H0,G,ρ,I,OutS.bind I o fun x G1 H1 w e1 m1 o1=>?_⟩
 have I1:=I.ext e1
 exact o1 x G1 H1 (Same.refl _) e1.gh I1.hh I1.gl (m1.start I.hh)
def mRetVar (d:Mode) (i:Nat):Rho->R Fl:=fun ρ=>match ρ[i]? with
 | some (.own ws)=>.ok (.rt (.lst ws))
 | _=>mVar d i ρ>>=fun w=>.ok (.rt w)
theorem c_retVar {i:Nat} (hd:d=.F\/d=.V) (h:tSt K EX d (mRetVar d i) D σ H):tRet (tVar i) D σ H:=by
 obtain ⟨H0,G,ρ,I,o⟩:=h
 unfold mRetVar at o
 by_cases ho:∃ ws,ρ[i]?=some (.own ws)
 ·obtain ⟨ws,e⟩:=ho
  rw [e] at o
  have hi:i<σ.length:=by rw [<- I.len]; exact (List.getElem?_eq_some_iff.mp e).1
  have es:σ[i]?=some σ[i]:=by simp
  obtain ⟨a,vs,ev,ha,hg,h0,r⟩:=I.sl i _ _ e es
  refine ⟨.ref a,by rw [es,ev],?_⟩
  rcases hd with rfl | rfl
  ·exact o _ G H (Same.refl _) I.gh I.hh I.gl ⟨a,vs,rfl,ha,hg,h0,r⟩
  ·have s1:Same G (upd G a (.lst vs)):=fun b o q=>by rw [upd_ne (ne_of_none q hg)]; exact q
   refine o _ (upd G a (.lst vs)) H s1 (fun b o q=>?_) I.hh (fun b u q l=>?_) (.lst upd_same (r.same s1))
   ·by_cases hb:b=a
    ·subst hb; rw [upd_same] at q; cases q; exact ha
    ·rw [upd_ne hb] at q; exact I.gh b o q
   ·rw [upd_ne (ne_of_none q h0)]; exact I.gl b u q l
 ·have o':OutS K EX d H0 G (mVar d i ρ>>=fun w=>.ok (.rt w)) D:=by
   revert o
   split
   ·rename_i ws e; exact absurd ⟨ws,e⟩ ho
   ·exact id
  have c:tRet (tM K EX d (mVar d i)) D σ H:=c_ret (m:=mVar d i) ⟨H0,G,ρ,I,o'⟩
  exact c_var c
theorem PIv.setV {i:Nat} {v:V} {w:W} (I:PIv K H0 G ρ σ H) (r:Rep K G v w):PIv K H0 G (ρ.set i (.val w)) (σ.set i (some v)) H where
 g0:=I.g0
 gl:=I.gl
 gh:=I.gh
 hh:=I.hh
 len:=by rw [List.length_set,List.length_set]; exact I.len
 sl j x o h1 h2:=by
  by_cases hj:i=j
  ·subst hj
   rw [List.getElem?_set] at h1 h2
   simp only [if_true] at h1 h2
   split at h1 <;> split at h2 <;> simp only [Option.some.injEq,reduceCtorEq] at h1 h2
   subst h1; subst h2
   exact ⟨v,rfl,r⟩
  ·rw [List.getElem?_set_ne hj] at h1 h2; exact I.sl j x o h1 h2
 ne a b ws us c hab h1 h2 h3 h4:=by
  have na:i≠a:=by
   rintro rfl
   rw [List.getElem?_set] at h1
   simp only [if_true] at h1
   split at h1 <;> simp at h1
  have nb:i≠b:=by
   rintro rfl
   rw [List.getElem?_set] at h2
   simp only [if_true] at h2
   split at h2 <;> simp at h2
  rw [List.getElem?_set_ne na] at h1 h3
  rw [List.getElem?_set_ne nb] at h2 h4
  exact I.ne a b ws us c hab h1 h2 h3 h4
theorem PIv.setU {i:Nat} {v:V} {w:W} (I:PIv K H0 G ρ σ H) (r:Rep K (join H0 G) v w):PIv K H0 G (ρ.set i (.par w)) (σ.set i (some v)) H where
 g0:=I.g0
 gl:=I.gl
 gh:=I.gh
 hh:=I.hh
 len:=by rw [List.length_set,List.length_set]; exact I.len
 sl j x o h1 h2:=by
  by_cases hj:i=j
  ·subst hj
   rw [List.getElem?_set] at h1 h2
   simp only [if_true] at h1 h2
   split at h1 <;> split at h2 <;> simp only [Option.some.injEq,reduceCtorEq] at h1 h2
   subst h1; subst h2
   exact ⟨v,rfl,r⟩
  ·rw [List.getElem?_set_ne hj] at h1 h2; exact I.sl j x o h1 h2
 ne a b ws us c hab h1 h2 h3 h4:=by
  have na:i≠a:=by
   rintro rfl
   rw [List.getElem?_set] at h1
   simp only [if_true] at h1
   split at h1 <;> simp at h1
  have nb:i≠b:=by
   rintro rfl
   rw [List.getElem?_set] at h2
   simp only [if_true] at h2
   split at h2 <;> simp at h2
  rw [List.getElem?_set_ne na] at h1 h3
  rw [List.getElem?_set_ne nb] at h2 h4
  exact I.ne a b ws us c hab h1 h2 h3 h4
theorem PIv.setO {i:Nat} {a:Addr} {vs:List V} {ws:List W} (I:PIv K H0 G ρ σ H) (ha:H a=some (.lst vs)) (hg:G a=none) (h0:H0 a=none) (r:Reps K G vs ws)
  (nw:∀ (j:Nat) (us:List W),ρ[j]?=some (Sl.own us)->σ[j]?≠some (some (V.ref a))):PIv K H0 G (ρ.set i (.own ws)) (σ.set i (some (.ref a))) H where
 g0:=I.g0
 gl:=I.gl
 gh:=I.gh
 hh:=I.hh
 len:=by rw [List.length_set,List.length_set]; exact I.len
 sl j x o h1 h2:=by
  by_cases hj:i=j
  ·subst hj
   rw [List.getElem?_set] at h1 h2
   simp only [if_true] at h1 h2
   split at h1 <;> split at h2 <;> simp only [Option.some.injEq,reduceCtorEq] at h1 h2
   subst h1; subst h2
   exact ⟨a,vs,rfl,ha,hg,h0,r⟩
  ·rw [List.getElem?_set_ne hj] at h1 h2; exact I.sl j x o h1 h2
 ne p q ws' us c hab h1 h2 h3 h4:=by
  by_cases hp:i=p
  ·subst hp
   rw [List.getElem?_set_ne hab] at h2 h4
   rw [List.getElem?_set] at h3
   simp only [if_true] at h3
   split at h3 <;> simp only [Option.some.injEq,reduceCtorEq,V.ref.injEq] at h3
   subst h3
   exact nw q us h2 h4
  ·rw [List.getElem?_set_ne hp] at h1 h3
   by_cases hq:i=q
   ·subst hq
    rw [List.getElem?_set] at h4
    simp only [if_true] at h4
    split at h4 <;> simp only [Option.some.injEq,reduceCtorEq,V.ref.injEq] at h4
    subst h4
    exact nw p ws' h1 h3
   ·rw [List.getElem?_set_ne hq] at h2 h4
    exact I.ne p q ws' us c hab h1 h2 h3 h4
def slotF:W->Sl
 | .lst ws=>.own ws
 | w=>.val w
theorem c_setV {i:Nat} {m:Rho->R W} (h:tSt K EX d (fun ρ=>m ρ>>=fun w=>.ok (.nx (ρ.set i (.val w)))) D σ H):tAsg (tM K EX .V m) (gName i) D σ H:=by
 obtain ⟨H0,G,ρ,I,o⟩:=h
 exact ⟨H0,G,ρ,I,OutS.bind I o fun x G1 H1 w e1 m1 o1=>o1 G1 _ H1 (Same.refl _) ((I.ext e1).setV m1)⟩
theorem c_setU {i:Nat} {m:Rho->R W} (h:tSt K EX d (fun ρ=>m ρ>>=fun w=>.ok (.nx (ρ.set i (.par w)))) D σ H):tAsg (tM K EX .U m) (gName i) D σ H:=by
 obtain ⟨H0,G,ρ,I,o⟩:=h
 exact ⟨H0,G,ρ,I,OutS.bind I o fun x G1 H1 w e1 m1 o1=>o1 G1 _ H1 (Same.refl _) ((I.ext e1).setU m1)⟩
theorem c_setF {i:Nat} {m:Rho->R W} (h:tSt K EX d (fun ρ=>m ρ>>=fun w=>.ok (.nx (ρ.set i (slotF w)))) D σ H):tAsg (tM K EX .F m) (gName i) D σ H:=by
 obtain ⟨H0,G,ρ,I,o⟩:=h
 refine ⟨H0,G,ρ,I,OutS.bind I o fun x G1 H1 w e1 m1 o1=>?_⟩
 have I1:=I.ext e1
 cases w with
 | lst ws=>
  obtain ⟨a,vs,rfl,h1,h2,h3,r⟩:=m1
  refine o1 G1 _ H1 (Same.refl _) (I1.setO h1 h2 (I.hh.free h3) r fun j us q z=>?_)
  obtain ⟨b,us',eb,hb,_⟩:=I.sl j _ _ q z
  cases eb
  rw [h3] at hb; cases hb
 | non=>exact o1 G1 _ H1 (Same.refl _) (I1.setV m1)
 | bl _=>exact o1 G1 _ H1 (Same.refl _) (I1.setV m1)
 | int _=>exact o1 G1 _ H1 (Same.refl _) (I1.setV m1)
 | str _=>exact o1 G1 _ H1 (Same.refl _) (I1.setV m1)
 | ty _=>exact o1 G1 _ H1 (Same.refl _) (I1.setV m1)
 | tup _=>exact o1 G1 _ H1 (Same.refl _) (I1.setV m1)
 | scr _=>exact o1 G1 _ H1 (Same.refl _) (I1.setV m1)
 | exc _ _=>exact o1 G1 _ H1 (Same.refl _) (I1.setV m1)
 | cls _=>exact o1 G1 _ H1 (Same.refl _) (I1.setV m1)
instance:DecidableEq Mode:=fun a b=>by cases a <;> cases b <;> first | exact isTrue rfl | exact isFalse (by intro h; cases h)
def Gt (K:Frag) (e:Mode) (g:TG) (mg:W->Rho->Option Rho):Prop:=∀ (H0 Hs G:Hp) (ρ:Rho) (σ:St) (H:Hp) (v:V) (w:W) (ρ':Rho) (Q:St->Hp->Prop),PIv K H0 G ρ σ H->Md K H0 Hs G H v w e->mg w ρ=some ρ' ->
 (∀ σ',PIv K H0 G ρ' σ' H->Q σ' H)->g v σ H Q
def Gts (K:Frag) (e:Mode) (g:TGs) (mg:List W->Rho->Option Rho):Prop:=∀ (H0 G:Hp) (ρ:Rho) (σ:St) (H:Hp) (vs:List V) (ws:List W) (ρ':Rho) (Q:St->Hp->Prop),PIv K H0 G ρ σ H->Reps K (if e=.V then G else join H0 G) vs ws->mg ws ρ=some ρ' ->
 (∀ σ',PIv K H0 G ρ' σ' H->Q σ' H)->g vs σ H Q
def gN (e:Mode) (i:Nat):W->Rho->Option Rho:=fun w ρ=>some (ρ.set i (if e=.V then .val w else .par w))
theorem gt_U {i:Nat}:Gt K .U (gName i) (gN .U i):=fun H0 Hs G ρ σ H v w ρ' Q I m e h=>by
 cases e; exact h _ (I.setU m)
def gsNil:List W->Rho->Option Rho
 | [],ρ=>some ρ
 | _,_=>none
def gsCons (f:W->Rho->Option Rho) (g:List W->Rho->Option Rho):List W->Rho->Option Rho
 | w::ws,ρ=>(f w ρ).bind (g ws)
 | [],_=>none
theorem gts_nil {e:Mode}:Gts K e gNil gsNil:=fun H0 G ρ σ H vs ws ρ' Q I r e h=>by
 cases r with
 | nil=>cases e; exact ⟨rfl,h _ I⟩
 | cons _ _=>cases e
theorem gts_cons {e:Mode} {t:TG} {u:TGs} {f:W->Rho->Option Rho} {g:List W->Rho->Option Rho} (he:e=.V\/e=.U) (h1:Gt K e t f) (h2:Gts K e u g):Gts K e (gCons t u) (gsCons f g):=fun H0 G ρ σ H vs ws ρ' Q I r q h=>by
 cases r with
 | nil=>cases q
 | cons a b=>
  unfold gsCons at q
  obtain ⟨ρ1,q1,q2⟩:=Option.bind_eq_some_iff.mp q
  refine ⟨_,_,rfl,h1 H0 H G ρ σ H _ _ ρ1 _ I ?_ q1 fun σ1 I1=>h2 H0 G ρ1 σ1 H _ _ ρ' Q I1 b q2 h⟩
  rcases he with rfl | rfl
  ·exact a
  ·exact a
def gT (n:Nat) (g:List W->Rho->Option Rho):W->Rho->Option Rho
 | .tup ws,ρ=>if ws.length=n then g ws ρ else none
 | _,_=>none
theorem gt_tup {e:Mode} {n:Nat} {u:TGs} {g:List W->Rho->Option Rho} (he:e=.V\/e=.U) (h:Gts K e u g):Gt K e (gTup K n u) (gT n g):=fun H0 Hs G ρ σ H v w ρ' Q I m q k=>by
 cases w <;> first | cases q | skip
 rename_i ws
 have q':(if ws.length=n then g ws ρ else none)=some ρ':=q
 by_cases hn:ws.length=n
 ·rw [if_pos hn] at q'
  rcases he with rfl | rfl
  ·obtain ⟨a,vs,e,s,r⟩:=Rep.inv m
   exact ⟨a,vs,e,SqT.of (I.gh _ _ s),by rw [r.length]; exact hn,h H0 G ρ σ H _ ws ρ' Q I (by rw [if_pos rfl]; exact r) q' k⟩
  ·obtain ⟨a,vs,e,s,r⟩:=Rep.inv m
   exact ⟨a,vs,e,SqT.of (I.join_H _ _ s),by rw [r.length]; exact hn,h H0 G ρ σ H _ ws ρ' Q I (by rw [if_neg (by intro z; cases z)]; exact r) q' k⟩
 ·rw [if_neg hn] at q'; cases q'
def toR {α:Type}:Option α->R α
 | some a=>.ok a
 | none=>.stuck
theorem PIv.own_upd {i:Nat} {a:Addr} {vs':List V} {ws ws':List W} (I:PIv K H0 G ρ σ H) (e:ρ[i]?=some (.own ws)) (es:σ[i]?=some (some (.ref a))) (r:Reps K G vs' ws'):PIv K H0 G (ρ.set i (.own ws')) σ (upd H a (.lst vs')):=by
 obtain ⟨a',vs,ev,ha,hg,h0,_⟩:=I.sl i _ _ e es
 cases ev
 refine ⟨I.g0,I.gl,fun b o q=>by rw [upd_ne (ne_of_none q hg)]; exact I.gh b o q,fun b o q=>by rw [upd_ne (ne_of_none q h0)]; exact I.hh b o q,by rw [List.length_set]; exact I.len,fun j x o h1 h2=>?_,fun p q ws1 us c hab h1 h2 h3 h4=>?_⟩
 ·by_cases hj:i=j
  ·subst hj
   rw [List.getElem?_set] at h1
   simp only [if_true] at h1
   split at h1 <;> simp only [Option.some.injEq,reduceCtorEq] at h1
   subst h1
   rw [es] at h2; cases h2
   exact ⟨a,vs',rfl,upd_same,hg,h0,r⟩
  ·rw [List.getElem?_set_ne hj] at h1
   have:=I.sl j x o h1 h2
   cases x with
   | own us=>
    obtain ⟨b,us',eb,hb,hgb,h0b,rb⟩:=this
    subst eb
    have hne:b≠a:=by
     rintro rfl
     exact I.ne i j ws us b hj e h1 es h2
    exact ⟨b,us',rfl,by rw [upd_ne hne]; exact hb,hgb,h0b,rb⟩
   | dic ks=>
    obtain ⟨b,us',eb,hb,hgb,h0b,rb⟩:=this
    have hne:b≠a:=by
     rintro rfl
     rw [ha] at hb; cases hb
    exact ⟨b,us',eb,by rw [upd_ne hne]; exact hb,hgb,h0b,rb⟩
   | dik ks=>
    obtain ⟨b,us',eb,hb,hgb,h0b,rb⟩:=this
    have hne:b≠a:=by
     rintro rfl
     rw [ha] at hb; cases hb
    exact ⟨b,us',eb,by rw [upd_ne hne]; exact hb,hgb,h0b,rb⟩
   | un=>exact this
   | val _=>exact this
   | par _=>exact this
   | iop _ _=>exact this
   | hz _=>exact this
   | dz _=>exact this
 ·have key:∀ {k:Nat} {us:List W},(ρ.set i (.own ws'))[k]?=some (.own us)->∃ us',ρ[k]?=some (.own us'):=fun {k us} hk=>by
   by_cases hik:i=k
   ·subst hik; exact ⟨ws,e⟩
   ·rw [List.getElem?_set_ne hik] at hk; exact ⟨us,hk⟩
  obtain ⟨w1,k1⟩:=key h1
  obtain ⟨w2,k2⟩:=key h2
  exact I.ne p q w1 w2 c hab k1 k2 h3 h4
theorem PIv.own_at {i:Nat} {ws:List W} (I:PIv K H0 G ρ σ H) (e:ρ[i]?=some (.own ws)):∃ a vs,σ[i]?=some (some (.ref a))/\H a=some (.lst vs)/\G a=none/\H0 a=none/\Reps K G vs ws:=by
 have hi:i<σ.length:=by rw [<- I.len]; exact (List.getElem?_eq_some_iff.mp e).1
 have es:σ[i]?=some σ[i]:=by simp
 obtain ⟨a,vs,ev,r⟩:=I.sl i _ _ e es
 exact ⟨a,vs,by rw [es,ev],r⟩
def mApp (i:Nat) (m:Rho->R W):Rho->R Fl:=fun ρ=>match ρ[i]? with
 | some (.own ws)=>m ρ>>=fun w=>if ws.length<1000 then .ok (.nx (ρ.set i (.own (ws ++ [w])))) else .stuck
 | _=>.stuck
theorem c_app {i:Nat} {m:Rho->R W} (h:tSt K EX d (mApp i m) D σ H):tDrop (tApp (tVar i) (tM K EX .V m)) D σ H:=by
 obtain ⟨H0,G,ρ,I,o⟩:=h
 unfold mApp at o
 split at o
 ·rename_i ws e
  obtain ⟨a,vs,es,ha,hg,h0,r⟩:=I.own_at e
  refine ⟨.ref a,es,a,rfl,⟨vs,ha⟩,H0,G,ρ,I,OutS.bind I o fun x G1 H1 w e1 m1 o1=>?_⟩
  by_cases hl:ws.length<1000
  ·rw [if_pos hl] at o1
   have h1:=e1.hh a _ ha
   dsimp only
   rw [h1]
   dsimp only
   have hlen:vs.length=ws.length:=r.length
   exact ⟨Nat.lt_of_lt_of_le (by omega:vs.length<1000) (by decide),o1 G1 σ _ (Same.refl _) ((I.ext e1).own_upd e es ((r.same e1.gg).snoc m1))⟩
  ·rw [if_neg hl] at o1; exact o1.elim
 ·exact o.elim
def mSet (i:Nat) (mk me:Rho->R W):Rho->R Fl:=fun ρ=>match ρ[i]? with
 | some (.own ws)=>me ρ>>=fun w=>mk ρ>>=fun k=>(match k with
  | .int k=>(match ixN ws.length k with
   | some j=>.ok (.nx (ρ.set i (.own (ws.set j w))))
   | none=>.stuck)
  | _=>.stuck)
 | _=>.stuck
def mAug (i:Nat) (f:Int->Int->Int) (m:Rho->R W):Rho->R Fl:=fun ρ=>mVar .B i ρ>>=fun x=>m ρ>>=fun y=>match x,y with
 | .int a,.int b=>.ok (.nx (ρ.set i (.val (.int (f a b)))))
 | _,_=>.stuck
def mIf (c:Rho->R Bool) (m n:Rho->R Fl):Rho->R Fl:=fun ρ=>c ρ>>=fun b=>if b then m ρ else n ρ
theorem c_ifS {c:Rho->R Bool} {m n:Rho->R Fl} (h:tSt K EX d (mIf c m n) D σ H):tIfS (tT K EX c) (tSt K EX d m) (tSt K EX d n) D σ H:=by
 obtain ⟨H0,G,ρ,I,o⟩:=h
 refine ⟨H0,G,ρ,I,OutS.bind I o fun x G1 H1 w e1 m1 o1=>?_⟩
 cases m1
 cases x with
 | true=>exact ⟨H0,G1,ρ,I.ext e1,o1⟩
 | false=>exact ⟨H0,G1,ρ,I.ext e1,o1⟩
def frz (i:Nat) (ρ:Rho):Rho:=match ρ[i]? with
 | some (.own ws)=>ρ.set i (.val (.lst ws))
 | _=>ρ
theorem PIv.frz {i:Nat} (I:PIv K H0 G ρ σ H):∃ G',Same G G'/\PIv K H0 G' (frz i ρ) σ H:=by
 unfold TP.frz
 split
 ·rename_i ws e
  obtain ⟨a,vs,es,ha,hg,h0,r⟩:=I.own_at e
  have s1:Same G (upd G a (.lst vs)):=fun b o q=>by rw [upd_ne (ne_of_none q hg)]; exact q
  refine ⟨upd G a (.lst vs),s1,?_⟩
  have I1:PIv K H0 G (ρ.set i .un) σ H:=by
   refine ⟨I.g0,I.gl,I.gh,I.hh,by rw [List.length_set]; exact I.len,fun j x o h1 h2=>?_,fun p q ws1 us c hab h1 h2 h3 h4=>?_⟩
   ·by_cases hj:i=j
    ·subst hj
     rw [List.getElem?_set] at h1
     simp only [if_true] at h1
     split at h1 <;> simp only [Option.some.injEq,reduceCtorEq] at h1
     subst h1; trivial
    ·rw [List.getElem?_set_ne hj] at h1; exact I.sl j x o h1 h2
   ·have na:i≠p:=by
     rintro rfl
     rw [List.getElem?_set] at h1
     simp only [if_true] at h1
     split at h1 <;> simp at h1
    have nb:i≠q:=by
     rintro rfl
     rw [List.getElem?_set] at h2
     simp only [if_true] at h2
     split at h2 <;> simp at h2
    rw [List.getElem?_set_ne na] at h1
    rw [List.getElem?_set_ne nb] at h2
    exact I.ne p q ws1 us c hab h1 h2 h3 h4
  have I2:PIv K H0 (upd G a (.lst vs)) (ρ.set i .un) σ H:=by
   refine ⟨fun b o q l=>s1 b o (I.g0 b o q l),fun b o q l=>by rw [upd_ne (ne_of_none q h0)]; exact I.gl b o q l,fun b o q=>?_,I.hh,I1.len,fun j x o h1 h2=>?_,I1.ne⟩
   ·by_cases hb:b=a
    ·subst hb; rw [upd_same] at q; cases q; exact ha
    ·rw [upd_ne hb] at q; exact I.gh b o q
   ·have:=I1.sl j x o h1 h2
    cases x with
    | un=>trivial
    | val w=>obtain ⟨v,e1,r1⟩:=this; exact ⟨v,e1,r1.same s1⟩
    | par w=>obtain ⟨v,e1,r1⟩:=this; exact ⟨v,e1,r1.same (join_same s1)⟩
    | own us=>
     obtain ⟨b,us',eb,hb,hgb,h0b,rb⟩:=this
     subst eb
     have hij:i≠j:=by
      rintro rfl
      rw [List.getElem?_set] at h1
      simp only [if_true] at h1
      split at h1 <;> simp at h1
     rw [List.getElem?_set_ne hij] at h1
     have hne:b≠a:=by
      rintro rfl
      exact I.ne i j ws us b hij e h1 es h2
     exact ⟨b,us',rfl,hb,by rw [upd_ne hne]; exact hgb,h0b,rb.same s1⟩
    | dic ks=>
     obtain ⟨b,us',eb,hb,hgb,h0b,rb⟩:=this
     have hne:b≠a:=by
      rintro rfl
      rw [ha] at hb; cases hb
     exact ⟨b,us',eb,hb,by rw [upd_ne hne]; exact hgb,h0b,rb⟩
    | dik ks=>
     obtain ⟨b,us',eb,hb,hgb,h0b,rb⟩:=this
     have hne:b≠a:=by
      rintro rfl
      rw [ha] at hb; cases hb
     exact ⟨b,us',eb,hb,by rw [upd_ne hne]; exact hgb,h0b,rb⟩
    | iop p us=>obtain ⟨e1,vs1,h1',r1⟩:=this; exact ⟨e1,vs1,h1',r1.same s1⟩
    | hz w=>obtain ⟨v,e,r⟩:=this; exact ⟨v,e,r.same (join_same (noLG_same s1))⟩
    | dz zs=>exact DzR.same s1 this
  have I3:=I2.setV (i:=i) (v:=.ref a) (w:=.lst ws) (.lst upd_same (r.same s1))
  have e3:σ.set i (some (V.ref a))=σ:=by
   apply List.ext_getElem?
   intro j
   by_cases hj:i=j
   ·subst hj; rw [es,List.getElem?_set]; simp only [if_true]; rw [if_pos (List.getElem?_eq_some_iff.mp es).1]
   ·rw [List.getElem?_set_ne hj]
  rw [e3,List.set_set] at I3
  exact I3
 ·exact ⟨G,Same.refl G,I⟩
theorem c_frz {i:Nat} {m:Rho->R Fl} (h:tSt K EX d (fun ρ=>m (frz i ρ)) D σ H):tSt K EX d m D σ H:=by
 obtain ⟨H0,G,ρ,I,o⟩:=h
 obtain ⟨G',s,I'⟩:=I.frz (i:=i)
 exact ⟨H0,G',_,I',OutS.move s o⟩
end
end TP
namespace TP
open PySem L2
section
variable {K:Frag} {EX:EXT} {H0 G H G1 H1 G2 H2:Hp} {ρ:Rho} {σ:St} {d:Mode} {D:Ends}
structure ItOk (K:Frag) (e:Mode) (H0 Z G:Hp) (J:It) (ws:List W):Prop where
 go:∀ i H,i<ws.length->Same Z H->J.go i H
 stop:∀ H,Same Z H->J.stop ws.length H
 yld:∀ i H x H' w,ws[i]?=some w->Same Z H->J.yld i H x H'->∀ G2 ρ σ,PIv K H0 G2 ρ σ H->Same G G2->∃ G3,Ext G2 H G3 H'/\Md K H0 H G3 H' x w e
def OutI (K:Frag) (EX:EXT) (lp:Bool) (e:Mode) (H0 G H:Hp) (r:R (List W)) (Rr:It->Hp->Prop):Prop:=match r with
 | .ok ws=>∀ J G' H',Ext G H G' H'->ItOk K e H0 (if lp then join H0 G' else H') G' J ws->Rr J H'
 | .ex x=>∀ H',Same H H'->EX x H'
 | .stuck=>False
def tIt (K:Frag) (EX:EXT) (lp:Bool) (e:Mode) (m:Rho->R (List W)):TI:=fun σ H Rr=>∃ H0 G ρ,PIv K H0 G ρ σ H/\OutI K EX lp e H0 G H (m ρ) Rr
def mFor (mg:W->Rho->Option Rho) (mb:Rho->R Fl):List W->Rho->R Fl
 | [],ρ=>.ok (.nx ρ)
 | w::ws,ρ=>toR (mg w ρ)>>=fun ρ1=>mb ρ1>>=fun f=>match f with
  | .nx ρ2=>mFor mg mb ws ρ2
  | .ct ρ2=>mFor mg mb ws ρ2
  | .bk ρ2=>.ok (.nx ρ2)
  | .rt w=>.ok (.rt w)
theorem c_for {e:Mode} {g:TG} {mg:W->Rho->Option Rho} {mi:Rho->R (List W)} {mb:Rho->R Fl} (hg:Gt K e g mg) (h:tSt K EX d (fun ρ=>mi ρ>>=fun ws=>mFor mg mb ws ρ) D σ H) :
  tFor (tIt K EX true e mi) g (tSt K EX d mb) D σ H:=by
 obtain ⟨H0,G,ρ,I,o⟩:=h
 refine ⟨H0,G,ρ,I,?_⟩
 replace o:OutS K EX d H0 G (mi ρ>>=fun ws=>mFor mg mb ws ρ) D:=o
 revert o
 cases mi ρ with
 | stuck=>exact id
 | ex x=>exact fun o H' s=>o H' (I.hh.trans s)
 | ok ws=>
  intro o J G1 H1 e1 T
  have o1:OutS K EX d H0 G1 (mFor mg mb ws ρ) D:=OutS.move e1.gg o
  refine ⟨fun i m σ H=>m=ws.length-i/\i<=ws.length/\∃ G2 ρ2,Same G1 G2/\PIv K H0 G2 ρ2 σ H/\OutS K EX d H0 G2 (mFor mg mb (ws.drop i) ρ2) D,⟨_,rfl,Nat.zero_le _,G1,ρ,Same.refl _,I.ext e1,o1⟩,?_⟩
  rintro i m σ2 Hh ⟨rfl,hi,G2,ρ2,s2,I2,o2⟩
  have hz:Same (join H0 G1) Hh:=(join_same s2).trans I2.join_H
  by_cases hlt:i<ws.length
  ·refine .inr ⟨T.go i Hh hlt hz,fun σ' H'=>∃ G4 ρ4,Same G1 G4/\PIv K H0 G4 ρ4 σ' H'/\OutS K EX d H0 G4 (mFor mg mb (ws.drop (i+1)) ρ4) D,fun σ' H' zz65=>by obtain ⟨G4,ρ4,s4,I4,o4⟩:=zz65; exact ⟨ws.length-(i+1),by omega,rfl,hlt,G4,ρ4,s4,I4,o4⟩,fun x H' y=>?_⟩
   obtain ⟨G3,e3,m3⟩:=T.yld i Hh x H' ws[i] (by simp) hz y G2 ρ2 σ2 I2 s2
   rw [List.drop_eq_getElem_cons hlt] at o2
   unfold mFor at o2
   cases q:mg ws[i] ρ2 with
   | none=>rw [q] at o2; exact o2.elim
   | some ρ'=>
    rw [q] at o2
    refine hg H0 Hh G3 ρ2 σ2 H' x _ ρ' _ (I2.ext e3) m3 q fun σ' I'=>⟨H0,G3,ρ',I',?_⟩
    have o3:OutS K EX d H0 G3 (mb ρ'>>=fun f=>match f with
     | .nx ρ2=>mFor mg mb (ws.drop (i+1)) ρ2
     | .ct ρ2=>mFor mg mb (ws.drop (i+1)) ρ2
     | .bk ρ2=>.ok (.nx ρ2)
     | .rt w=>.ok (.rt w)) D:=OutS.move e3.gg o2
    revert o3
    have s3:Same G1 G3:=s2.trans e3.gg
    cases mb ρ' with
    | stuck=>exact id
    | ex x=>exact id
    | ok f=>
     cases f with
     | nx ρ4=>exact fun o4 G4 σ4 H4 s4 I4=>⟨G4,ρ4,s3.trans s4,I4,OutS.move s4 o4⟩
     | ct ρ4=>exact fun o4 G4 σ4 H4 s4 I4=>⟨G4,ρ4,s3.trans s4,I4,OutS.move s4 o4⟩
     | bk ρ4=>exact id
     | rt w=>exact id
  ·have e:i=ws.length:=by omega
   subst e
   refine .inl ⟨T.stop Hh hz,?_⟩
   rw [List.drop_length] at o2
   exact o2 G2 σ2 Hh (Same.refl _) I2
def iterW (c:Rho->R Bool) (b:Rho->R Fl):Nat->Rho->Option (R Fl)
 | 0,_=>none
 | n+1,ρ=>match c ρ with
  | .ok false=>some (.ok (.nx ρ))
  | .ok true=>(match b ρ with
   | .ok (.nx ρ')=>iterW c b n ρ'
   | .ok (.ct ρ')=>iterW c b n ρ'
   | .ok (.bk ρ')=>some (.ok (.nx ρ'))
   | .ok (.rt w)=>some (.ok (.rt w))
   | .ex e=>some (.ex e)
   | .stuck=>some .stuck)
  | .ex e=>some (.ex e)
  | .stuck=>some .stuck
open Classical in
def mWhile (c:Rho->R Bool) (b:Rho->R Fl):Rho->R Fl:=fun ρ=>if h:∃ r n,iterW c b n ρ=some r then h.choose else .stuck
theorem Md.whole {v:V} {w:W} {Hs:Hp} (I:PIv K H0 G ρ σ H) (h:Md K H0 Hs G H v w .B):Rep K H v w:=by
 rcases h with h | ⟨a,vs,ws,rfl,rfl,h1,r⟩
 ·exact h.same I.join_H
 ·exact .lst h1 (r.same I.gh)
theorem MdA.whole {Hs:Hp} (I:PIv K H0 G ρ σ H) {ws:List W} {vs:List V} (h:MdA K .B H0 Hs G H ws vs):Reps K H vs ws:=
 @MdA.rec K .B H0 Hs G H (fun ws vs _=>Reps K H vs ws) .nil (fun h _ b=>.cons (h.whole I) b) ws vs h
def XE (_:XK):EXT:=fun _ _=>False
def spM (K:Frag) (n:Nat) (d:Mode) (f:List W->R W):Sp:=fun vs H Q E=>vs.length=n/\∃ ws,Reps K H vs ws/\match f ws with
 | .ok w=>∀ v G' H',Same H H'->Same G' H'->(∀ a o,H a=some o->isL o=true->G' a=none)->Md K H H G' H' v w d->Q v H'
 | .ex e=>∀ H',Same H H'->XE E e H'
 | .stuck=>False
def runB (n N:Nat) (m:Rho->R Fl) (ws:List W):R W:=if ws.length=n then (m (ws.map Sl.par++List.replicate (N-n) Sl.un)>>=fun f=>match f with
 | .rt w=>.ok w
 | .nx _=>.ok .non
 | _=>.stuck) else .stuck
theorem runB_len {n N:Nat} {m:Rho->R Fl} (ws:List W) (h:runB n N m ws≠.stuck):ws.length=n:=by
 unfold runB at h
 by_cases e:ws.length=n
 ·exact e
 ·rw [if_neg e] at h; exact absurd rfl h
def both (G G':Hp):Hp:=fun b=>match G b with
 | some o=>some o
 | none=>G' b
theorem c_call {n:Nat} {f:List W->R W} {E:XK} {ma:Rho->R (List W)} {Q:VK} (hd:d=.F\/d=.V) (hf:∀ ws,f ws≠.stuck->ws.length=n) (hE:∀ e H,EX e H->XE E e H) (h:tM K EX d (fun ρ=>ma ρ>>=fun ws=>f ws) σ H Q) :
  tCall (spM K n d f) [] E (tA K EX .B ma) σ H Q:=by
 obtain ⟨H0,G,ρ,I,o⟩:=h
 refine ⟨H0,G,ρ,I,Out.bind o fun xs G1 H1 ws e1 m1 o1=>?_⟩
 have I1:=I.ext e1
 have r:=MdA.whole I1 m1
 rw [List.append_nil]
 refine ⟨?_,ws,r,?_⟩
 ·rw [r.length]
  refine hf ws fun z=>?_
  rw [z] at o1; exact o1
 ·revert o1
  cases f ws with
  | stuck=>exact id
  | ex e=>exact fun o1 H' s=>hE e H' (o1 H' s)
  | ok w=>
   intro o1 v G' H' sH gH cl md
   have sB:Same G1 (both G1 G'):=fun b o q=>by unfold both; rw [q]
   have sB':Same G' (both G1 G'):=fun b o q=>by
    unfold both
    cases q1:G1 b with
    | none=>exact q
    | some u=>
     have a1:=sH b u (I1.gh b u q1)
     rw [gH b o q] at a1
     exact a1.symm
   have sHB:Same (both G1 G') H':=fun b o q=>by
    unfold both at q
    cases q1:G1 b with
    | none=>rw [q1] at q; exact gH b o q
    | some u=>rw [q1] at q; cases q; exact sH b _ (I1.gh b _ q1)
   have ex:Ext G1 H1 (both G1 G') H':=⟨sB,sH,sHB,fun b o q l g=>by unfold both; rw [g]; exact cl b o q l⟩
   refine o1 v (both G1 G') H' ex ?_
   rcases hd with rfl | rfl
   ·cases w with
    | lst us=>
     obtain ⟨a,vs,rfl,h1,h2,h3,r3⟩:=md
     exact ⟨a,vs,rfl,h1,by unfold both; rw [I1.gh.free h3]; exact h2,e1.hh.free h3,r3.same sB'⟩
    | non=>exact Rep.same sB' md
    | bl _=>exact Rep.same sB' md
    | int _=>exact Rep.same sB' md
    | str _=>exact Rep.same sB' md
    | ty _=>exact Rep.same sB' md
    | tup _=>exact Rep.same sB' md
    | scr _=>exact Rep.same sB' md
    | exc _ _=>exact Rep.same sB' md
    | cls _=>exact Rep.same sB' md
   ·exact Rep.same sB' md
def noLH (H:Hp):Hp:=fun a=>match H a with
 | some o=>if isL o then none else some o
 | none=>none
theorem join_noLH:join H (noLH H)=H:=by
 funext a
 unfold join noLH
 cases q:H a with
 | none=>rfl
 | some o=>
  dsimp only
  cases isL o <;> rfl
theorem Reps.slots {vs:List V} {ws:List W} {i:Nat} {x:Sl} {o:Option V} {k k':Nat} (r:Reps K H vs ws):(ws.map Sl.par++List.replicate k Sl.un)[i]?=some x->(vs.map some++List.replicate k' none)[i]?=some o->x=.un\/∃ v w,x=.par w/\o=some v/\Rep K H v w:=
 Reps.ind (P:=fun vs ws=>∀ i,(ws.map Sl.par++List.replicate k Sl.un)[i]?=some x->(vs.map some++List.replicate k' none)[i]?=some o->x=.un\/∃ v w,x=.par w/\o=some v/\Rep K H v w) (fun i h1 h2=>by
  have h1:(List.replicate k Sl.un)[i]?=some x:=h1
  rw [List.getElem?_replicate] at h1
  by_cases hk:i<k
  ·rw [if_pos hk] at h1; exact .inl (Option.some.inj h1).symm
  ·rw [if_neg hk] at h1; cases h1) (fun r _ b i h1 h2=>by
  cases i with
  | zero=>exact .inr ⟨_,_,(Option.some.inj h1).symm,(Option.some.inj h2).symm,r⟩
  | succ i=>exact b i h1 h2) r i
theorem PIv.begin {vs:List V} {ws:List W} {k k':Nat} (r:Reps K H vs ws) (hk:k=k'):PIv K H (noLH H) (ws.map Sl.par++List.replicate k Sl.un) (vs.map some++List.replicate k' none) H where
 g0 a o e l:=by unfold noLH; rw [e]; dsimp only; rw [l]; rfl
 gl a o e l:=by unfold noLH; rw [e]; dsimp only; rw [l]; rfl
 gh a o e:=by
  unfold noLH at e
  cases q:H a with
  | none=>rw [q] at e; cases e
  | some u=>
   rw [q] at e
   dsimp only at e
   cases hl:isL u
   ·rw [hl] at e; exact e
   ·rw [hl] at e; cases e
 hh:=Same.refl H
 len:=by subst hk; simp [r.length]
 sl i x o h1 h2:=by
  rcases Reps.slots r h1 h2 with rfl | ⟨v,w,rfl,rfl,q⟩
  ·trivial
  ·exact ⟨v,rfl,by rw [join_noLH]; exact q⟩
 ne i j us xs a hij h1 _ _ _:=by
  have:∀ (i:Nat) (us:List W),(ws.map Sl.par++List.replicate k Sl.un)[i]?≠some (Sl.own us):=fun i us q=>by
   rw [List.getElem?_append] at q
   split at q
   ·rw [List.getElem?_map] at q
    cases hh:ws[i]? <;> rw [hh] at q <;> cases q
   ·rw [List.getElem?_replicate] at q
    split at q <;> cases q
  exact absurd h1 (this i us)
theorem c_body {n:Nat} {Nl:List Str} {m:Rho->R Fl} {vs:List V} {Q:VK} {E:XK} (hd:d=.F\/d=.V) (h:spM K n d (runB n Nl.length m) vs H Q E):tSt K (fun _ _=>False) d m { nx:=fun _ H'=>Q .non H',rt:=Q } (L2.start Nl vs) H:=by
 obtain ⟨hl,ws,r,o⟩:=h
 have hw:ws.length=n:=by rw [<- r.length]; exact hl
 unfold runB at o
 rw [if_pos hw] at o
 refine ⟨H,noLH H,_,PIv.begin (k:=Nl.length-n) r (by rw [hl]),?_⟩
 revert o
 cases m (ws.map Sl.par++List.replicate (Nl.length-n) Sl.un) with
 | stuck=>exact id
 | ex e=>exact fun o=>(o H (Same.refl H)).elim
 | ok f=>
  cases f with
  | nx ρ'=>exact fun o G' σ' H' s' I'=>o .non G' H' I'.hh I'.gh I'.gl (Md.sca rfl (fun _=>.non) d)
  | rt w=>exact fun o v G' H' _ s1 s2 c md=>o v G' H' s2 s1 c md
  | bk _=>exact fun o=>o.elim
  | ct _=>exact fun o=>o.elim
end
end TP
namespace TP
open PySem L2
section
variable {K:Frag} {EX:EXT} {H0 G H G1 H1 G2 H2:Hp} {ρ:Rho} {σ:St} {d:Mode} {D:Ends}
def elR (mg:W->Rho->Option Rho) (mc:Rho->R Bool) (me:Rho->R W) (ρ:Rho) (w:W):R (Option W):=match mg w ρ with
 | none=>.stuck
 | some ρ1=>(match mc ρ1 with
  | .ok true=>(match me ρ1 with
   | .ok y=>.ok (some y)
   | _=>.stuck)
  | .ok false=>.ok none
  | _=>.stuck)
def mapR (f:W->R (Option W)):List W->R (List W)
 | []=>.ok []
 | w::ws=>match f w,mapR f ws with
  | .ok (some y),.ok ys=>.ok (y::ys)
  | .ok none,.ok ys=>.ok ys
  | _,_=>.stuck
def mComp (N':Nat) (mg:W->Rho->Option Rho) (mc:Rho->R Bool) (me:Rho->R W) (ws:List W) (ρ:Rho):R W:=
 if ws.length<=1000 then (match mapR (elR mg mc me (ρ++List.replicate (N'-ρ.length) Sl.un)) ws with
  | .ok ys=>.ok (.lst ys)
  | _=>.stuck) else .stuck
theorem mapR_ok {f:W->R (Option W)}:∀ {ws ys:List W},mapR f ws=.ok ys->(∀ w∈ws,∃ o,f w=.ok o)/\ys=ws.filterMap fun w=>match f w with
  | .ok o=>o
  | _=>none:=by
 intro ws
 induction ws with
 | nil=>intro ys h; cases h; exact ⟨by simp,rfl⟩
 | cons w ws ih=>
  intro ys h
  unfold mapR at h
  cases hf:f w with
  | stuck=>rw [hf] at h; cases h
  | ex e=>rw [hf] at h; cases h
  | ok o=>
   rw [hf] at h
   cases hm:mapR f ws with
   | stuck=>rw [hm] at h; cases o <;> cases h
   | ex e=>rw [hm] at h; cases o <;> cases h
   | ok zs=>
    rw [hm] at h
    obtain ⟨h1,h2⟩:=ih hm
    refine ⟨fun u hu=>?_,?_⟩
    ·rcases List.mem_cons.mp hu with rfl | hu
     ·exact ⟨o,hf⟩
     ·exact h1 u hu
    ·cases o with
     | none=>cases h; rw [List.filterMap_cons,hf]; exact h2
     | some y=>cases h; rw [List.filterMap_cons,hf,h2]
theorem PIv.inner {N':List Str} (I:PIv K H0 G ρ σ H):PIv K H0 G (ρ++List.replicate (N'.length-ρ.length) Sl.un) (inner N' σ) H:=by
 have hl:=I.len
 unfold L2.inner
 rw [hl]
 refine ⟨I.g0,I.gl,I.gh,I.hh,by simp [hl],fun i x o h1 h2=>?_,fun p q ws us c hab h1 h2 h3 h4=>?_⟩
 ·by_cases hi:i<ρ.length
  ·rw [List.getElem?_append_left hi] at h1
   rw [List.getElem?_append_left (by omega)] at h2
   exact I.sl i x o h1 h2
  ·rw [List.getElem?_append_right (by omega),List.getElem?_replicate] at h1
   split at h1 <;> simp only [Option.some.injEq,reduceCtorEq] at h1
   subst h1; trivial
 ·have key:∀ {k:Nat} {us:List W},(ρ++List.replicate (N'.length-σ.length) Sl.un)[k]?=some (Sl.own us)->k<ρ.length/\ρ[k]?=some (Sl.own us):=fun {k us} hk=>by
   by_cases hi:k<ρ.length
   ·rw [List.getElem?_append_left hi] at hk; exact ⟨hi,hk⟩
   ·rw [List.getElem?_append_right (by omega),List.getElem?_replicate] at hk
    split at hk <;> simp at hk
  obtain ⟨l1,k1⟩:=key h1
  obtain ⟨l2,k2⟩:=key h2
  rw [List.getElem?_append_left (by omega)] at h3 h4
  exact I.ne p q ws us c hab k1 k2 h3 h4
open Classical in
def rest (G H:Hp) (Dd:Addr) (H':Hp):Hp:=fun b=>if b=Dd\/∃ o,H b=some o/\isL o=true/\G b=none then none else H' b
theorem rest_none {Dd b:Addr} {H':Hp} (h:b=Dd\/∃ o,H b=some o/\isL o=true/\G b=none):rest G H Dd H' b=none:=by unfold rest; rw [if_pos h]
theorem rest_some {Dd b:Addr} {H':Hp} (h:¬ (b=Dd\/∃ o,H b=some o/\isL o=true/\G b=none)):rest G H Dd H' b=H' b:=by unfold rest; rw [if_neg h]
theorem rest_of {Dd b:Addr} {H':Hp} {o:HO} (h:rest G H Dd H' b=some o):H' b=some o/\¬ (b=Dd\/∃ o,H b=some o/\isL o=true/\G b=none):=by
 by_cases c:b=Dd\/∃ o,H b=some o/\isL o=true/\G b=none
 ·rw [rest_none c] at h; cases h
 ·rw [rest_some c] at h; exact ⟨h,c⟩
theorem PIv.rest {Dd:Addr} {H':Hp} (I:PIv K H0 G ρ σ H) (hD:H Dd=none) (s:Same H H'):Same G (rest G H Dd H')/\PIv K H0 (rest G H Dd H') ρ σ H':=by
 have sG:Same G (TP.rest G H Dd H'):=fun b o q=>by
  rw [rest_some]
  ·exact s b o (I.gh b o q)
  ·rintro (rfl | ⟨u,h1,h2,h3⟩)
   ·rw [I.gh _ _ q] at hD; cases hD
   ·rw [q] at h3; cases h3
 refine ⟨sG,fun a o e l=>sG a o (I.g0 a o e l),fun a o e l=>rest_none (.inr ⟨o,I.hh a o e,l,I.gl a o e l⟩),fun b o q=>(rest_of q).1,I.hh.trans s,I.len,fun i x o h1 h2=>?_,I.ne⟩
 have:=I.sl i x o h1 h2
 cases x with
 | un=>trivial
 | val w=>obtain ⟨v,e,r⟩:=this; exact ⟨v,e,r.same sG⟩
 | par w=>obtain ⟨v,e,r⟩:=this; exact ⟨v,e,r.same (join_same sG)⟩
 | own ws=>
  obtain ⟨a,vs,e,h,g,h0,r⟩:=this
  exact ⟨a,vs,e,s a _ h,rest_none (.inr ⟨_,h,rfl,g⟩),h0,r.same sG⟩
 | dic ks=>
  obtain ⟨a,vs,e,h,g,h0,r⟩:=this
  exact ⟨a,vs,e,s a _ h,rest_none (.inr ⟨_,h,rfl,g⟩),h0,r⟩
 | dik ks=>
  obtain ⟨a,vs,e,h,g,h0,r⟩:=this
  exact ⟨a,vs,e,s a _ h,rest_none (.inr ⟨_,h,rfl,g⟩),h0,r⟩
 | iop p ws=>obtain ⟨e1,vs1,h1',r1⟩:=this; exact ⟨e1,vs1,h1',r1.same sG⟩
 | hz w=>obtain ⟨v,e,r⟩:=this; exact ⟨v,e,r.same (join_same (noLG_same sG))⟩
 | dz zs=>exact DzR.same sG this
theorem rest_mono {Dd:Addr} {Ha Hb:Hp} (s:∀ b o,b≠Dd->Ha b=some o->Hb b=some o):Same (rest G H Dd Ha) (rest G H Dd Hb):=fun b o q=>by
 obtain ⟨h,c⟩:=rest_of q
 rw [rest_some c]
 exact s b o (fun z=>c (.inl z)) h
theorem rest_ext {Dd:Addr} {Ha Hb G':Hp} (hl:∃ ys,Ha Dd=some (.lst ys)) (s:Same H Ha) (e:Ext (rest G H Dd Ha) Ha G' Hb):Same G' (rest G H Dd Hb):=fun b o q=>by
 rw [rest_some]
 ·exact e.gh b o q
 ·rintro (rfl | ⟨u,h1,h2,h3⟩)
  ·obtain ⟨ys,hl⟩:=hl
   rw [e.keep _ _ hl rfl (rest_none (.inl rfl))] at q; cases q
  ·rw [e.keep _ _ (s _ _ h1) h2 (rest_none (.inr ⟨u,h1,h2,h3⟩))] at q; cases q
theorem c_comp {Q:VK} {e:Mode} {N':List Str} {g:TG} {mg:W->Rho->Option Rho} {mi:Rho->R (List W)} {mc:Rho->R Bool} {me:Rho->R W} (hg:Gt K e g mg) (h:tM K EX .F (fun ρ=>mi ρ>>=fun ws=>mComp N'.length mg mc me ws ρ) σ H Q) :
  tComp N' (tIt K EX false e mi) g (tT K EX mc) (tM K EX .V me) σ H Q:=by
 obtain ⟨H0,G,ρ,I,o⟩:=h
 refine ⟨H0,G,ρ,I,?_⟩
 replace o:Out EX G H (mdW K .F H0 H) (mi ρ>>=fun ws=>mComp N'.length mg mc me ws ρ) Q:=o
 revert o
 cases mi ρ with
 | stuck=>exact id
 | ex x=>exact id
 | ok ws=>
  intro o J G1 H1 e1 T Dd hD
  have I1:=I.ext e1
  replace o:Out EX G H (mdW K .F H0 H) (mComp N'.length mg mc me ws ρ) Q:=o
  unfold mComp at o
  by_cases hlen:ws.length<=1000
  ·rw [if_pos hlen] at o
   cases hm:mapR (elR mg mc me (ρ++List.replicate (N'.length-ρ.length) Sl.un)) ws with
   | stuck=>rw [hm] at o; exact o.elim
   | ex x=>rw [hm] at o; exact o.elim
   | ok ys=>
    rw [hm] at o
    obtain ⟨hall,hys⟩:=mapR_ok hm
    have T':ItOk K e H0 H1 G1 J ws:=by
     have:=T
     rw [if_neg Bool.false_ne_true] at this
     exact this
    generalize hρ:ρ++List.replicate (N'.length-ρ.length) Sl.un=ρi at hm hall hys
    refine ⟨fun i m H2=>m=ws.length-i/\i<=ws.length/\Same H1 H2/\∃ vs,H2 Dd=some (.lst vs)/\vs.length<=i/\Reps K (rest G1 H1 Dd H2) vs ((ws.take i).filterMap fun w=>match elR mg mc me ρi w with
     | .ok o=>o
     | _=>none),⟨_,rfl,Nat.zero_le _,fun b u q=>by rw [upd_ne (ne_of_none q hD)]; exact q,[],upd_same,Nat.le_refl _,.nil⟩,?_⟩
    rintro i m H2 ⟨rfl,hi,s2,vs,hDv,hvl,r2⟩
    by_cases hlt:i<ws.length
    ·refine .inr ⟨T'.go i H2 hlt s2,fun x H3 y=>?_⟩
     obtain ⟨sG,I2⟩:=I1.rest (Dd:=Dd) hD s2
     have I2i:=I2.inner (N':=N')
     obtain ⟨G3,e3,m3⟩:=T'.yld i H2 x H3 ws[i] (by simp) s2 y _ _ _ I2i sG
     obtain ⟨op,hop⟩:=hall ws[i] (List.getElem_mem hlt)
     have hop':=hop
     unfold elR at hop
     rw [<- hρ] at hop
     have htake:ws.take (i+1)=ws.take i ++ [ws[i]]:=by rw [List.take_succ_eq_append_getElem hlt]
     cases q:mg ws[i] (ρ++List.replicate (N'.length-ρ.length) Sl.un) with
     | none=>rw [q] at hop; cases hop
     | some ρ1=>
      rw [q] at hop
      dsimp only at hop
      refine hg H0 H2 G3 _ _ H3 x _ ρ1 _ (I2i.ext e3) m3 q fun σ4 I4=>⟨H0,G3,ρ1,I4,?_⟩
      cases hc:mc ρ1 with
      | stuck=>rw [hc] at hop; cases hop
      | ex x=>rw [hc] at hop; cases hop
      | ok b=>
       intro b' G5 H5 e5 eb
       cases eb
       rw [hc] at hop
       cases b with
       | false=>
        rw [if_neg Bool.false_ne_true]
        have hop2:op=none:=by cases hop; rfl
        have s5:Same H2 H5:=e3.hh.trans e5.hh
        refine ⟨ws.length-(i+1),by omega,rfl,hlt,s2.trans s5,vs,s5 _ _ hDv,by omega,?_⟩
        rw [htake,List.filterMap_append]
        have:([ws[i]].filterMap fun w=>match elR mg mc me ρi w with
         | .ok o=>o
         | _=>none) = []:=by
         rw [List.filterMap_cons,hop',hop2]; rfl
        rw [this,List.append_nil]
        exact r2.same (rest_mono fun b o _ q=>s5 b o q)
       | true=>
        dsimp only at hop
        rw [if_pos rfl]
        refine ⟨H0,G5,ρ1,I4.ext e5,?_⟩
        cases hme:me ρ1 with
        | stuck=>rw [hme] at hop; cases hop
        | ex x=>rw [hme] at hop; cases hop
        | ok z=>
         rw [hme] at hop
         have hop2:op=some z:=by cases hop; rfl
         intro yv G6 H6 e6 m6
         have e36:Ext (TP.rest G1 H1 Dd H2) H2 G6 H6:=(e3.trans e5).trans e6
         have s6:Same H2 H6:=e36.hh
         refine ⟨vs,s6 _ _ hDv,Nat.lt_of_le_of_lt hvl (Nat.lt_of_lt_of_le (by omega:i<1000) (by decide)),ws.length-(i+1),by omega,rfl,hlt,fun b u q=>by rw [upd_ne (ne_of_none q hD)]; exact s6 b u (s2 b u q),vs ++ [yv],upd_same,by rw [List.length_append]; simp; omega,?_⟩
         rw [htake,List.filterMap_append]
         have:([ws[i]].filterMap fun w=>match elR mg mc me ρi w with
          | .ok o=>o
          | _=>none) = [z]:=by
          rw [List.filterMap_cons,hop',hop2]; rfl
         rw [this]
         have k1:Same (TP.rest G1 H1 Dd H2) (TP.rest G1 H1 Dd (upd H6 Dd (.lst (vs ++ [yv])))):=rest_mono fun b o hb q=>by rw [upd_ne hb]; exact s6 b o q
         have k2:Same G6 (TP.rest G1 H1 Dd (upd H6 Dd (.lst (vs ++ [yv])))):=(rest_ext ⟨vs,hDv⟩ s2 e36).trans (rest_mono fun b o hb q=>by rw [upd_ne hb]; exact q)
         exact (r2.same k1).snoc (Rep.same k2 m6)
    ·have ei:i=ws.length:=by omega
     subst ei
     refine .inl ⟨T'.stop H2 s2,?_⟩
     rw [List.take_length,<- hys] at r2
     obtain ⟨sG,I2⟩:=I1.rest (Dd:=Dd) hD s2
     refine o _ (TP.rest G1 H1 Dd H2) H2 ⟨e1.gg.trans sG,e1.hh.trans s2,I2.gh,fun b u q l g=>rest_none (.inr ⟨u,e1.hh b u q,l,e1.keep b u q l g⟩)⟩ ⟨Dd,vs,rfl,hDv,rest_none (.inl rfl),e1.hh.free hD,r2⟩
  ·rw [if_neg hlen] at o; exact o.elim
def seqW:W->R (List W)
 | .lst ws=>.ok ws
 | .tup ws=>.ok ws
 | .scr ws=>.ok ws
 | _=>.stuck
theorem sq_same {t:Bool} {a:Addr} {xs:List V} (e:Same H H1) (h:Sq K H t a xs):Sq K H1 t a xs:=by
 unfold Sq at h ⊢
 split at h
 ·rename_i ht; rw [if_pos ht]; exact sqT_same e h
 ·rename_i ht; rw [if_neg ht]; exact Same.seq e h
theorem sqT {a:Addr} {xs:List V} (h:SqT K H a xs):Sq K H true a xs:=by unfold Sq; rw [if_pos rfl]; exact h
theorem sqL {a:Addr} {xs:List V} (h:SqL K H a xs):Sq K H false a xs:=by unfold Sq; rw [if_neg Bool.false_ne_true]; exact h
theorem Rep.sq {F:Hp} {x:V} {w:W} {ws:List W} (h:Rep K F x w) (hw:seqW w=.ok ws):∃ t a vs,x=.ref a/\Sq K F t a vs/\Reps K F vs ws:=by
 cases w <;> first | (cases hw; done) | skip
 ·obtain ⟨a,vs,e,s,r⟩:=h.inv; exact ⟨true,a,vs,e,sqT (SqT.of s),R.ok.inj hw ▸ r⟩
 ·obtain ⟨a,vs,e,s,r⟩:=h.inv; exact ⟨false,a,vs,e,sqL (SqL.of s),R.ok.inj hw ▸ r⟩
 ·obtain ⟨a,vs,e,s,r⟩:=h.inv; exact ⟨false,a,vs,e,sqL s,R.ok.inj hw ▸ r⟩
def srcM:Bool->Mode->Mode
 | true,e=>e
 | false,.V=>.C
 | false,_=>.B
def fz (e:Mode) (H0 G:Hp):Hp:=if e=.V then G else join H0 G
theorem Md.src {lp:Bool} {e:Mode} {Hs:Hp} {x:V} {w:W} {ws:List W} (he:e=.V\/e=.U) (I:PIv K H0 G ρ σ H) (m:Md K H0 Hs G H x w (srcM lp e)) (hw:seqW w=.ok ws) :
  ∃ t a vs,x=.ref a/\Sq K (if lp then join H0 G else H) t a vs/\Reps K (fz e H0 G) vs ws:=by
 unfold fz
 rcases he with rfl | rfl
 ·rw [if_pos rfl]
  cases lp with
  | true=>
   obtain ⟨t,a,vs,e1,e2,e3⟩:=Rep.sq m hw
   exact ⟨t,a,vs,e1,by rw [if_pos rfl]; exact sq_same I.G_join e2,e3⟩
  | false=>
   rw [if_neg Bool.false_ne_true]
   rcases m with m | ⟨a,vs,us,rfl,rfl,h1,r⟩
   ·obtain ⟨t,a,vs,e1,e2,e3⟩:=Rep.sq m hw
    exact ⟨t,a,vs,e1,sq_same I.gh e2,e3⟩
   ·cases hw; exact ⟨false,a,vs,rfl,sqL (SqL.of h1),r⟩
 ·rw [if_neg (show ¬ (Mode.U=Mode.V) by intro z; cases z)]
  cases lp with
  | true=>
   obtain ⟨t,a,vs,e1,e2,e3⟩:=Rep.sq m hw
   exact ⟨t,a,vs,e1,by rw [if_pos rfl]; exact e2,e3⟩
  | false=>
   rw [if_neg Bool.false_ne_true]
   rcases m with m | ⟨a,vs,us,rfl,rfl,h1,r⟩
   ·obtain ⟨t,a,vs,e1,e2,e3⟩:=Rep.sq m hw
    exact ⟨t,a,vs,e1,sq_same I.join_H e2,e3⟩
   ·cases hw; exact ⟨false,a,vs,rfl,sqL (SqL.of h1),r.same I.G_join⟩
theorem Md.of_fz {e:Mode} {Hs:Hp} {v:V} {w:W} (he:e=.V\/e=.U) (h:Rep K (fz e H0 G) v w):Md K H0 Hs G H v w e:=by
 unfold fz at h
 rcases he with rfl | rfl
 ·rw [if_pos rfl] at h; exact h
 ·rw [if_neg (show ¬ (Mode.U=Mode.V) by intro z; cases z)] at h; exact h
theorem fz_same {e:Mode} (s:Same G G1):Same (fz e H0 G) (fz e H0 G1):=by
 unfold fz
 split
 ·exact s
 ·exact join_same s
theorem itok_sq {e:Mode} {Z:Hp} {t:Bool} {a:Addr} {vs:List V} {ws:List W} (he:e=.V\/e=.U) (s:Sq K Z t a vs) (r:Reps K (fz e H0 G) vs ws):ItOk K e H0 Z G (ItQ K t a) ws:=by
 have hl:=r.length
 cases t with
 | true=>
  have hq:∀ H,Same Z H->SqT K H a vs:=fun H z=>by have:=sq_same z s; unfold Sq at this; rw [if_pos rfl] at this; exact this
  refine ⟨fun i H hi z=>⟨vs,vs[i]'(by omega),hq H z,by simp⟩,fun H z=>⟨vs,hq H z,by omega⟩,fun i H x H' w hw z zz66 G2 ρ σ I sg=>?_⟩
  obtain ⟨e1,y⟩:=zz66
  subst e1
  have hx:=y vs (hq _ z)
  obtain ⟨v,hv,rv⟩:=Reps.get r hw
  rw [hx] at hv; cases hv
  exact ⟨G2,Ext.refl I.gh,Md.of_fz he (rv.same (fz_same sg))⟩
 | false=>
  have hq:∀ H,Same Z H->SqL K H a vs:=fun H z=>by have:=sq_same z s; unfold Sq at this; rw [if_neg Bool.false_ne_true] at this; exact this
  refine ⟨fun i H hi z=>⟨vs,vs[i]'(by omega),hq H z,by simp⟩,fun H z=>⟨vs,hq H z,by omega⟩,fun i H x H' w hw z zz67 G2 ρ σ I sg=>?_⟩
  obtain ⟨e1,y⟩:=zz67
  subst e1
  have hx:=y vs (hq _ z)
  obtain ⟨v,hv,rv⟩:=Reps.get r hw
  rw [hx] at hv; cases hv
  exact ⟨G2,Ext.refl I.gh,Md.of_fz he (rv.same (fz_same sg))⟩
theorem lp_H {lp:Bool} (I:PIv K H0 G ρ σ H):Same (if lp then join H0 G else H) H:=by
 cases lp
 ·exact Same.refl H
 ·exact I.join_H
theorem c_iSq {lp:Bool} {e:Mode} {ml:Rho->R W} {Rr:It->Hp->Prop} (he:e=.V\/e=.U) (h:tIt K EX lp e (fun ρ=>ml ρ>>=seqW) σ H Rr):iSq K (tM K EX (srcM lp e) ml) σ H Rr:=by
 obtain ⟨H0,G,ρ,I,o⟩:=h
 refine ⟨H0,G,ρ,I,?_⟩
 replace o:OutI K EX lp e H0 G H (ml ρ>>=seqW) Rr:=o
 revert o
 cases ml ρ with
 | stuck=>exact id
 | ex x=>exact id
 | ok w=>
  intro o x G1 H1 e1 m1
  have I1:=I.ext e1
  have o':OutI K EX lp e H0 G H (seqW w) Rr:=o
  cases q:seqW w with
  | stuck=>rw [q] at o'; exact o'.elim
  | ex z=>cases w <;> cases q
  | ok ws=>
   rw [q] at o'
   obtain ⟨t,a,vs,ex,s,r⟩:=Md.src he I1 m1 q
   exact ⟨a,ex,t,vs,sq_same (lp_H I1) s,o' _ G1 H1 e1 (itok_sq he s r)⟩
def rngW (lo hi:Int):R (List W):=if -1000000<=lo/\lo<=1000000 /\ -1000000<=hi/\hi<=1000000 then .ok ((List.range (hi-lo).toNat).map fun k=>W.int (lo+(k:Nat))) else .stuck
def rng1:List W->R (List W)
 | [.int j]=>rngW 0 j
 | _=>.stuck
def rng2:List W->R (List W)
 | [.int i,.int j]=>rngW i j
 | _=>.stuck
theorem itok_rng {e:Mode} {Z:Hp} {lo:Int} {n:Nat} (he:e=.V\/e=.U):ItOk K e H0 Z G (Itr lo n) ((List.range n).map fun k=>W.int (lo+(k:Nat))):=by
 refine ⟨fun i H hi _=>by show i<n; simpa using hi,fun H _=>by simp [Itr],fun i H x H' w hw _ zz68 G2 ρ σ I _=>?_⟩
 obtain ⟨e1,e2⟩:=zz68
 subst e1; subst e2
 rw [List.getElem?_map] at hw
 cases q:(List.range n)[i]? with
 | none=>rw [q] at hw; cases hw
 | some k=>
  rw [q] at hw
  have hk:k=i:=by
   have:=List.getElem?_eq_some_iff.mp q
   obtain ⟨h1,h2⟩:=this
   simpa using h2.symm
  subst hk
  cases hw
  refine ⟨G2,Ext.refl I.gh,Md.sca rfl (fun _=>.int) e⟩
theorem tIt_bind {lp:Bool} {e b:Mode} {ma:Rho->R (List W)} {k:List W->R (List W)} {Rr:It->Hp->Prop} {Q:List V->Hp->Prop} (h:tIt K EX lp e (fun ρ=>ma ρ>>=k) σ H Rr)
  (hq:∀ H0 G ρ G1 H1 xs ws us,PIv K H0 G ρ σ H->Ext G H G1 H1->MdA K b H0 H G1 H1 ws xs->k ws=.ok us->(∀ J G' H',Ext G H G' H'->ItOk K e H0 (if lp then join H0 G' else H') G' J us->Rr J H')->Q xs H1)
  (hx:∀ ws e,k ws≠.ex e):tA K EX b ma σ H Q:=by
 obtain ⟨H0,G,ρ,I,o⟩:=h
 refine ⟨H0,G,ρ,I,?_⟩
 replace o:OutI K EX lp e H0 G H (ma ρ>>=k) Rr:=o
 revert o
 cases ma ρ with
 | stuck=>exact id
 | ex x=>exact id
 | ok ws=>
  intro o xs G1 H1 e1 m1
  have o':OutI K EX lp e H0 G H (k ws) Rr:=o
  cases q:k ws with
  | stuck=>rw [q] at o'; exact o'.elim
  | ex z=>exact absurd q (hx ws z)
  | ok us=>rw [q] at o'; exact hq H0 G ρ G1 H1 xs ws us I e1 m1 q o'
theorem rngW_ok {lo hi:Int} {us:List W} (h:rngW lo hi=.ok us):(-1000000<=lo/\lo<=1000000 /\ -1000000<=hi/\hi<=1000000)/\us=(List.range (hi-lo).toNat).map fun k=>W.int (lo+(k:Nat)):=by
 unfold rngW at h
 split at h
 ·cases h; rename_i c; exact ⟨c,rfl⟩
 ·cases h
theorem rngW_nex {lo hi:Int} {e:XW} (h:rngW lo hi=.ex e):False:=by
 unfold rngW at h
 by_cases c:-1000000<=lo/\lo<=1000000 /\ -1000000<=hi/\hi<=1000000
 ·rw [if_pos c] at h; cases h
 ·rw [if_neg c] at h; cases h
theorem c_rng1 {lp:Bool} {e:Mode} {ma:Rho->R (List W)} {Rr:It->Hp->Prop} (he:e=.V\/e=.U) (h:tIt K EX lp e (fun ρ=>ma ρ>>=rng1) σ H Rr):iRng1 (tA K EX .B ma) σ H Rr:=by
 refine tIt_bind h (fun H0 G ρ G1 H1 xs ws us I e1 m1 q o=>?_) (fun ws e z=>?_)
 ·cases m1 with
  | nil=>cases q
  | @cons w _ _ _ a t=>
   cases t with
   | cons _ _=>first | (cases q; done) | (cases w <;> cases q)
   | nil=>
    cases w <;> first | (cases q; done) | skip
    rename_i j
    obtain ⟨c,rfl⟩:=rngW_ok (show rngW 0 j=_ from q)
    refine ⟨j,by rw [Md.intB a],by omega,by omega,?_⟩
    have:=o (Itr 0 j.toNat) G1 H1 e1
    rw [Int.sub_zero] at this
    exact this (itok_rng he)
 ·cases ws with
  | nil=>cases z
  | cons w t=>
   cases t with
   | cons _ _=>first | (cases z; done) | (cases w <;> cases z)
   | nil=>
    cases w <;> first | (cases z; done) | skip
    exact rngW_nex (lo:=0) z
def zipW:List (List W)->List (List W)
 | [xs,ys]=>xs.zipWith (fun x y=>[x,y]) ys
 | [xs,ys,zs]=>(xs.zip ys).zipWith (fun p z=>[p.1,p.2,z]) zs
 | _=>[]
def seqWs:List W->R (List (List W))
 | []=>.ok []
 | w::ws=>match seqW w,seqWs ws with
  | .ok x,.ok xs=>.ok (x::xs)
  | _,_=>.stuck
def zipR (ws:List W):R (List W):=if ws.length=2\/ws.length=3 then (match seqWs ws with
 | .ok xs=>.ok ((zipW xs).map W.tup)
 | _=>.stuck) else .stuck
theorem rep_new {e:Mode} {p:Addr} {vs:List V} {ws:List W} {Hs:Hp} (he:e=.V\/e=.U) (I:PIv K H0 G ρ σ H) (hp:H p=none) (r:Reps K (fz e H0 G) vs ws):Ext G H (upd G p (.tup vs)) (upd H p (.tup vs))/\Md K H0 Hs (upd G p (.tup vs)) (upd H p (.tup vs)) (.ref p) (.tup ws) e:=by
 refine ⟨new_extG I.gh hp,?_⟩
 have gp:G p=none:=I.gh.free hp
 rcases he with rfl | rfl
 ·unfold fz at r
  rw [if_pos rfl] at r
  exact .tup upd_same (r.same fun b u q=>by rw [upd_ne (ne_of_none q gp)]; exact q)
 ·unfold fz at r
  rw [if_neg (show ¬ (Mode.U=Mode.V) by intro z; cases z)] at r
  show Rep K (join H0 (upd G p (.tup vs))) _ _
  rw [join_upd (I.hh.free hp)]
  exact .tup upd_same (r.same fun b u q=>by rw [upd_ne (ne_of_none (I.join_H b u q) hp)]; exact q)
theorem itok_zip2 {e:Mode} {Z:Hp} {t u:Bool} {a b:Addr} {xs ys:List V} {us vs:List W} (he:e=.V\/e=.U) (s1:Sq K Z t a xs) (s2:Sq K Z u b ys) (r1:Reps K (fz e H0 G) xs us) (r2:Reps K (fz e H0 G) ys vs) :
  ItOk K e H0 Z G (ItZ K [(t,a),(u,b)]) ((us.zipWith (fun x y=>[x,y]) vs).map W.tup):=by
 have Rn:=runs_zip2 s1 s2
 have l1:=r1.length
 have l2:=r2.length
 have hl:((us.zipWith (fun x y=>[x,y]) vs).map W.tup).length=min xs.length ys.length:=by simp [l1,l2]
 refine ⟨fun i H hi z=>Rn.go i H (by omega) z,fun H z=>by rw [hl]; exact Rn.stop H z,fun i H x H' w hw z y G2 ρ σ I sg=>?_⟩
 have hi:i<min xs.length ys.length:=by
  rw [<- hl]; exact (List.getElem?_eq_some_iff.mp hw).1
 obtain ⟨p,y1,z1,rfl,hp,rfl,hy,hz⟩:=Rn.yld i H x H' hi z y
 obtain ⟨w1,e1,q1⟩:=Reps.get' r1 hy
 obtain ⟨w2,e2,q2⟩:=Reps.get' r2 hz
 have hw':w=.tup [w1,w2]:=by
  rw [List.getElem?_map,List.getElem?_zipWith,e1,e2] at hw
  cases hw; rfl
 subst hw'
 obtain ⟨x1,x2⟩:=rep_new (Hs:=H) he I hp (.cons (q1.same (fz_same sg)) (.cons (q2.same (fz_same sg)) .nil))
 exact ⟨_,x1,x2⟩
theorem itok_zip3 {e:Mode} {Z:Hp} {t u v:Bool} {a b c:Addr} {xs ys zs:List V} {us vs ts:List W} (he:e=.V\/e=.U) (s1:Sq K Z t a xs) (s2:Sq K Z u b ys) (s3:Sq K Z v c zs) (r1:Reps K (fz e H0 G) xs us) (r2:Reps K (fz e H0 G) ys vs) (r3:Reps K (fz e H0 G) zs ts) :
  ItOk K e H0 Z G (ItZ K [(t,a),(u,b),(v,c)]) (((us.zip vs).zipWith (fun p z=>[p.1,p.2,z]) ts).map W.tup):=by
 have Rn:=runs_zip3 s1 s2 s3
 have l1:=r1.length
 have l2:=r2.length
 have l3:=r3.length
 have hl:(((us.zip vs).zipWith (fun p z=>[p.1,p.2,z]) ts).map W.tup).length=min xs.length (min ys.length zs.length):=by simp [l1,l2,l3,Nat.min_assoc]
 refine ⟨fun i H hi z=>Rn.go i H (by omega) z,fun H z=>by rw [hl]; exact Rn.stop H z,fun i H x H' w hw z y G2 ρ σ I sg=>?_⟩
 have hi:i<min xs.length (min ys.length zs.length):=by
  rw [<- hl]; exact (List.getElem?_eq_some_iff.mp hw).1
 obtain ⟨p,y1,z1,t1,rfl,hp,rfl,hy,hz,ht⟩:=Rn.yld i H x H' hi z y
 obtain ⟨w1,e1,q1⟩:=Reps.get' r1 hy
 obtain ⟨w2,e2,q2⟩:=Reps.get' r2 hz
 obtain ⟨w3,e3,q3⟩:=Reps.get' r3 ht
 have hw':w=.tup [w1,w2,w3]:=by
  rw [List.getElem?_map,List.getElem?_zipWith,List.zip,List.getElem?_zipWith,e1,e2,e3] at hw
  cases hw; rfl
 subst hw'
 obtain ⟨x1,x2⟩:=rep_new (Hs:=H) he I hp (.cons (q1.same (fz_same sg)) (.cons (q2.same (fz_same sg)) (.cons (q3.same (fz_same sg)) .nil)))
 exact ⟨_,x1,x2⟩
theorem seqWs_cons {w:W} {ws:List W} {xs:List (List W)} (h:seqWs (w::ws)=.ok xs):∃ y ys,seqW w=.ok y/\seqWs ws=.ok ys/\xs=y::ys:=by
 unfold seqWs at h
 cases h1:seqW w with
 | stuck=>rw [h1] at h; cases h
 | ex _=>rw [h1] at h; cases h
 | ok y=>
  rw [h1] at h
  cases h2:seqWs ws with
  | stuck=>rw [h2] at h; cases h
  | ex _=>rw [h2] at h; cases h
  | ok ys=>rw [h2] at h; cases h; exact ⟨y,ys,rfl,rfl,rfl⟩
theorem c_zip {lp:Bool} {e:Mode} {ma:Rho->R (List W)} {Rr:It->Hp->Prop} (he:e=.V\/e=.U) (h:tIt K EX lp e (fun ρ=>ma ρ>>=zipR) σ H Rr):iZip K (tA K EX (srcM lp e) ma) σ H Rr:=by
 refine tIt_bind h (fun H0 G ρ G1 H1 xs ws us I e1 m1 q o=>?_) (fun ws e z=>?_)
 ·have I1:=I.ext e1
  unfold zipR at q
  split at q
  ·rename_i hn
   cases hs:seqWs ws with
   | stuck=>rw [hs] at q; cases q
   | ex _=>rw [hs] at q; cases q
   | ok ls=>
    rw [hs] at q
    cases q
    cases m1 with
    | nil=>simp at hn
    | cons a1 m1=>
     cases m1 with
     | nil=>simp at hn
     | cons a2 m1=>
      obtain ⟨y1,ys,h1,hs1,rfl⟩:=seqWs_cons hs
      obtain ⟨y2,ys,h2,hs2,rfl⟩:=seqWs_cons hs1
      obtain ⟨t1,p1,v1,rfl,q1,r1⟩:=Md.src he I1 a1 h1
      obtain ⟨t2,p2,v2,rfl,q2,r2⟩:=Md.src he I1 a2 h2
      have k1:=sq_same (lp_H I1) q1
      have k2:=sq_same (lp_H I1) q2
      cases m1 with
      | nil=>
       cases hs2
       refine ⟨[(t1,p1),(t2,p2)],rfl,.inl rfl,fun u hu=>?_,o _ G1 H1 e1 (itok_zip2 he q1 q2 r1 r2)⟩
       simp only [List.mem_cons,List.not_mem_nil,or_false] at hu
       rcases hu with rfl | rfl
       ·exact ⟨_,k1⟩
       ·exact ⟨_,k2⟩
      | cons a3 m1=>
       cases m1 with
       | cons _ _=>simp at hn
       | nil=>
        obtain ⟨y3,ys,h3,hs3,rfl⟩:=seqWs_cons hs2
        cases hs3
        obtain ⟨t3,p3,v3,rfl,q3,r3⟩:=Md.src he I1 a3 h3
        refine ⟨[(t1,p1),(t2,p2),(t3,p3)],rfl,.inr rfl,fun u hu=>?_,o _ G1 H1 e1 (itok_zip3 he q1 q2 q3 r1 r2 r3)⟩
        simp only [List.mem_cons,List.not_mem_nil,or_false] at hu
        rcases hu with rfl | rfl | rfl
        ·exact ⟨_,k1⟩
        ·exact ⟨_,k2⟩
        ·exact ⟨_,sq_same (lp_H I1) q3⟩
  ·cases q
 ·unfold zipR at z
  split at z
  ·split at z <;> cases z
  ·cases z
end
end TP
namespace TP
open PySem L2
section
variable {K:Frag} {EX:EXT} {H0 G H G1 H1 G2 H2:Hp} {ρ:Rho} {σ:St} {d:Mode} {D:Ends} {Q:VK}
theorem Reps.atI {F:Hp} {vs:List V} {ws:List W} {i:Int} {w:W} (r:Reps K F vs ws) (h:L2.atI ws i=some w):∃ v,L2.atI vs i=some v/\Rep K F v w:=by
 unfold L2.atI at h ⊢
 rw [r.length]
 cases q:ixN ws.length i with
 | none=>rw [q] at h; cases h
 | some j=>rw [q] at h; exact Reps.get r h
def fIx:W->W->R W
 | .lst ws,.int i=>toR (L2.atI ws i)
 | .tup ws,.int i=>toR (L2.atI ws i)
 | .scr ws,.int i=>toR (L2.atI ws i)
 | _,_=>.stuck
theorem o2_ixU:Op2 K .B .U (rIx K) fIx:=by
 intro EX H0 Hs G H ρ σ Ha Hb x y u v Q I s mx my o
 cases u <;> first | exact o.elim | skip
 all_goals (cases v <;> first | exact o.elim | skip)
 ·rename_i ws i
  obtain ⟨a,vs,rfl,hs,r⟩:=mx.tupB I
  replace o:Out EX G H (mdW K .U H0 Hs) (toR (L2.atI ws i)) Q:=o
  cases q:L2.atI ws i with
  | none=>rw [q] at o; exact o.elim
  | some w=>
   rw [q] at o
   obtain ⟨v,hv,rv⟩:=r.atI q
   exact .inr (.inl ⟨a,vs,i,v,rfl,my.intB,SqT.of hs,hv,o v G H (Ext.refl I.gh) rv⟩)
 ·rename_i ws i
  obtain ⟨a,vs,rfl,hs,r⟩:=mx.lstB I
  replace o:Out EX G H (mdW K .U H0 Hs) (toR (L2.atI ws i)) Q:=o
  cases q:L2.atI ws i with
  | none=>rw [q] at o; exact o.elim
  | some w=>
   rw [q] at o
   obtain ⟨v,hv,rv⟩:=r.atI q
   exact .inl ⟨a,vs,i,v,rfl,my.intB,SqL.of hs,hv,o v G H (Ext.refl I.gh) rv⟩
 ·rename_i ws i
  obtain ⟨a,vs,rfl,hs,r⟩:=mx.scrB I
  replace o:Out EX G H (mdW K .U H0 Hs) (toR (L2.atI ws i)) Q:=o
  cases q:L2.atI ws i with
  | none=>rw [q] at o; exact o.elim
  | some w=>
   rw [q] at o
   obtain ⟨v,hv,rv⟩:=r.atI q
   exact .inl ⟨a,vs,i,v,rfl,my.intB,hs,hv,o v G H (Ext.refl I.gh) rv⟩
theorem o2_ixV:Op2 K .C .V (rIx K) fIx:=by
 intro EX H0 Hs G H ρ σ Ha Hb x y u v Q I s mx my o
 cases u <;> first | exact o.elim | skip
 all_goals (cases v <;> first | exact o.elim | skip)
 ·rename_i ws i
  obtain ⟨a,vs,rfl,hs,r⟩:=mx.tupC I
  replace o:Out EX G H (mdW K .V H0 Hs) (toR (L2.atI ws i)) Q:=o
  cases q:L2.atI ws i with
  | none=>rw [q] at o; exact o.elim
  | some w=>
   rw [q] at o
   obtain ⟨v,hv,rv⟩:=r.atI q
   exact .inr (.inl ⟨a,vs,i,v,rfl,Md.intB (Md.CB I my),SqT.of hs,hv,o v G H (Ext.refl I.gh) rv⟩)
 ·rename_i ws i
  obtain ⟨a,vs,rfl,hs,r⟩:=mx.lstC I
  replace o:Out EX G H (mdW K .V H0 Hs) (toR (L2.atI ws i)) Q:=o
  cases q:L2.atI ws i with
  | none=>rw [q] at o; exact o.elim
  | some w=>
   rw [q] at o
   obtain ⟨v,hv,rv⟩:=r.atI q
   exact .inl ⟨a,vs,i,v,rfl,Md.intB (Md.CB I my),SqL.of hs,hv,o v G H (Ext.refl I.gh) rv⟩
 ·rename_i ws i
  obtain ⟨a,vs,rfl,hs,r⟩:=(Md.repC mx fun _=>W.noConfusion).inv
  replace o:Out EX G H (mdW K .V H0 Hs) (toR (L2.atI ws i)) Q:=o
  cases q:L2.atI ws i with
  | none=>rw [q] at o; exact o.elim
  | some w=>
    rw [q] at o
    obtain ⟨v,hv,rv⟩:=r.atI q
    exact .inl ⟨_,_,i,v,rfl,Md.intB (Md.CB I my),Same.seq I.gh hs,hv,o v G H (Ext.refl I.gh) rv⟩
def tOp_ (K:Frag) (EX:EXT) (m:Rho->R (Option Int)):TO:=fun σ H Q=>∃ H0 G ρ,PIv K H0 G ρ σ H/\Out EX G H (fun (b c:Option Int) _ _=>c=b) (m ρ) Q
def partW:W->R (Option Int)
 | .int i=>.ok (some i)
 | _=>.stuck
theorem c_part {m:Rho->R W} {Q:Option Int->Hp->Prop} (h:tOp_ K EX (fun ρ=>m ρ>>=partW) σ H Q):tPart (tM K EX .B m) σ H Q:=by
 obtain ⟨H0,G,ρ,I,o⟩:=h
 refine ⟨H0,G,ρ,I,Out.bind o fun x G1 H1 u e1 m1 o1=>?_⟩
 cases u <;> first | exact o1.elim | skip
 rename_i i
 exact ⟨i,m1.intB,o1 _ G1 H1 (Ext.refl e1.gh) rfl⟩
def cutW (xs:List W) (lo hi:Option Int):List W:=(xs.drop (HT.sIx xs.length 0 lo)).take (HT.sIx xs.length xs.length hi-HT.sIx xs.length 0 lo)
theorem Reps.cut {F:Hp} {vs:List V} {ws:List W} (r:Reps K F vs ws) (lo hi:Option Int):Reps K F (cutV vs lo hi) (cutW ws lo hi):=by
 unfold cutV cutW
 rw [r.length]
 exact (r.drop _).take _
def lstOf:W->Option (List W)
 | .lst ws=>some ws
 | .scr ws=>some ws
 | _=>none
def chks (c:Bool) (ws:List W):R W:=if c||noLs ws then .ok (.lst ws) else .stuck
def cb (c:Bool):Mode:=if c then .C else .B
theorem Md.lstOf {c:Bool} {Ha:Hp} {x:V} {w:W} {ws:List W} (I:PIv K H0 G ρ σ H) (m:Md K H0 Ha G H x w (cb c)) (h:lstOf w=some ws):∃ a vs,x=.ref a/\SqL K H a vs/\Reps K (if c then G else join H0 G) vs ws:=by
 cases c with
 | true=>
  rw [if_pos rfl]
  cases w <;> first | cases h | skip
  ·obtain ⟨a,vs,e,hs,r⟩:=Md.lstC (H:=Ha) I m
   exact ⟨a,vs,e,SqL.of hs,r⟩
  ·obtain ⟨a,vs,e,hs,r⟩:=(Md.repC m fun _=>W.noConfusion).inv
   exact ⟨a,vs,e,Same.seq I.gh hs,r⟩
 | false=>
  rw [if_neg Bool.false_ne_true]
  cases w <;> first | cases h | skip
  ·obtain ⟨a,vs,e,hs,r⟩:=Md.lstB (H:=Ha) I m
   exact ⟨a,vs,e,SqL.of hs,r⟩
  ·exact Md.scrB (H:=Ha) I m
theorem Out.chks {c:Bool} {Hs:Hp} {vs:List V} {ws:List W} (I:PIv K H0 G ρ σ H) (s:Same Hs H) (r:Reps K (if c then G else join H0 G) vs ws) (o:Out EX G H (mdW K .F H0 Hs) (chks c ws) Q):∀ p,H p=none->Q (.ref p) (upd H p (.lst vs)):=by
 unfold TP.chks at o
 by_cases n:(c||noLs ws)=true
 ·rw [if_pos n] at o
  have r':Reps K G vs ws:=by
   cases c with
   | true=>rw [if_pos rfl] at r; exact r
   | false=>rw [if_neg Bool.false_ne_true] at r; exact Reps.clean I r (by simpa using n)
  exact fun p hp=>Out.newL I s r' hp o
 ·rw [if_neg n] at o; exact o.elim
theorem c_sl {c:Bool} {m:Rho->R W} {ml mh:Rho->R (Option Int)} (h:tM K EX .F (fun ρ=>m ρ>>=fun x=>ml ρ>>=fun l=>mh ρ>>=fun u=>toR (lstOf x)>>=fun ws=>chks c (cutW ws l u)) σ H Q) :
  tSl (rSlL K) (tM K EX (cb c) m) (tOp_ K EX ml) (tOp_ K EX mh) σ H Q:=by
 obtain ⟨H0,G,ρ,I,o⟩:=h
 refine ⟨H0,G,ρ,I,Out.bind o fun x G1 H1 w e1 m1 o1=>⟨H0,G1,ρ,I.ext e1,Out.bind o1 fun l' G2 H2 l e2 m2 o2=>⟨H0,G2,ρ,(I.ext e1).ext e2,Out.bind o2 fun u' G3 H3 u e3 m3 o3=>?_⟩⟩⟩
 subst m2; subst m3
 have I3:=((I.ext e1).ext e2).ext e3
 cases q:lstOf w with
 | none=>rw [q] at o3; exact o3.elim
 | some ws=>
  rw [q] at o3
  obtain ⟨a,vs,ex,hs,r⟩:=Md.lstOf I3 ((m1.move e2).move e3) q
  refine ⟨a,vs,ex,hs,Out.chks I3 ((e1.hh.trans e2.hh).trans e3.hh) (c:=c) ?_ o3⟩
  cases c with
  | true=>rw [if_pos rfl] at r ⊢; exact r.cut _ _
  | false=>rw [if_neg Bool.false_ne_true] at r ⊢; exact r.cut _ _
def Cal (K:Frag) (b d:Mode) (r:List V->Hp->VK->Prop) (f:List W->R W):Prop:=∀ (EX:EXT) (H0 Hs G H:Hp) (ρ:Rho) (σ:St) (Ha:Hp) (vs:List V) (ws:List W) (Q:VK),PIv K H0 G ρ σ H->Same Hs H->MdA K b H0 Ha G H ws vs ->
 Out EX G H (mdW K d H0 Hs) (f ws) Q->r vs H Q
theorem c_cb {b:Mode} {r:List V->Hp->VK->Prop} {f:List W->R W} {ma:Rho->R (List W)} (hr:Cal K b d r f) (h:tM K EX d (fun ρ=>ma ρ>>=fun ws=>f ws) σ H Q):tCB r (tA K EX b ma) σ H Q:=by
 obtain ⟨H0,G,ρ,I,o⟩:=h
 exact ⟨H0,G,ρ,I,Out.bind o fun xs G1 H1 ws e1 m1 o1=>hr EX H0 H G1 H1 ρ σ H xs ws Q (I.ext e1) e1.hh m1 o1⟩
def fLen:List W->R W
 | [w]=>seqW w>>=fun ws=>.ok (.int ws.length)
 | _=>.stuck
theorem b_len:Cal K .B d (fun xs H Q=>∃ p ys,xs = [.ref p]/\(SqL K H p ys\/SqT K H p ys)/\Q (.int ys.length) H) fLen:=by
 intro EX H0 Hs G H ρ σ Ha vs ws Q I s m o
 cases m with
 | nil=>exact o.elim
 | cons a t=>
  cases t with
  | cons _ _=>exact o.elim
  | nil=>
   rename_i w v
   cases w <;> first | exact o.elim | skip
   ·obtain ⟨p,ys,rfl,hs,r⟩:=a.tupB I
    exact ⟨p,ys,rfl,.inr (SqT.of hs),by rw [r.length]; exact o _ G H (Ext.refl I.gh) (Md.sca rfl (fun _=>.int) d)⟩
   ·obtain ⟨p,ys,rfl,hs,r⟩:=a.lstB I
    exact ⟨p,ys,rfl,.inl (SqL.of hs),by rw [r.length]; exact o _ G H (Ext.refl I.gh) (Md.sca rfl (fun _=>.int) d)⟩
   ·obtain ⟨p,ys,rfl,hs,r⟩:=a.scrB I
    exact ⟨p,ys,rfl,.inl hs,by rw [r.length]; exact o _ G H (Ext.refl I.gh) (Md.sca rfl (fun _=>.int) d)⟩
def fList (c:Bool):List W->R W
 | [w]=>seqW w>>=chks c
 | _=>.stuck
theorem b_list {c:Bool}:Cal K (cb c) .F (fun xs H Q=>∃ p ys,xs = [.ref p]/\(SqL K H p ys\/SqT K H p ys)/\∀ l,H l=none->Q (.ref l) (upd H l (.lst ys))) (fList c):=by
 intro EX H0 Hs G H ρ σ Ha vs ws Q I s m o
 cases m with
 | nil=>exact o.elim
 | cons a t=>
  cases t with
  | cons _ _=>exact o.elim
  | nil=>
   rename_i w v
   cases w <;> first | exact o.elim | skip
   ·rename_i us
    cases c with
    | true=>
     obtain ⟨p,ys,rfl,hs,r⟩:=Md.tupC (H:=Ha) I a
     exact ⟨p,ys,rfl,.inr (SqT.of hs),Out.chks (c:=true) I s r o⟩
    | false=>
     obtain ⟨p,ys,rfl,hs,r⟩:=Md.tupB (H:=Ha) I a
     exact ⟨p,ys,rfl,.inr (SqT.of hs),Out.chks (c:=false) I s r o⟩
   ·obtain ⟨p,ys,rfl,hs,r⟩:=Md.lstOf I a rfl
    exact ⟨p,ys,rfl,.inl hs,Out.chks I s r o⟩
   ·obtain ⟨p,ys,rfl,hs,r⟩:=Md.lstOf I a rfl
    exact ⟨p,ys,rfl,.inl hs,Out.chks I s r o⟩
def chkT (c:Bool) (ws:List W):R W:=if c||noLs ws then .ok (.tup ws) else .stuck
def fTup (c:Bool):List W->R W
 | [w]=>seqW w>>=chkT c
 | _=>.stuck
theorem b_tup {c:Bool}:Cal K (cb c) .F (fun xs H Q=>∃ p ys,xs = [.ref p]/\((SqL K H p ys/\∀ l,H l=none->Q (.ref l) (upd H l (.tup ys)))\/(SqT K H p ys/\Q (.ref p) H))) (fTup c):=by
 intro EX H0 Hs G H ρ σ Ha vs ws Q I s m o
 have key:∀ {vs:List V} {us:List W},Reps K (if c then G else join H0 G) vs us->Out EX G H (mdW K .F H0 Hs) (chkT c us) Q->Reps K G vs us/\Out EX G H (mdW K .F H0 Hs) (.ok (.tup us)) Q:=fun {vs us} r o=>by
  unfold chkT at o
  by_cases n:(c||noLs us)=true
  ·rw [if_pos n] at o
   refine ⟨?_,o⟩
   cases c with
   | true=>rw [if_pos rfl] at r; exact r
   | false=>rw [if_neg Bool.false_ne_true] at r; exact Reps.clean I r (by simpa using n)
  ·rw [if_neg n] at o; exact o.elim
 cases m with
 | nil=>exact o.elim
 | cons a t=>
  cases t with
  | cons _ _=>exact o.elim
  | nil=>
   rename_i w v
   cases w <;> first | exact o.elim | skip
   ·rename_i us
    have hx:∃ p ys,v=.ref p/\(if c then G else join H0 G) p=some (.tup ys)/\Reps K (if c then G else join H0 G) ys us:=by
     cases c with
     | true=>rw [if_pos rfl]; exact (Md.repC a fun _=>W.noConfusion).inv
     | false=>rw [if_neg Bool.false_ne_true]; exact (Md.repB a fun _=>W.noConfusion).inv
    obtain ⟨p,ys,rfl,hp,r⟩:=hx
    obtain ⟨r',o'⟩:=key r o
    have hH:H p=some (.tup ys):=by
     cases c with
     | true=>rw [if_pos rfl] at hp; exact I.gh _ _ hp
     | false=>rw [if_neg Bool.false_ne_true] at hp; exact I.join_H _ _ hp
    have hG:G p=some (.tup ys):=by
     cases c with
     | true=>rw [if_pos rfl] at hp; exact hp
     | false=>
      rw [if_neg Bool.false_ne_true] at hp
      unfold join at hp
      cases q:H0 p with
      | none=>rw [q] at hp; exact hp
      | some u=>
       rw [q] at hp
       dsimp only at hp
       by_cases hl:isL u=true
       ·rw [if_pos hl] at hp; cases hp; cases hl
       ·rw [if_neg hl] at hp; exact hp
    exact ⟨p,ys,rfl,.inr ⟨SqT.of hH,o' _ G H (Ext.refl I.gh) (.tup hG r')⟩⟩
   ·obtain ⟨p,ys,rfl,hs,r⟩:=Md.lstOf I a rfl
    obtain ⟨r',o'⟩:=key r o
    exact ⟨p,ys,rfl,.inl ⟨hs,fun l hl=>Out.newTF I r' hl o'⟩⟩
   ·obtain ⟨p,ys,rfl,hs,r⟩:=Md.lstOf I a rfl
    obtain ⟨r',o'⟩:=key r o
    exact ⟨p,ys,rfl,.inl ⟨hs,fun l hl=>Out.newTF I r' hl o'⟩⟩
def f2 (g:Int->Int->Int):List W->R W
 | [.int i,.int j]=>.ok (.int (g i j))
 | _=>.stuck
def tyW:W->Option String
 | .non=>some "NoneType"
 | .bl _=>some "bool"
 | .int _=>some "int"
 | .str _=>some "str"
 | .tup _=>some "tuple"
 | .lst _=>some "list"
 | _=>none
def fIsi:List W->R W
 | [x,.ty T]=>toR ((tyW x).bind fun A=>isiB A T)>>=fun b=>.ok (.bl b)
 | _=>.stuck
theorem tyW_of {Ha:Hp} {v:V} {w:W} {A:String} (I:PIv K H0 G ρ σ H) (m:Md K H0 Ha G H v w .B) (h:tyW w=some A):L2.tyB H v=some A:=by
 cases w <;> first | cases h | skip
 ·rw [m.nonB]; rfl
 ·rw [m.blB]; rfl
 ·rw [m.intB]; rfl
 ·rw [m.strB]; rfl
 ·obtain ⟨a,vs,rfl,hs,r⟩:=m.tupB I
  show L2.tyO (H a)=_
  rw [hs]; rfl
 ·obtain ⟨a,vs,rfl,hs,r⟩:=m.lstB I
  show L2.tyO (H a)=_
  rw [hs]; rfl
theorem b_isi:Cal K .B d rIsi fIsi:=by
 intro EX H0 Hs G H ρ σ Ha vs ws Q I s m o
 cases m with
 | nil=>exact o.elim
 | @cons x _ _ _ a t=>
  cases t with
  | nil=>exact o.elim
  | @cons y _ _ _ b t=>
   cases t with
   | cons _ _=>first | exact o.elim | (cases y <;> exact o.elim)
   | nil=>
    cases y <;> first | exact o.elim | skip
    rename_i T
    replace o:Out EX G H (mdW K d H0 Hs) (toR ((tyW x).bind fun A=>isiB A T)>>=fun b=>.ok (.bl b)) Q:=o
    cases q:tyW x with
    | none=>rw [q] at o; exact o.elim
    | some A=>
     rw [q] at o
     replace o:Out EX G H (mdW K d H0 Hs) (toR (isiB A T)>>=fun b=>.ok (.bl b)) Q:=o
     cases q2:isiB A T with
     | none=>rw [q2] at o; exact o.elim
     | some c=>
      rw [q2] at o
      exact ⟨_,T,by rw [b.tyB],A,tyW_of I a q,c,q2,o _ G H (Ext.refl I.gh) (Md.sca rfl (fun _=>.bl) d)⟩
def fCat (c:Bool):W->W->R W
 | .lst us,.lst vs=>if us.length+vs.length<=1000 then chks c (us++vs) else .stuck
 | _,_=>.stuck
def fRep (c:Bool):W->W->R W
 | .lst us,.int k=>if us.length*k.toNat<=1000 /\ -1000<=k/\k<=1000 then chks c (List.replicate k.toNat us).flatten else .stuck
 | _,_=>.stuck
end
end TP
namespace TP
open PySem L2
def mC (w:W):Rho->R W:=fun _=>.ok w
def b1 (f:W->R W) (ma:Rho->R W):Rho->R W:=fun ρ=>ma ρ>>=fun x=>f x
def b2 (f:W->W->R W) (ma mb:Rho->R W):Rho->R W:=fun ρ=>ma ρ>>=fun x=>mb ρ>>=fun y=>f x y
def bA (f:List W->R W) (ma:Rho->R (List W)):Rho->R W:=fun ρ=>ma ρ>>=fun ws=>f ws
def bI (f:List W->R (List W)) (ma:Rho->R (List W)):Rho->R (List W):=fun ρ=>ma ρ>>=f
def bS (ma:Rho->R W):Rho->R (List W):=fun ρ=>ma ρ>>=seqW
def aN:Rho->R (List W):=fun _=>.ok []
def aC (ma:Rho->R W) (mr:Rho->R (List W)):Rho->R (List W):=fun ρ=>ma ρ>>=fun x=>mr ρ>>=fun xs=>.ok (x::xs)
def bChk (ma:Rho->R W):Rho->R W:=fun ρ=>ma ρ>>=chk
def bTest (ma:Rho->R W):Rho->R Bool:=fun ρ=>ma ρ>>=toB
def tAnd' (a b:Rho->R Bool):Rho->R Bool:=fun ρ=>rAnd (a ρ) (b ρ)
def tOr' (a b:Rho->R Bool):Rho->R Bool:=fun ρ=>rOr (a ρ) (b ρ)
def tNot' (a:Rho->R Bool):Rho->R Bool:=fun ρ=>rNot (a ρ)
def vAnd (a b:Rho->R W):Rho->R W:=fun ρ=>rAndV (a ρ) (b ρ)
def vOr (a b:Rho->R W):Rho->R W:=fun ρ=>rOrV (a ρ) (b ρ)
def vNot (a:Rho->R W):Rho->R W:=fun ρ=>rNotV (a ρ)
def vIf (c:Rho->R Bool) (a b:Rho->R W):Rho->R W:=fun ρ=>c ρ>>=fun t=>if t then a ρ else b ρ
def vChain (f f':W->W->R W) (ma mb mc:Rho->R W):Rho->R W:=fun ρ=>ma ρ>>=fun x=>mb ρ>>=fun y=>f x y>>=fun z=>toB z>>=fun c=>if c then mc ρ>>=fun u=>f' y u else .ok (.bl false)
def vTup (ma:Rho->R (List W)):Rho->R W:=fun ρ=>ma ρ>>=fun ws=>lim ws.length (.tup ws)
def vLst (ma:Rho->R (List W)):Rho->R W:=fun ρ=>ma ρ>>=fun ws=>lim ws.length (.lst ws)
def pN:Rho->R (Option Int):=fun _=>.ok none
def pS (m:Rho->R W):Rho->R (Option Int):=fun ρ=>m ρ>>=partW
def vSl (c:Bool) (m:Rho->R W) (ml mh:Rho->R (Option Int)):Rho->R W:=fun ρ=>m ρ>>=fun x=>ml ρ>>=fun l=>mh ρ>>=fun u=>toR (lstOf x)>>=fun ws=>chks c (cutW ws l u)
def vComp (n:Nat) (mi:Rho->R (List W)) (mg:W->Rho->Option Rho) (mc:Rho->R Bool) (me:Rho->R W):Rho->R W:=fun ρ=>mi ρ>>=fun ws=>mComp n mg mc me ws ρ
def yes:Rho->R Bool:=fun _=>.ok true
def sNx:Rho->R Fl:=fun ρ=>.ok (.nx ρ)
def sDrop (m:Rho->R W):Rho->R Fl:=fun ρ=>m ρ>>=fun _=>.ok (.nx ρ)
def sRet (m:Rho->R W):Rho->R Fl:=fun ρ=>m ρ>>=fun w=>.ok (.rt w)
def sRetN:Rho->R Fl:=fun _=>.ok (.rt .non)
def sV (i:Nat) (m:Rho->R W):Rho->R Fl:=fun ρ=>m ρ>>=fun w=>.ok (.nx (ρ.set i (.val w)))
def sU (i:Nat) (m:Rho->R W):Rho->R Fl:=fun ρ=>m ρ>>=fun w=>.ok (.nx (ρ.set i (.par w)))
def sF (i:Nat) (m:Rho->R W):Rho->R Fl:=fun ρ=>m ρ>>=fun w=>.ok (.nx (ρ.set i (slotF w)))
def sG (mg:W->Rho->Option Rho) (m:Rho->R W):Rho->R Fl:=fun ρ=>m ρ>>=fun w=>toR (mg w ρ)>>=fun ρ'=>.ok (.nx ρ')
def sFor (mi:Rho->R (List W)) (mg:W->Rho->Option Rho) (mb:Rho->R Fl):Rho->R Fl:=fun ρ=>mi ρ>>=fun ws=>mFor mg mb ws ρ
def sFrz (i:Nat) (m:Rho->R Fl):Rho->R Fl:=fun ρ=>m (frz i ρ)
def sNever:Rho->R Fl:=fun _=>.stuck
def sBk:Rho->R Fl:=fun ρ=>.ok (.bk ρ)
def sCt:Rho->R Fl:=fun ρ=>.ok (.ct ρ)
section
variable {X:Cx} {e:Expr} {es:List Expr} {st:Stmt} {sts:List Stmt}
theorem _root_.L2.PE.mono {t t':TE} (h:PE X e t) (hm:∀ σ H Q,t' σ H Q->t σ H Q):PE X e t':=fun pins s σ H Q I q=>h pins s σ H Q I (hm σ H Q q)
theorem _root_.L2.PT.mono {t t':TT} (h:PT X e t) (hm:∀ σ H Q,t' σ H Q->t σ H Q):PT X e t':=fun pins s σ H Q I q=>h pins s σ H Q I (hm σ H Q q)
theorem _root_.L2.PW.mono {t t':TT} (h:PW X e t) (hm:∀ σ H Q,t' σ H Q->t σ H Q):PW X e t':=fun wh pins s σ H Q I q=>h wh pins s σ H Q I (hm σ H Q q)
theorem _root_.L2.PA.mono {t t':TA} (h:PA X es t) (hm:∀ σ H Q,t' σ H Q->t σ H Q):PA X es t':=fun pos pins s σ H Q I q=>h pos pins s σ H Q I (hm σ H Q q)
theorem _root_.L2.PS.mono {t t':TS} (h:PS X st t) (hm:∀ D σ H,t' D σ H->t D σ H):PS X st t':=fun pins s σ H D I q=>h pins s σ H D I (hm D σ H q)
theorem _root_.L2.PSs.mono {t t':TS} (h:PSs X sts t) (hm:∀ D σ H,t' D σ H->t D σ H):PSs X sts t':=fun pins s σ H D I q=>h pins s σ H D I (hm D σ H q)
theorem _root_.L2.PI.mono {tg:Expr} {t t':TI} (h:PI X tg e t) (hm:∀ σ H Q,t' σ H Q->t σ H Q):PI X tg e t':=fun pins s σ H Q I q=>h pins s σ H Q I (hm σ H Q q)
theorem _root_.L2.PO.mono {oe:Option Expr} {t t':TO} (h:PO X oe t) (hm:∀ σ H Q,t' σ H Q->t σ H Q):PO X oe t':=by
 intro pins s σ H Q I q
 exact h pins s σ H Q I (hm σ H Q q)
end
section
variable {X:Cx} {K:Frag} {EX:EXT} {d b:Mode} {a c e:Expr} {es rest:List Expr} {pos:Pos} {ma mb mc:Rho->R W} {ta tb:Rho->R Bool} {mr:Rho->R (List W)}
theorem q_FV (h:PE X e (tM K EX .F ma)):PE X e (tM K EX .V ma):=h.mono fun _ _ _ q=>mode_FV q
theorem q_VU (h:PE X e (tM K EX .V ma)):PE X e (tM K EX .U ma):=h.mono fun _ _ _ q=>mode_VU q
theorem q_VC (h:PE X e (tM K EX .V ma)):PE X e (tM K EX .C ma):=h.mono fun _ _ _ q=>mode_VC q
theorem q_FC (h:PE X e (tM K EX .F ma)):PE X e (tM K EX .C ma):=h.mono fun _ _ _ q=>mode_FC q
theorem q_UB (h:PE X e (tM K EX .U ma)):PE X e (tM K EX .B ma):=h.mono fun _ _ _ q=>mode_UB q
theorem q_CB (h:PE X e (tM K EX .C ma)):PE X e (tM K EX .B ma):=h.mono fun _ _ _ q=>mode_CB q
theorem q_chkF (h:PE X e (tM K EX .U ma)):PE X e (tM K EX .F (bChk ma)):=h.mono fun _ _ _ q=>mode_chk (.inl rfl) q
theorem qv (d:Mode) (i:Nat) {x:Str} (hN:X.N[i]?=some x:=by rfl) (hv:Vis X.env.scope x:=by first | exact Or.inl rfl | exact Or.inr (Or.inl rfl) | exact Or.inr (Or.inr rfl)) (hd:(x == ("__debug__" : Str))=false:=by decide)
  (hcd:(x == ("__classdict__" : Str))=false:=by decide):PE X (.Name x pos) (tM K EX d (mVar d i)):=(pe_var hN hv hd hcd).mono fun _ _ _ q=>c_var q
theorem q_int {i j}:PE X (.Constant (.int i) j pos) (tM K EX d (mC (.int i))):=pe_int.mono fun _ _ _ q=>c_const rfl (fun _=>.int) q
theorem q_bl {t j}:PE X (.Constant (.bool t) j pos) (tM K EX d (mC (.bl t))):=pe_bl.mono fun _ _ _ q=>c_const rfl (fun _=>.bl) q
theorem q_str {x j}:PE X (.Constant (.str x) j pos) (tM K EX d (mC (.str x))):=pe_str.mono fun _ _ _ q=>c_const rfl (fun _=>.str) q
theorem q_globI {x:Str} {i:Int} {t:Tok} (hg:Gl X x) (hm:X.mg x=some (.int i t)) (hd:(x == ("__debug__" : Str))=false:=by decide):PE X (.Name x pos) (tM K EX d (mC (.int i))):=
 (pe_glob (v:=.int i) hg hm ⟨t,rfl⟩ hd).mono fun _ _ _ q=>c_const rfl (fun _=>.int) q
theorem q_ty {x:Str} {n:String} (hg:Gl X x) (hm:X.mg x=none) (hv:bootBuiltins x=some (.type n)) (hn:x ≠ "__name__" := by decide) (hd:(x == ("__debug__" : Str))=false:=by decide):PE X (.Name x pos) (tM K EX d (mC (.ty n))):=
 (pe_bltn (v:=.ty n) hg hm hv rfl hn hd).mono fun _ _ _ q=>c_const rfl (fun _=>.ty) q
theorem q_op {op:Operator} {r:R2} {f:W->W->R W} (ho:OpR X (binaryOp op) r) (hr:Op2 K b d r f) (ha:PE X a (tM K EX b ma)) (hb:PE X c (tM K EX b mb)):PE X (.BinOp a op c pos) (tM K EX d (b2 f ma mb)):=
 (pe_op ho ha hb).mono fun _ _ _ q=>c_op hr q
theorem q_tcmp {op:CmpOp} {r:R2} {f:W->W->R W} (ho:OpR X (compareOp op) r) (hr:Op2 K b .B r f) (ha:PE X a (tM K EX b ma)) (hb:PE X c (tM K EX b mb)) (hm:behindInMarks op c=false:=by first | exact nomark _ | rfl):PT X (.Compare a [op] [c] pos) (tT K EX (bTest (b2 f ma mb))):=
 (pt_cmpR ho ha hb hm).mono fun σ H Q q=>by
  obtain ⟨H0,G,ρ,I,o⟩:=q
  have:=c_test (ma:=b2 f ma mb) ⟨H0,G,ρ,I,o⟩
  exact c_op hr this
theorem q_un {op:UnaryOp} {r:V->Hp->VK->Prop} {f:W->R W} (ho:UnR X (unaryOp op) r) (hr:Op1 K b d r f) (ha:PE X a (tM K EX b ma)):PE X (.UnaryOp op a pos) (tM K EX d (b1 f ma)):=
 (pe_un ho ha).mono fun _ _ _ q=>c_un hr q
theorem q_val (ha:PE X a (tM K EX .B ma)) (he:∀ whole,isTrue a X.env whole=(do let v <- whole; standAt a.pos; holding [v] (truthy v)):=by intro _; rfl):PT X a (tT K EX (bTest ma)):=
 (pt_val ha he).mono fun _ _ _ q=>c_tB q
theorem q_tor1 (ha:PT X a (tT K EX ta)):PW X (.BoolOp .Or [a] pos) (tT K EX ta):=pw_or1 ha
theorem q_tor {b:Expr} (ha:PT X a (tT K EX ta)) (hb:PW X (.BoolOp .Or (b::rest) pos) (tT K EX tb)):PW X (.BoolOp .Or (a::b::rest) pos) (tT K EX (tOr' ta tb)):=(pw_or ha hb).mono fun _ _ _ q=>c_or q
theorem q_tnot (ha:PT X a (tT K EX ta)):PT X (.UnaryOp .Not a pos) (tT K EX (tNot' ta)):=(pt_not ha).mono fun _ _ _ q=>c_not q
theorem q_one {op} (h:PE X a (tM K EX d ma)):PE X (.BoolOp op [a] pos) (tM K EX d ma):=pe_one h
theorem q_and {b:Expr} (ha:PE X a (tM K EX .B ma)) (hb:PE X (.BoolOp .And (b::rest) pos) (tM K EX d mb)):PE X (.BoolOp .And (a::b::rest) pos) (tM K EX d (vAnd ma mb)):=(pe_and ha hb).mono fun _ _ _ q=>c_andV q
theorem q_chain {op op':CmpOp} {r r':R2} {f f':W->W->R W} {x y z:Expr} (ho:OpR X (compareOp op) r) (hr:Op2 K b .B r f) (ho':OpR X (compareOp op') r') (hr':Op2 K b d r' f') (ha:PE X x (tM K EX b ma)) (hb:PE X y (tM K EX b mb)) (hc:PE X z (tM K EX b mc))
  (hm:lastMarks [op,op'] [y,z]=false:=by with_unfolding_all rfl):PE X (.Compare x [op,op'] [y,z] pos) (tM K EX d (vChain f f' ma mb mc)):=
 (pe_chain ho ho' ha hb hc hm).mono fun _ _ _ q=>c_chain hr hr' q
theorem q_tchain {op op':CmpOp} {r r':R2} {f f':W->W->R W} {x y z:Expr} (ho:OpR X (compareOp op) r) (hr:Op2 K b .B r f) (ho':OpR X (compareOp op') r') (hr':Op2 K b .B r' f') (ha:PE X x (tM K EX b ma)) (hb:PE X y (tM K EX b mb)) (hc:PE X z (tM K EX b mc))
  (hm:lastMarks [op,op'] [y,z]=false:=by with_unfolding_all rfl):PT X (.Compare x [op,op'] [y,z] pos) (tT K EX (bTest (vChain f f' ma mb mc))):=
 (pt_chain ho ho' ha hb hc hm).mono fun σ H Q q=>by
  obtain ⟨H0,G,ρ,I,o⟩:=q
  have:=c_test (ma:=vChain f f' ma mb mc) ⟨H0,G,ρ,I,o⟩
  exact c_chain hr hr' this
theorem q_anil:PA X [] (tA K EX d aN):=pa_nil.mono fun _ _ _ q=>c_nil q
theorem q_acons (ha:PE X e (tM K EX d ma)) (hr:PA X es (tA K EX d mr)) (hs:starEach (e::es) X.env=(false,eval e X.env)::starEach es X.env:=by rfl):PA X (e::es) (tA K EX d (aC ma mr)):=(pa_cons ha hr hs).mono fun _ _ _ q=>c_cons q
theorem q_tup {x1} (h:PA X es (tA K EX .V mr)):PE X (.Tuple es x1 pos) (tM K EX .F (vTup mr)):=(pe_tup h).mono fun _ _ _ q=>c_tup q
theorem q_tupU {x1} (h:PA X es (tA K EX .U mr)):PE X (.Tuple es x1 pos) (tM K EX .U (vTup mr)):=(pe_tup h).mono fun _ _ _ q=>c_tupU q
theorem q_lst (h:PA X es (tA K EX .V mr)):PE X (.List es pos) (tM K EX .F (vLst mr)):=(pe_lst h).mono fun _ _ _ q=>c_lst q
theorem q_ixU (ha:PE X a (tM K EX .B ma)) (hb:PE X c (tM K EX .B mb)) (hs:PlainIx c:=by exact fun _ _=>rfl) (hK:X.K=K:=by rfl):PE X (.Subscript a c pos) (tM K EX .U (b2 fIx ma mb)):=by
 subst hK; exact (pe_ix ix_seq ha hb hs).mono fun _ _ _ q=>c_op o2_ixU q
theorem q_ixV (ha:PE X a (tM K EX .C ma)) (hb:PE X c (tM K EX .C mb)) (hs:PlainIx c:=by exact fun _ _=>rfl) (hK:X.K=K:=by rfl):PE X (.Subscript a c pos) (tM K EX .V (b2 fIx ma mb)):=by
 subst hK; exact (pe_ix ix_seq ha hb hs).mono fun _ _ _ q=>c_op o2_ixV q
theorem q_pS (h:PE X e (tM K EX .B ma)):PO X (some e) (tOp_ K EX (pS ma)):=(po_some h).mono fun _ _ _ q=>c_part q
theorem q_sl (k:Bool) {lo hi:Option Expr} {p2:Pos} {ml mh:Rho->R (Option Int)} (he:PE X e (tM K EX (cb k) ma)) (hl:PO X lo (tOp_ K EX ml)) (hu:PO X hi (tOp_ K EX mh)) (hK:X.K=K:=by rfl):PE X (.Subscript e (.Slice lo hi none p2) pos) (tM K EX .F (vSl k ma ml mh)):=by
 subst hK; exact (pe_slice sl_list he hl hu).mono fun _ _ _ q=>c_sl q
theorem q_cb {x:Str} {id:String} {r:List V->Hp->VK->Prop} {f:List W->R W} {p:Pos} (hc:CallR X (.builtin id) r) (hr:Cal K b d r f) (hg:Gl X x) (hm:X.mg x=none) (hv:bootBuiltins x=some (.builtin id)) (ha:PA X (e::es) (tA K EX b mr))
  (hn:x ≠ "__name__" := by decide) (hdb:(x == ("__debug__" : Str))=false:=by decide) (he:starEach (e::es) X.env=(false,eval e X.env)::starEach es X.env:=by rfl) (hpl:(backTo pos (starEach es X.env)).any (·.1)=false:=by rfl) :
  PE X (.Call (.Name x p) (e::es) [] pos) (tM K EX d (bA f mr)):=(pe_callB hc hg hm hv ha hn hdb he hpl).mono fun _ _ _ q=>c_cb hr q
theorem q_ct {x:Str} {T:String} {r:List V->Hp->VK->Prop} {f:List W->R W} {p:Pos} (hc:CallR X (.type T) r) (hr:Cal K b d r f) (hg:Gl X x) (hm:X.mg x=none) (hv:bootBuiltins x=some (.type T)) (ha:PA X (e::es) (tA K EX b mr))
  (hn:x ≠ "__name__" := by decide) (hdb:(x == ("__debug__" : Str))=false:=by decide) (he:starEach (e::es) X.env=(false,eval e X.env)::starEach es X.env:=by rfl) (hpl:(backTo pos (starEach es X.env)).any (·.1)=false:=by rfl) :
  PE X (.Call (.Name x p) (e::es) [] pos) (tM K EX d (bA f mr)):=(pe_callTy hc hg hm hv ha hn hdb he hpl).mono fun _ _ _ q=>c_cb hr q
theorem K_len (hK:X.K=K:=by rfl):CallR X (.builtin "len") (fun xs H Q=>∃ p ys,xs = [.ref p]/\(SqL K H p ys\/SqT K H p ys)/\Q (.int ys.length) H):=by subst hK; exact call_len_seq
theorem K_list (hK:X.K=K:=by rfl):CallR X (.type "list") (fun xs H Q=>∃ p ys,xs = [.ref p]/\(SqL K H p ys\/SqT K H p ys)/\∀ l,H l=none->Q (.ref l) (upd H l (.lst ys))):=by subst hK; exact call_list_of
theorem K_tup (hK:X.K=K:=by rfl):CallR X (.type "tuple") (fun xs H Q=>∃ p ys,xs = [.ref p]/\((SqL K H p ys/\∀ l,H l=none->Q (.ref l) (upd H l (.tup ys)))\/(SqT K H p ys/\Q (.ref p) H))):=by subst hK; exact call_tuple_of
theorem q_call {k:Nat} {f:Addr} {fd:FuncData} {ps:List Str} {x:Str} {p:Pos} {n N:Nat} {m:Rho->R Fl} (F:FnOk X.prog X.w X.K X.mg X.base CX0 k f fd ps (spM K n d (runB n N m))) (hd:d=.F\/d=.V) (hr:Room k X.A) (hg:Gl X x) (hm:X.mg x=some (.ref f)) (hk:PySem.W.keepIn X.K (.ref f)=true) (hb:Binds X.K fd ps [])
  (ha:PA X (e::es) (tA K (fun _ _=>False) .B mr)) (hdb:(x == ("__debug__" : Str))=false:=by decide) (he:starEach (e::es) X.env=(false,eval e X.env)::starEach es X.env:=by rfl) (hpl:(backTo pos (starEach es X.env)).any (·.1)=false:=by rfl) :
  PE X (.Call (.Name x p) (e::es) [] pos) (tM K (fun _ _=>False) d (bA (runB n N m) mr)):=
 (pe_call F hr hg hm hk hb .nil pass0 ha hdb he hpl).mono fun _ _ _ q=>c_call hd (fun ws h=>runB_len ws h) (fun _ _ z=>z) q
variable {tg:Expr} {lp:Bool}
theorem q_iSq (h:PE X e (tM K EX (srcM lp .U) ma)) (hK:X.K=K:=by rfl):PI X tg e (tIt K EX lp .U (bS ma)):=by subst hK; exact (pi_sq h).mono fun _ _ _ q=>c_iSq (.inr rfl) q
theorem q_rng1 {p:Pos} (hg:Gl X "range") (hm:X.mg "range" = none) (ha:PA X [a] (tA K EX .B mr)) (hs:starEach [a] X.env = [(false,eval a X.env)]:=by rfl):PI X tg (.Call (.Name "range" p) [a] [] pos) (tIt K EX lp .U (bI rng1 mr)):=
 (pi_range1 hg hm ha hs).mono fun _ _ _ q=>c_rng1 (.inr rfl) q
theorem q_zip {elts:List Expr} {p tp:Pos} {k:Nat} (hg:Gl X "zip") (hm:X.mg "zip" = none) (ha:PA X (a::es) (tA K EX (srcM lp .U) mr)) (hK:X.K=K:=by rfl) (hs:starEach (a::es) X.env=(false,eval a X.env)::starEach es X.env:=by rfl) (hpl:(backTo pos (starEach es X.env)).any (·.1)=false:=by rfl) :
  PI X (.Tuple elts k tp) (.Call (.Name "zip" p) (a::es) [] pos) (tIt K EX lp .U (bI zipR mr)):=by subst hK; exact (pi_zip hg hm ha hs hpl).mono fun _ _ _ q=>c_zip (.inr rfl) q
end
section
variable {X:Cx} {K:Frag} {EX:EXT} {d b:Mode} {e:Expr} {st:Stmt} {sts:List Stmt} {pos:Pos} {ma mb:Rho->R W} {ta:Rho->R Bool} {m n:Rho->R Fl}
theorem q_comp {cs:Scope} {N':List Str} {tg iter elt:Expr} {ifs:List Expr} {dd:Mode} {g:TG} {mg:W->Rho->Option Rho} {mi:Rho->R (List W)} (S:CompScope X.env.scope cs X.N N') (hc:X.calm=true) (hi:PI X tg iter (tIt K EX false dd mi))
  (hg:∀ cl ex s H,PG (cxComp X cs cl N' ex s H) tg g) (hgt:Gt K dd g mg) (hk:GKeep X.N.length g) (ht:∀ cl ex s H,PIf (cxComp X cs cl N' ex s H) ifs (tT K EX ta)) (he:∀ cl ex s H,PE (cxComp X cs cl N' ex s H) elt (tM K EX .V ma))
  (hs:∀ x,foldedSetIterable iter X.env x=pure x:=by intro _; rfl):PE X (.ListComp elt [⟨tg,iter,ifs,0⟩] cs pos) (tM K EX .F (vComp N'.length mi mg ta ma)):=
 (pe_comp S hc hi hg hk ht he hs).mono fun _ _ _ q=>c_comp hgt q
theorem q_setc {i:Nat} {y:Str} {py:Pos} {cs:Scope} {N':List Str} {tg iter elt:Expr} {ifs:List Expr} {dd:Mode} {g:TG} {mg:W->Rho->Option Rho} {mi:Rho->R (List W)} {cpos:Pos} (S:CompScope X.env.scope cs X.N N') (hc:X.calm=true) (hi:PI X tg iter (tIt K EX false dd mi))
  (hg:∀ cl ex s H,PG (cxComp X cs cl N' ex s H) tg g) (hgt:Gt K dd g mg) (hk:GKeep X.N.length g) (ht:∀ cl ex s H,PIf (cxComp X cs cl N' ex s H) ifs (tT K EX ta)) (he:∀ cl ex s H,PE (cxComp X cs cl N' ex s H) elt (tM K EX .V ma))
  (hN:X.N.Nodup) (hy:X.N[i]?=some y) (hl:Loc X.env.scope y)
  (hsw:swapsWith (.ListComp elt [⟨tg,iter,ifs,0⟩] cs cpos) (some (.Name y py)) pos.line X.env=pure true:=by rfl) (hf:X.fn y=true\/X.env.scope.names.lookup y=some .local:=by first | exact .inl rfl | exact .inr rfl | assumption)
  (hs:∀ x,foldedSetIterable iter X.env x=pure x:=by intro _; rfl):PS X (.Assign [.Name y py] (.ListComp elt [⟨tg,iter,ifs,0⟩] cs cpos) pos) (tSt K EX d (sF i (vComp N'.length mi mg ta ma))):=
 (ps_setc S hc hi hg hk ht he hN hy hl hsw hf hs).mono fun D σ H q=>by
  have:=c_setF (m:=vComp N'.length mi mg ta ma) q
  exact c_comp hgt this
theorem q_pifN:PIf X [] (tT K EX yes):=fun pins s σ H Q I q=>pif_nil pins s σ H Q I (by obtain ⟨H0,G,ρ,I0,o⟩:=q; exact o true G H (Ext.refl I0.gh) rfl)
theorem q_nil:PSs X [] (tSt K EX d sNx):=pss_nil.mono fun _ _ _ q=>c_next q
theorem q_cons (h1:PS X st (tSt K EX d m)) (h2:PSs X sts (tSt K EX d n)):PSs X (st::sts) (tSt K EX d (mSeq m n)):=(pss_cons h1 h2).mono fun _ _ _ q=>c_seq q
theorem q_last (h1:PS X st (tSt K EX d m)):PSs X [st] (tSt K EX d m):=pss_one h1
theorem q_frz {i:Nat} (h:PS X st (tSt K EX d m)):PS X st (tSt K EX d (sFrz i m)):=h.mono fun _ _ _ q=>c_frz q
theorem q_never:PS X st (tSt K EX d sNever):=ps_never.mono fun _ _ _ q=>c_never q
theorem q_expr (he:PE X e (tM K EX b ma)) (hs:swapsWith e none pos.line X.env=pure false:=by rfl):PS X (.Expr e pos) (tSt K EX d (sDrop ma)):=(ps_expr he hs).mono fun _ _ _ q=>c_drop q
theorem q_ret (he:PE X e (tM K EX d ma)):PS X (.Return (some e) pos) (tSt K EX d (sRet ma)):=(ps_ret he).mono fun _ _ _ q=>c_ret q
theorem q_retv (i:Nat) {x:Str} {p:Pos} (hd:d=.F\/d=.V) (hN:X.N[i]?=some x:=by rfl) (hv:Vis X.env.scope x:=by first | exact Or.inl rfl | exact Or.inr (Or.inl rfl) | exact Or.inr (Or.inr rfl)) (hdd:(x == ("__debug__" : Str))=false:=by decide)
  (hcd:(x == ("__classdict__" : Str))=false:=by decide):PS X (.Return (some (.Name x p)) pos) (tSt K EX d (mRetVar d i)):=(ps_ret (pe_var hN hv hdd hcd)).mono fun _ _ _ q=>c_retVar hd q
theorem q_setV {i:Nat} {x:Str} {pos':Pos} (hN:X.N.Nodup) (hi:X.N[i]?=some x) (hx:Loc X.env.scope x) (he:PE X e (tM K EX .V ma)) (hs:swapsWith e (some (.Name x pos')) pos.line X.env=pure false:=by rfl) (hf:X.fn x=true\/X.env.scope.names.lookup x=some .local:=by first | exact .inl rfl | exact .inr rfl | assumption) :
  PS X (.Assign [.Name x pos'] e pos) (tSt K EX d (sV i ma)):=(ps_set hN hi hx he hs hf).mono fun _ _ _ q=>c_setV q
theorem q_setU {i:Nat} {x:Str} {pos':Pos} (hN:X.N.Nodup) (hi:X.N[i]?=some x) (hx:Loc X.env.scope x) (he:PE X e (tM K EX .U ma)) (hs:swapsWith e (some (.Name x pos')) pos.line X.env=pure false:=by rfl) (hf:X.fn x=true\/X.env.scope.names.lookup x=some .local:=by first | exact .inl rfl | exact .inr rfl | assumption) :
  PS X (.Assign [.Name x pos'] e pos) (tSt K EX d (sU i ma)):=(ps_set hN hi hx he hs hf).mono fun _ _ _ q=>c_setU q
theorem q_setF {i:Nat} {x:Str} {pos':Pos} (hN:X.N.Nodup) (hi:X.N[i]?=some x) (hx:Loc X.env.scope x) (he:PE X e (tM K EX .F ma)) (hs:swapsWith e (some (.Name x pos')) pos.line X.env=pure false:=by rfl) (hf:X.fn x=true\/X.env.scope.names.lookup x=some .local:=by first | exact .inl rfl | exact .inr rfl | assumption) :
  PS X (.Assign [.Name x pos'] e pos) (tSt K EX d (sF i ma)):=(ps_set hN hi hx he hs hf).mono fun _ _ _ q=>c_setF q
theorem q_app {i:Nat} {x:Str} {p apos cpos:Pos} (hN:X.N[i]?=some x) (hv:Vis X.env.scope x) (ha:PE X e (tM K EX .V ma)) (hd:(x == ("__debug__" : Str))=false:=by decide) (hcd:(x == ("__classdict__" : Str))=false:=by decide)
  (hbase:attributeBase (.Name x p) "append" X.env (eval (.Name x p) X.env)=eval (.Name x p) X.env:=by rfl)
  (hfew:((backTo cpos (starEach [e] X.env)).all (fun x=>!x.1)&&(backToKw cpos (keywordEach [] X.env)).all (fun x=>x.1.isSome)
   && decide (([e]:List Expr).length+([]:List Keyword).length+(if ([]:List Keyword).isEmpty then 0 else 1)<30))=true:=by rfl)
  (hline:(apos.endLine == cpos.line)=true:=by rfl) (hs:starEach [e] X.env=(false,eval e X.env)::starEach [] X.env:=by rfl) (hsw:swapsWith (.Call (.Attribute (.Name x p) "append" apos) [e] [] cpos) none pos.line X.env=pure false:=by rfl) :
  PS X (.Expr (.Call (.Attribute (.Name x p) "append" apos) [e] [] cpos) pos) (tSt K EX d (mApp i ma)):=(ps_expr (pe_append (pe_var hN hv hd hcd) ha hbase hfew hline hs) hsw).mono fun _ _ _ q=>c_app q
theorem q_if_ {c:Expr} {x y:List Stmt} (hc:PT X c (tT K EX ta)) (ha:PSs X x (tSt K EX d m)) (hb:PSs X y (tSt K EX d n)):PS X (.If c x y pos) (tSt K EX d (mIf ta m n)):=(ps_if hc ha hb).mono fun _ _ _ q=>c_ifS q
theorem q_for {tg iter:Expr} {body:List Stmt} {dd:Mode} {g:TG} {mg:W->Rho->Option Rho} {mi:Rho->R (List W)} (hp:PassesOwn (model X.prog X.w) X.A X.env X.xe) (hc:X.calm=true) (hi:PI X tg iter (tIt K EX true dd mi)) (hg:PG X tg g) (hgt:Gt K dd g mg) (hb:PSs X body (tSt K EX d m))
  (hs:∀ x,foldedSetIterable iter X.env x=pure x:=by intro _; rfl):PS X (.For tg iter body [] pos) (tSt K EX d (sFor mi mg m)):=(ps_for hp hc hi hg hb hs).mono fun _ _ _ q=>c_for hgt q
end
end TP
namespace TP
open PySem L2
abbrev gLt (i j:Int):W:=.bl (decide (i<j))
abbrev gLe (i j:Int):W:=.bl (decide (i<=j))
abbrev gGt (i j:Int):W:=.bl (decide (j<i))
abbrev gGe (i j:Int):W:=.bl (decide (j<=i))
abbrev gAdd (i j:Int):W:=.int (i+j)
abbrev gSub (i j:Int):W:=.int (i-j)
abbrev gMul (i j:Int):W:=.int (i*j)
abbrev gMod (i j:Int):W:=.int (i%j)
abbrev gDiv (i j:Int):W:=.int (i/j)
abbrev gPow (i j:Int):W:=.int (i^j.toNat)
abbrev gNeg (i:Int):W:=.int (-i)
abbrev gMax (i j:Int):Int:=if j>i then j else i
abbrev gMin (i j:Int):Int:=if j<i then j else i
abbrev gAdd_ (i j:Int):Int:=i+j
abbrev gSub_ (i j:Int):Int:=i-j
abbrev cMod (_ j:Int):Prop:=0<j
instance (i j:Int):Decidable (CMul i j):=by unfold CMul; infer_instance
instance (i j:Int):Decidable (CDiv i j):=by unfold CDiv; infer_instance
instance (i j:Int):Decidable (CPow i j):=by unfold CPow; infer_instance
instance (i j:Int):Decidable (CPowB i j):=by unfold CPowB; infer_instance
def vOf:W->Option V
 | .non=>some .non
 | .bl b=>some (.bl b)
 | .int i=>some (.int i)
 | .str x=>some (.str x)
 | _=>none
def eqSc (u v:W):Option Bool:=match vOf u,vOf v with
 | some x,some y=>if scal x y then some (decide (x=y)) else none
 | _,_=>none
def fEqS (neg:Bool) (u v:W):R W:=match eqSc u v with
 | some b=>.ok (.bl (if neg then !b else b))
 | none=>.stuck
section
variable {K:Frag} {H0 G H:Hp} {ρ:Rho} {σ:St} {d:Mode}
theorem vOf_B {Ha:Hp} {v:V} {w:W} {x:V} (h:Md K H0 Ha G H v w .B) (e:vOf w=some x):v=x:=by
 cases w <;> first | cases e | skip
 ·exact h.nonB
 ·exact h.blB
 ·exact h.intB
 ·exact h.strB
theorem o2_eqS:Op2 K .B d rEq (fEqS false):=by
 intro EX H0 Hs G H ρ σ Ha Hb x y u v Q I s mx my o
 unfold fEqS eqSc at o
 cases hu:vOf u with
 | none=>rw [hu] at o; exact o.elim
 | some p=>
  cases hv:vOf v with
  | none=>rw [hu,hv] at o; exact o.elim
  | some q=>
   rw [hu,hv] at o
   cases vOf_B mx hu
   cases vOf_B my hv
   dsimp only at o
   by_cases c:scal x y=true
   ·rw [if_pos c] at o
    exact ⟨c,o _ G H (Ext.refl I.gh) (Md.sca rfl (fun _=>.bl) d)⟩
   ·rw [if_neg c] at o; exact o.elim
theorem o2_neS:Op2 K .B d rNe (fEqS true):=by
 intro EX H0 Hs G H ρ σ Ha Hb x y u v Q I s mx my o
 unfold fEqS eqSc at o
 cases hu:vOf u with
 | none=>rw [hu] at o; exact o.elim
 | some p=>
  cases hv:vOf v with
  | none=>rw [hu,hv] at o; exact o.elim
  | some q=>
   rw [hu,hv] at o
   cases vOf_B mx hu
   cases vOf_B my hv
   dsimp only at o
   by_cases c:scal x y=true
   ·rw [if_pos c] at o
    exact ⟨c,o _ G H (Ext.refl I.gh) (Md.sca rfl (fun _=>.bl) d)⟩
   ·rw [if_neg c] at o; exact o.elim
end
end TP
namespace TP
open PySem L2
mutual
def pd:W->PyData
 | .non=>.none
 | .bl b=>.bool b
 | .int i=>.int i
 | .str x=>.str x
 | .ty _=>.none
 | .exc _ _=>.none
 | .cls _=>.none
 | .tup ws=>.tuple (pds ws)
 | .lst ws=>.list (pds ws)
 | .scr ws=>.list (pds ws)
def pds:List W->List PyData
 | []=>[]
 | w::ws=>pd w::pds ws
end
mutual
def shp:Nat->W->Bool
 | _,.non=>true
 | _,.bl _=>true
 | _,.int _=>true
 | _,.str x=>PyData.strOk x
 | n+1,.tup ws=>shps n ws
 | n+1,.lst ws=>shps n ws
 | n+1,.scr ws=>shps n ws
 | _,_=>false
def shps:Nat->List W->Bool
 | _,[]=>true
 | n,w::ws=>shp n w&&shps n ws
end
theorem shp_ok:∀ (w:W) (n:Nat),shp n w=true->(pd w).canLay0=true/\(pd w).depth<=n:=by
 intro w
 have tl:∀ (ws:List W) (c:List PyData->PyData),(∀ l,(c l).canLay0=PyData.canLayAll0 l)->(∀ l,(c l).depth=PyData.depthAll l+1)->(∀ n:Nat,shps n ws=true->PyData.canLayAll0 (pds ws)=true/\PyData.depthAll (pds ws)<=n)->∀ n:Nat,(match n with | 0=>false | n+1=>shps n ws)=true->(c (pds ws)).canLay0=true/\(c (pds ws)).depth<=n:=fun ws c h1 h2 ih n h=>by
  cases n with
  | zero=>cases h
  | succ n=>have:=ih n h; exact ⟨by rw [h1]; exact this.1,by rw [h2]; exact Nat.succ_le_succ this.2⟩
 have fl:∀ {n:Nat} {w:W} {P:Prop},shp n w=false->shp n w=true->P:=fun h1 h2=>by rw [h1] at h2; cases h2
 induction w using W.rec (motive_2:=fun ws=>∀ n:Nat,shps n ws=true->PyData.canLayAll0 (pds ws)=true/\PyData.depthAll (pds ws)<=n) with
 | non=>exact fun n _=>⟨rfl,Nat.zero_le _⟩
 | bl b=>exact fun n _=>⟨rfl,Nat.zero_le _⟩
 | int i=>exact fun n _=>⟨rfl,Nat.zero_le _⟩
 | str x=>exact fun n h=>⟨by cases n <;> exact h,Nat.zero_le _⟩
 | ty a=>exact fun n h=>fl (by cases n <;> rfl) h
 | exc a b=>exact fun n h=>fl (by cases n <;> rfl) h
 | cls a=>exact fun n h=>fl (by cases n <;> rfl) h
 | tup ws ih=>exact fun n h=>tl ws .tuple (fun _=>rfl) (fun _=>rfl) ih n (by cases n <;> exact h)
 | lst ws ih=>exact fun n h=>tl ws .list (fun _=>rfl) (fun _=>rfl) ih n (by cases n <;> exact h)
 | scr ws ih=>exact fun n h=>tl ws .list (fun _=>rfl) (fun _=>rfl) ih n (by cases n <;> exact h)
 | nil=>exact ⟨rfl,Nat.zero_le _⟩
 | cons w ws h1 h2=>
  rename_i n h
  have h':shp n w=true/\shps n ws=true:=(Bool.and_eq_true _ _).mp h
  have a:=h1 n h'.1
  have b:=h2 n h'.2
  exact ⟨by show (PyData.canLay0 _&&PyData.canLayAll0 _)=true; rw [a.1,b.1]; rfl,Nat.max_le.mpr ⟨a.2,b.2⟩⟩
section
variable {X:Cx} {pins:List (Addr×Obj)} {σ:St} {H:Hp} {s:Shared}
theorem Rep.reads (I:Inv X pins σ H s) {x:V} {w:W} {u:Value} (n:Nat) (r:Rep X.K H x w):shp n w=true->RelV x u->∃ as,Reads s.heap u (pd w) as:=by
 have fl:∀ {n:Nat} {w:W} {P:Prop},shp n w=false->shp n w=true->P:=fun h1 h2=>by rw [h1] at h2; cases h2
 induction r using Rep.rec (motive_2:=fun xs ws _=>∀ (us:List Value) (n:Nat),shps n ws=true->Vals xs us->∃ as,ReadsAll s.heap us (pds ws) as) generalizing u n with
 | non=>intro _ r; cases r; exact ⟨_,.none⟩
 | bl=>intro _ r; cases r; exact ⟨_,.bool _⟩
 | int=>intro _ r; obtain ⟨t,rfl⟩:=r; exact ⟨_,.int _ _⟩
 | str=>intro _ r; obtain ⟨t,rfl⟩:=r; exact ⟨_,.str _ _⟩
 | ty=>exact fun h _=>fl (by cases n <;> rfl) h
 | exc=>exact fun h _=>fl (by cases n <;> rfl) h
 | cls=>exact fun h _=>fl (by cases n <;> rfl) h
 | tup ha _ ih=>
  intro h r
  cases r
  cases n with
  | zero=>cases h
  | succ n=>
   obtain ⟨its,rv,⟨o,e,c,k,dd⟩,_⟩:=I.tuple (SqT.of ha)
   obtain ⟨as,q⟩:=ih _ n h rv
   exact ⟨_,.tuple e c dd (by simpa using q)⟩
 | lst ha _ ih=>
  intro h r
  cases r
  cases n with
  | zero=>cases h
  | succ n=>
   obtain ⟨its,rv,pl,_⟩:=I.list (SqL.of ha)
   obtain ⟨o,e,c,k,dd⟩:=pl.isList
   obtain ⟨as,q⟩:=ih _ n h rv
   exact ⟨_,.list e c dd (by simpa using q)⟩
 | scr ha _ ih=>
  intro h r
  cases r
  cases n with
  | zero=>cases h
  | succ n=>
   obtain ⟨its,rv,pl,_⟩:=I.list ha
   obtain ⟨o,e,c,k,dd⟩:=pl.isList
   obtain ⟨as,q⟩:=ih _ n h rv
   exact ⟨_,.list e c dd (by simpa using q)⟩
 | nil=>rename_i us n _ r; cases r; exact ⟨_,.nil⟩
 | cons _ _ h1 h2=>
  rename_i us n h r
  cases r with
  | cons r1 r2=>
   have h':=(Bool.and_eq_true _ _).mp h
   obtain ⟨as,q1⟩:=h1 n h'.1 r1
   obtain ⟨bs,q2⟩:=h2 _ n h'.2 r2
   exact ⟨_,.cons q1 q2⟩
def eqW (u v:W):Bool:=PyData.eqv (pd u) (pd v)
def rEqD (K:Frag) (neg:Bool):R2:=fun x y H Q=>∃ u v,Rep K H x u/\Rep K H y v/\shp 8 u=true/\shp 8 v=true/\Q (.bl (if neg then !eqW u v else eqW u v)) H
theorem shaped_of {w:W} (h:shp 8 w=true):SeqAt.shaped (pd w)=true:=by
 obtain ⟨a,b⟩:=shp_ok w 8 h
 unfold SeqAt.shaped
 rw [a,Bool.true_and]
 exact decide_eq_true (Nat.le_trans b (by decide))
theorem op_neD (hu:X.A.units+64<cLine):OpR X (compareOp .NotEq) (rEqD X.K true):=by
 intro pins s σ H x y v u Q I rx ry h
 obtain ⟨a,b,ra,rb,sa,sb,q⟩:=h
 obtain ⟨as,qa⟩:=Rep.reads I 8 ra sa rx
 obtain ⟨bs,qb⟩:=Rep.reads I 8 rb sb ry
 exact PyProof.Rows.ne_dataH qa qb (shaped_of sa) (shaped_of sb) hu ⟨.bl (!eqW a b),H,I,rfl,q⟩
def fEq (neg:Bool) (u v:W):R W:=if shp 8 u&&shp 8 v then .ok (.bl (if neg then !eqW u v else eqW u v)) else .stuck
theorem o2_eqD {K:Frag} {d:Mode} {neg:Bool}:Op2 K .B d (rEqD K neg) (fEq neg):=by
 intro EX H0 Hs G H ρ σ Ha Hb x y u v Q I s mx my o
 unfold fEq at o
 by_cases c:(shp 8 u&&shp 8 v)=true
 ·rw [if_pos c] at o
  have c':shp 8 u=true/\shp 8 v=true:=by simpa using c
  exact ⟨u,v,mx.whole I,my.whole I,c'.1,c'.2,o _ G H (Ext.refl I.gh) (Md.sca rfl (fun _=>.bl) d)⟩
 ·rw [if_neg c] at o; exact o.elim
def isBW:W->Bool->Bool
 | .bl a,b=>a == b
 | _,_=>false
def fIsB (neg:Bool):W->W->R W
 | u,.bl b=>.ok (.bl (if neg then !isBW u b else isBW u b))
 | _,_=>.stuck
end
theorem hu64 {A:Around} {k:Nat} (hr:Room k A):A.units+64<cLine:=hr.units
end TP
namespace TP
open PySem L2
section
variable {X:Cx} {pins:List (Addr×Obj)} {σ:St} {H:Hp} {s:Shared}
def blsW:List W->Option (List Bool)
 | []=>some []
 | .bl b::ws=>(blsW ws).map (b::·)
 | _=>none
theorem bls_map (bs:List Bool):blsW (bs.map W.bl)=some bs:=by
 induction bs with
 | nil=>rfl
 | cons b bs ih=>rw [List.map_cons,blsW,ih]; rfl
def fBools (g:List Bool->Bool):List W->R W
 | [.lst ws]=>toR (blsW ws)>>=fun bs=>.ok (.bl (g bs))
 | _=>.stuck
end
section
variable {X:Cx} {K:Frag} {d:Mode}
def intsW:List W->Option (List Int)
 | []=>some []
 | .int b::ws=>(intsW ws).map (b::·)
 | _=>none
theorem ints_map (bs:List Int):intsW (bs.map W.int)=some bs:=by
 induction bs with
 | nil=>rfl
 | cons b bs ih=>rw [List.map_cons,intsW,ih]; rfl
def fInts (g:List Int->Int):List W->R W
 | [.lst ws]=>toR (intsW ws)>>=fun bs=>.ok (.int (g bs))
 | _=>.stuck
def fAbs:List W->R W
 | [.int i]=>.ok (.int (if i<0 then -i else i))
 | _=>.stuck
def fInt:List W->R W
 | [.int i]=>.ok (.int i)
 | [.bl k]=>.ok (.int (if k then 1 else 0))
 | _=>.stuck
def fStr:List W->R W
 | [.int i]=>if i.natAbs.log2<1920 then .ok (.str (toString i)) else .stuck
 | _=>.stuck
end
end TP
namespace TP
open PySem L2
def mExt (i:Nat) (c:Bool) (m:Rho->R W):Rho->R Fl:=fun ρ=>match ρ[i]? with
 | some (.own ws)=>m ρ>>=fun w=>(match w with
  | .lst us=>if ws.length+us.length<=1000 then (if c||noLs us then .ok (.nx (ρ.set i (.own (ws++us)))) else .stuck) else .stuck
  | _=>.stuck)
 | _=>.stuck
def mRev (i:Nat):Rho->R Fl:=fun ρ=>match ρ[i]? with
 | some (.own ws)=>.ok (.nx (ρ.set i (.own ws.reverse)))
 | _=>.stuck
section
variable {K:Frag} {EX:EXT} {H0 G H:Hp} {ρ:Rho} {σ:St} {d:Mode} {D:Ends}
end
section
variable {X:Cx} {K:Frag} {EX:EXT} {d:Mode} {e:Expr} {pos:Pos} {ma:Rho->R W}
end
section
variable {X:Cx} {K:Frag} {EX:EXT} {a e tg:Expr} {es:List Expr} {pos:Pos} {ma:Rho->R W} {mr:Rho->R (List W)}
theorem q_iSqB (h:PE X e (tM K EX .B ma)) (hK:X.K=K:=by rfl):PI X tg e (tIt K EX false .U (bS ma)):=q_iSq (lp:=false) h hK
theorem q_iSqU (h:PE X e (tM K EX .U ma)) (hK:X.K=K:=by rfl):PI X tg e (tIt K EX true .U (bS ma)):=q_iSq (lp:=true) h hK
theorem q_zipU {elts:List Expr} {p tp:Pos} {k:Nat} (hg:Gl X "zip") (hm:X.mg "zip" = none) (ha:PA X (a::es) (tA K EX .U mr)) (hK:X.K=K:=by rfl) (hs:starEach (a::es) X.env=(false,eval a X.env)::starEach es X.env:=by rfl) (hpl:(backTo pos (starEach es X.env)).any (·.1)=false:=by rfl) :
  PI X (.Tuple elts k tp) (.Call (.Name "zip" p) (a::es) [] pos) (tIt K EX true .U (bI zipR mr)):=q_zip (lp:=true) hg hm ha hK hs hpl
end
end TP
namespace TP
open PySem L2
section
variable {K:Frag} {EX:EXT} {H0 G H G1 H1:Hp} {ρ:Rho} {σ:St} {d:Mode} {D:Ends}
def isOwn:Sl->Bool
 | .own _=>true
 | .dic _=>true
 | .dik _=>true
 | _=>false
def noOwn (ρ:Rho):Bool:=ρ.all fun s=>!isOwn s
def sCU (i:Nat) (f:List W->R W) (ma:Rho->R (List W)):Rho->R Fl:=fun ρ=>if noOwn ρ then (ma ρ>>=fun ws=>f ws>>=fun w=>.ok (.nx (ρ.set i (.par w)))) else .stuck
end
section
variable {X:Cx} {K:Frag} {d:Mode} {e:Expr} {es:List Expr} {pos:Pos} {mr:Rho->R (List W)}
end
end TP
namespace TP
open PySem L2
section
variable {X:Cx} {tg:Expr}
end
def revW:List W->R (List W)
 | [.lst ws]=>.ok ws.reverse
 | _=>.stuck
section
variable {K:Frag} {EX:EXT} {H0 G H:Hp} {ρ:Rho} {σ:St}
end
section
variable {X:Cx} {K:Frag} {EX:EXT} {a tg:Expr} {pos:Pos} {mr:Rho->R (List W)}
end
end TP
namespace TP
open PySem L2
section
variable {X:Cx} {pins:List (Addr×Obj)} {σ:St} {H:Hp} {s:Shared}
end
def seqI:W->Option (List Int)
 | .lst ws=>intsW ws
 | .tup ws=>intsW ws
 | _=>none
def fBest (g:List Int->Int):List W->R W
 | [w]=>toR (seqI w)>>=fun ns=>if 0<ns.length then .ok (.int (g ns)) else .stuck
 | _=>.stuck
end TP
namespace HT
open PySem PySem.Spec PyProof.Rows
end HT
namespace TP
open PySem L2 PySem.Spec PyProof.Rows
variable {X:Cx} {K:Frag}
end TP
namespace TP
open PySem PySem.W PyProof.Rows
section
variable (r:Nat->Int)
def ky (p:Array Nat) (k:Nat):Int:=r (p.getD k 0)
def up (p:Array Nat) (n:Nat):Prop:=∀ k,k+1<n->ky r p k<=ky r p (k+1)
end
end TP
namespace TP
open PySem L2
section
variable {prog:Program} {w:World} {A:Around} {E:Value->Shared->Prop} {s:Shared}
end
section
variable {X:Cx}
end
section
variable {K:Frag} {EX:EXT} {H0 G H:Hp} {ρ:Rho} {σ:St}
end
section
variable {X:Cx} {K:Frag} {EX:EXT} {a:Expr} {pos:Pos} {mr:Rho->R (List W)}
end
section
variable {X:Cx}
end
end TP
namespace TP
open PySem L2
def lexLt:List Int->List Int->Bool
 | [],[]=>false
 | [],_::_=>true
 | _::_,[]=>false
 | a::as,b::bs=>if a=b then lexLt as bs else decide (a<b)
def rankL (ss:List (List Int)) (i:Nat):Int:=((ss.countP fun x=>lexLt x (ss.getD i [])):Nat)
def allLt (n:Nat) (p:Array Nat):Prop:=∀ x∈p,x<n
section
open PySem.W PyProof.Rows
variable {n:Nat} (h0:0<n)
include h0
end
section
open PySem.W PyProof.Rows
variable {prog:Program} {w:World} {A:Around} {E:Value->Shared->Prop} {s:Shared}
end
section
open PySem.W PyProof.Rows
variable {prog:Program} {w:World} {A:Around} {E:Value->Shared->Prop} {s:Shared}
end
section
variable {X:Cx} {K:Frag}
end
section
variable {K:Frag}
end
end TP
namespace TP
open PySem L2
set_option maxHeartbeats 2000000
section
variable {X:Cx} {K:Frag}
end
section
variable {K:Frag}
end
end TP
namespace L2
open PySem PySem.Spec PyProof.Rows
section
variable {X:Cx} {pins:List (Addr×Obj)} {σ:St} {H:Hp} {s:Shared} {A:Around} {E:Value->Shared->Prop} {Q:Value->Shared->Prop} {b:Bool}
theorem isinstT_ok {x:V} {u:Value} {T:String} {a:Addr} {its:List Value} (I:Inv X pins σ H s) (rx:RelV x u) (ty:tyB H x=some T) (ht:IsTup s.heap a its.toArray) (e:PySem.W.kitAny X.K (.type T) its=some b)
  (h:∀ tk,Q (.bool b) { s with toks:=tk }):wpAny (model X.prog X.w) A (call (.builtin "isinstance") [u,.ref a]) Q E s:=by
 obtain ⟨⟨c,dd,da,sl⟩,ho,hc,n,hd⟩:=ht
 replace hc:c=.type "tuple" := hc
 replace hd:da=.seq its.toArray n:=hd
 subst hc hd
 unfold tyB at ty
 split at ty
 ·cases ty; cases (show u=Value.none from rx); exact PySem.W.kia_tup PySem.W.kitx_none I.kIn True.intro ho e (fun z=>nomatch z) h
 ·rename_i y; cases ty; cases (show u=Value.bool y from rx); exact PySem.W.kia_tup PySem.W.kitx_bool I.kIn True.intro ho e (fun z=>nomatch z) h
 ·rename_i i; cases ty; obtain ⟨t,q⟩:=(show ∃ t,u=Value.int i t from rx); cases q; exact PySem.W.kia_tup PySem.W.kitx_int I.kIn True.intro ho e (fun z=>nomatch z) h
 ·rename_i y; cases ty; obtain ⟨t,q⟩:=(show ∃ t,u=Value.str y t from rx); cases q; exact PySem.W.kia_tup PySem.W.kitx_str I.kIn True.intro ho e (fun z=>nomatch z) h
 ·rename_i p
  cases (show u=Value.ref p from rx)
  unfold tyO at ty
  split at ty
  ·rename_i xs ea; cases ty
   obtain ⟨_,_,n,_,h1⟩:=(show ObjOk X.prog X.w H s.heap p (.lst xs) from I.hok p _ ea)
   exact PySem.W.kia_tup PySem.W.kitx_list I.kIn ⟨_,h1,rfl⟩ ho e (fun z=>nomatch z) h
  ·rename_i xs ea; cases ty
   obtain ⟨_,_,_,q⟩:=(show ObjOk X.prog X.w H s.heap p (.tup xs) from I.hok p _ ea)
   obtain ⟨o,h1,h2,_⟩:=q
   exact PySem.W.kia_tup PySem.W.kitx_tuple I.kIn ⟨o,h1,h2⟩ ho e (fun z=>nomatch z) h
  ·rename_i kvs ea; cases ty
   obtain ⟨_,_,vs,_,q⟩:=(show ObjOk X.prog X.w H s.heap p (.dK kvs) from I.hok p _ ea)
   obtain ⟨o,es,ep,h1,h2,_⟩:=q
   exact PySem.W.kia_tup PySem.W.kitx_dict I.kIn ⟨o,h1,h2.1⟩ ho e (fun z=>nomatch z) h
  ·cases ty
 ·cases ty
def rIsiT:List V->Hp->VK->Prop:=fun xs H Q=>∃ x a,xs = [x,.ref a]/\H a=some (.tup [.ty "list",.ty "tuple"])/\∃ T,tyB H x=some T/\∃ p q,isiB T "list" = some p/\isiB T "tuple" = some q/\Q (.bl (p||q)) H
theorem call_isiT:CallR X (.builtin "isinstance") rIsiT:=by
 intro pins s σ H xs us Q I r h
 obtain ⟨x,a,rfl,ha,T,ty,p,q,e1,e2,k⟩:=h
 obtain ⟨u,w',rfl,r1,r2⟩:=vals2 r
 have e3:w'=Value.ref a:=r2
 subst e3
 obtain ⟨its,rv,ht,_⟩:=I.tuple (SqT.of ha)
 obtain ⟨v1,v2,rfl,s1,s2⟩:=vals2 rv
 have f1:v1=Value.type "list" := s1
 have f2:v2=Value.type "tuple" := s2
 subst f1 f2
 have e:PySem.W.kitAny X.K (.type T) [.type "list",.type "tuple"]=some (p||q):=by
  unfold PySem.W.kitAny
  rw [isiB_ok e1]
  cases p with
  | true=>rfl
  | false=>
   show PySem.W.kitAny X.K (.type T) [.type "tuple"]=_
   unfold PySem.W.kitAny
   rw [isiB_ok e2]
   cases q <;> rfl
 exact isinstT_ok I r1 ty ht e fun tk=>⟨.bl (p||q),H,I.tok tk,rfl,k⟩
end
end L2
namespace TP
open PySem L2
def fIsiT:List W->R W
 | [x,.tup [.ty p,.ty q]]=>if p = "list" /\ q = "tuple" then (match tyW x with
  | some A=>(match isiB A "list",isiB A "tuple" with
   | some u,some v=>.ok (.bl (u||v))
   | _,_=>.stuck)
  | none=>.stuck) else .stuck
 | _=>.stuck
section
variable {K:Frag} {d:Mode}
theorem b_isiT:Cal K .B d rIsiT fIsiT:=by
 intro EX H0 Hs G H ρ σ Ha vs ws Q I s m o
 unfold fIsiT at o
 split at o
 ·rename_i x p q
  split at o
  ·rename_i hpq
   obtain ⟨rfl,rfl⟩:=hpq
   cases m with
   | cons a t=>
    cases t with
    | cons b t=>
     cases t
     cases q:tyW x with
     | none=>rw [q] at o; exact o.elim
     | some A=>
      rw [q] at o
      cases q2:isiB A "list" with
      | none=>simp only [q2] at o; exact o.elim
      | some u=>
       cases q3:isiB A "tuple" with
       | none=>simp only [q2,q3] at o; exact o.elim
       | some v=>
        simp only [q2,q3] at o
        obtain ⟨c,ks,rfl,hc,rc⟩:=Md.tupB I b
        cases rc with
        | cons r1 rc=>
         cases rc with
         | cons r2 rc=>
          cases rc
          cases r1
          cases r2
          exact ⟨_,c,rfl,hc,A,tyW_of I a q,u,v,q2,q3,o _ G H (Ext.refl I.gh) (Md.sca rfl (fun _=>.bl) d)⟩
  ·exact o.elim
 ·exact o.elim
end
end TP
namespace HT
open PySem PyProof.Rows
section
variable {prog:Program} {w:World} {A:Around} {E:Value->Shared->Prop} {s:Shared}
end
end HT
namespace TP
open PySem L2
section
variable {X:Cx}
end
section
variable {K:Frag} {EX:EXT} {H0 G H:Hp} {ρ:Rho} {σ:St} {Q:VK}
end
section
variable {X:Cx} {K:Frag} {EX:EXT} {e:Expr} {pos:Pos} {ma:Rho->R W}
end
end TP
namespace TP
open PySem L2
section
variable {K:Frag} {EX:EXT} {H0 G H G1 H1 F:Hp} {ρ:Rho} {σ:St} {d:Mode} {D:Ends}
end
section
variable {X:Cx} {K:Frag} {EX:EXT} {d:Mode} {e k v:Expr} {pos:Pos} {mk me:Rho->R W}
end
end TP
namespace TP
open PySem L2
set_option maxHeartbeats 2000000
section
variable {X:Cx} {K:Frag}
end
section
variable {K:Frag}
end
end TP
namespace TP
open PySem L2
section
variable {X:Cx} {K:Frag} {EX:EXT} {d:Mode} {p:Pos} {es:List Expr} {mr:Rho->R (List W)}
end
end TP
namespace TB
open PySem PySem.W
end TB
namespace Att
open PySem PySem.W PySem.Calls PyProof.Rows
end Att
namespace L2
open PySem PySem.Spec PyProof.Rows
end L2
namespace TP
open PySem L2
def CMulB (i j:Int):Prop:=CMul i j\/Builtin.Int.intBits i+Builtin.Int.intBits j<=134217728
instance (i j:Int):Decidable (CMulB i j):=by unfold CMulB; infer_instance
section
variable {X:Cx}
end
end TP
namespace TL
open PySem
section
variable {prog:Program} {w:World} {A:Around} {E:Value->Shared->Prop} {s:Shared}
end
end TL
namespace TP
open PySem L2
section
variable {X:Cx}
end
section
variable {K:Frag} {EX:EXT} {σ:St} {H:Hp} {Q:VK}
end
section
variable {X:Cx} {K:Frag} {EX:EXT} {a:Expr} {pos:Pos} {mr:Rho->R (List W)}
end
end TP
namespace TP
open PySem L2
section
variable {X:Cx}
end
section
variable {K:Frag} {EX:EXT} {d:Mode} {σ:St} {H:Hp} {Q:VK}
end
section
variable {X:Cx} {K:Frag} {EX:EXT} {d:Mode} {o e:Expr} {apos cpos:Pos} {mo me:Rho->R W}
end
end TP
namespace TP
open PySem L2
def OutW (K:Frag) (EX:EXT) (d:Mode) (H0:Hp) (r:R Fl) (D:Ends):Prop:=match r with
 | .ok (.nx ρ)=>∀ G' σ' H',PIv K H0 G' ρ σ' H'->D.nx σ' H'
 | .ok (.bk ρ)=>∀ G' σ' H',PIv K H0 G' ρ σ' H'->D.bk σ' H'
 | .ok (.ct ρ)=>∀ G' σ' H',PIv K H0 G' ρ σ' H'->D.ct σ' H'
 | .ok (.rt w)=>∀ v G' H',Same G' H'->Same H0 H'->(∀ a o,H0 a=some o->isL o=true->G' a=none)->Md K H0 H0 G' H' v w d->D.rt v H'
 | .ex e=>∀ H',Same H0 H'->EX e H'
 | .stuck=>False
def tStW (K:Frag) (EX:EXT) (d:Mode) (m:Rho->R Fl):TS:=fun D σ H=>∃ H0 G ρ,PIv K H0 G ρ σ H/\OutW K EX d H0 (m ρ) D
section
variable {K:Frag} {EX:EXT} {H0 G H G1 H1 G2 H2:Hp} {ρ:Rho} {σ:St} {d:Mode} {D:Ends}
theorem upd_at {H:Hp} {a:Addr} {o:HO}:upd H a o a=some o:=by unfold upd; rw [if_pos rfl]
def clS:Sl->Sl
 | .un=>.un
 | .val w=>if noL w=true then .val w else .un
 | .par w=>if noL w=true then .val w else .un
 | .own ws=>if noLs ws=true then .own ws else .un
 | .dic ks=>.dic ks
 | .dik ks=>.dik ks
 | .iop p ws=>if noLs ws=true then .iop p ws else .un
 | .hz _=>.un
 | .dz _=>.un
def subS (i j:Nat) (us ws':List W) (ρ:Rho):Rho:=(ρ.map clS).set i (.val (.tup (us.set j (.lst ws'))))
theorem clS_own {s:Sl} {ws:List W} (h:clS s=.own ws):s=.own ws:=by
 cases s with
 | un=>cases h
 | val w=>
  by_cases c:noL w=true
  ·rw [clS,if_pos c] at h; cases h
  ·rw [clS,if_neg c] at h; cases h
 | par w=>
  by_cases c:noL w=true
  ·rw [clS,if_pos c] at h; cases h
  ·rw [clS,if_neg c] at h; cases h
 | own us=>
  by_cases c:noLs us=true
  ·rw [clS,if_pos c] at h; exact h
  ·rw [clS,if_neg c] at h; cases h
 | dic ks=>cases h
 | dik ks=>cases h
 | hz _=>cases h
 | dz _=>cases h
 | iop p us=>
  by_cases c:noLs us=true
  ·rw [clS,if_pos c] at h; cases h
  ·rw [clS,if_neg c] at h; cases h
end
section
variable {X:Cx} {K:Frag} {EX:EXT} {d:Mode} {e:Expr} {pos:Pos} {ma:Rho->R W} {m n:Rho->R Fl} {ta:Rho->R Bool} {st:Stmt} {sts:List Stmt}
end
end TP
namespace TP
open PySem L2
set_option maxHeartbeats 2000000
section
variable {X:Cx} {K:Frag}
end
section
variable {K:Frag}
end
end TP
namespace TP
open PySem L2
def Hx (p:Addr) (H0 H1:Hp):Prop:=(∀ a,a≠p->H1 a=H0 a)/\∃ vs,H1 p=some (.lst vs)
def OutIo (K:Frag) (EX:EXT) (p:Addr) (H0:Hp) (r:R Fl) (D:Ends):Prop:=match r with
 | .ok (.nx ρ)=>∀ H0' G' σ' H',Hx p H0 H0'->PIv K H0' G' ρ σ' H'->D.nx σ' H'
 | .ok (.bk ρ)=>∀ H0' G' σ' H',Hx p H0 H0'->PIv K H0' G' ρ σ' H'->D.rt .non H'
 | .ex e=>∀ H',EX e H'
 | _=>False
def tStI (K:Frag) (EX:EXT) (p:Addr) (m:Rho->R Fl):TS:=fun D σ H=>∃ H0 G ρ,PIv K H0 G ρ σ H/\(∃ vs,H0 p=some (.lst vs))/\OutIo K EX p H0 (m ρ) D
def nbR:R Fl->R Fl
 | .ok (.nx ρ)=>.ok (.nx ρ)
 | .ex e=>.ex e
 | _=>.stuck
def nb (m:Rho->R Fl):Rho->R Fl:=fun ρ=>nbR (m ρ)
section
variable {K:Frag} {EX:EXT} {H0 H0' G H G1 H1 G2 H2:Hp} {ρ:Rho} {σ:St} {d:Mode} {D:Ends} {p:Addr}
def clI:Sl->Sl
 | .un=>.un
 | .val w=>.val w
 | .par w=>if noL w=true then .val w else .un
 | .own ws=>.own ws
 | .dic ks=>.dic ks
 | .dik ks=>.dik ks
 | .iop _ _=>.un
 | .hz _=>.un
 | .dz zs=>.dz zs
def ioR (p:Addr) (ρ:Rho):R (List W):=match (ρ[1]?:Option Sl) with
 | some (.iop q cs)=>if q=p then .ok cs else .stuck
 | _=>.stuck
def runIO (n N:Nat) (m:Addr->Rho->R Fl) (p:Addr) (w1:W) (cs wr:List W):R (List W):=if wr.length+2=n/\noLs cs=true then (match m p (.par w1::.iop p cs::(wr.map Sl.par++List.replicate (N-n) Sl.un)) with
 | .ok (.nx ρ)=>ioR p ρ
 | .ok (.bk ρ)=>ioR p ρ
 | _=>.stuck) else .stuck
open Classical in
def runIOA (n N:Nat) (m:Addr->Rho->R Fl) (w1:W) (cs wr:List W):R (List W):=if h:∃ cs',∀ p,runIO n N m p w1 cs wr=.ok cs' then .ok (Classical.choose h) else .stuck
end
section
variable {X:Cx} {K:Frag} {EX:EXT} {d:Mode} {e:Expr} {es:List Expr} {pos:Pos} {ma:Rho->R W} {m n:Rho->R Fl} {ta:Rho->R Bool} {st:Stmt} {sts:List Stmt} {p:Addr} {mr:Rho->R (List W)}
end
end TP
namespace TP
open PySem L2
section
variable {K:Frag} {EX:EXT} {H0 G H:Hp} {ρ:Rho} {σ:St}
end
section
variable {X:Cx} {K:Frag} {e:Expr} {es:List Expr} {pos:Pos} {mr:Rho->R (List W)}
end
end TP
namespace TP
open PySem L2
section
variable {X:Cx}
end
section
variable {K:Frag} {EX:EXT} {H0 G H:Hp} {ρ:Rho} {σ:St} {d:Mode} {D:Ends}
end
section
variable {X:Cx} {K:Frag} {EX:EXT} {d:Mode} {e:Expr} {pos:Pos} {ma:Rho->R W}
end
end TP
namespace TP
open PySem L2
section
open PySem.W PyProof.Rows
variable {prog:Program} {w:World} {A:Around} {E:Value->Shared->Prop} {s:Shared}
theorem items_int:∀ {xs:List Int} {its:List Value},Vals (xs.map V.int) its->ItemsAre (intKind prog w) xs its:=by
 intro xs
 induction xs with
 | nil=>intro its h; cases h; exact .nil
 | cons x xs ih=>
  intro its h
  cases h with
  | cons r t=>
   obtain ⟨tk,rfl⟩:=r
   exact .cons (by simp [intKind,Value.isInt]) (ih t)
end
end TP
namespace TP
open PySem L2
section
variable {X:Cx} {pins:List (Addr×Obj)} {σ:L2.St} {H:Hp} {s:Shared}
end
section
open PySem.W PyProof.Rows
variable {Y:Cx} {K:Frag} {pn:List (Addr×Obj)} {σ:L2.St}
end
end TP
namespace TP
open PySem L2
section
open PySem.W PyProof.Rows
variable {Y:Cx} {K:Frag} {pins:List (Addr×Obj)} {σ:L2.St}
end
section
open PySem.W PyProof.Rows
variable {X:Cx} {K:Frag}
end
section
variable {K:Frag}
end
section
variable {X:Cx} {K:Frag} {EX:EXT} {e:Expr} {pos:Pos} {mr:Rho->R (List W)}
end
end TP
namespace TP
open PySem L2
section
open PySem.W PyProof.Rows
variable {X:Cx} {e:Expr} {te:TE} {st:Expr} {tk:TO} {pos p2:Pos}
end
section
variable {K:Frag} {EX:EXT} {σ:St} {H:Hp} {Q:VK}
end
section
variable {X:Cx} {K:Frag} {EX:EXT} {e:Expr} {pos:Pos} {ma:Rho->R W}
end
end TP
namespace TP
open PySem L2
section
variable {K:Frag} {EX:EXT} {H0 G H:Hp} {ρ:Rho} {σ:St} {d:Mode} {D:Ends}
end
section
variable {X:Cx} {K:Frag} {EX:EXT} {d:Mode} {e:Expr} {pos:Pos} {ma:Rho->R W}
end
end TP
namespace TP
open PySem L2
section
variable {K:Frag} {EX:EXT} {H0 G H G1 H1 F:Hp} {ρ:Rho} {σ:St} {d:Mode} {D:Ends}
end
section
variable {X:Cx} {K:Frag} {EX:EXT} {d:Mode} {e k v:Expr} {pos:Pos} {mk me:Rho->R W}
end
end TP
namespace TP
open PySem PyProof.Rows
def kk (rk:Keyed->Int) (xs:Array Keyed) (i:Nat):Int:=match xs[i]? with
 | some p=>rk p
 | none=>0
theorem sb1 {A n:Nat} (h0:0<n) (h:n<=A):A-(n-1)=A-n+1:=by
 cases n with
 | zero=>exact absurd h0 (Nat.lt_irrefl _)
 | succ m=>exact (Nat.succ_pred_eq_of_pos (Nat.sub_pos_of_lt h)).symm
theorem sb2 {A n k:Nat} (h:n<=A) (hk:k<=n):A-k=A-n+(n-k):=(Nat.sub_add_sub_cancel h hk).symm
theorem sb3 {lo x q k:Nat} (hq:q<=x) (h:lo+x-q<=k):x-q<=k-lo:=by rw [Nat.add_sub_assoc hq] at h; exact Nat.le_sub_of_add_le' h
theorem sb4 {lo x q k:Nat} (hq:q<=x) (h:lo+x-q<=k):lo+(k-lo)=k:=Nat.add_sub_cancel' (Nat.le_trans (by rw [Nat.add_sub_assoc hq]; exact Nat.le_add_right _ _) h)
theorem sb5 {lo j:Nat} (h:0<j):lo+(j-1)=lo+j-1:=(Nat.add_sub_assoc h lo).symm
section
variable {prog:Program} {w:World} {A:Around} {E:Value->Shared->Prop} {s:Shared} {a₀:Array Keyed} {κ:SortKind} {rk:Keyed->Int}
end
def upL (rk:Keyed->Int) (l:List Keyed):Prop:=l.Pairwise fun x y=>rk x<=rk y
structure Mg (rk:Keyed->Int) (t:List Keyed) (out ra rb:List Keyed):Prop where
 perm:(out++(ra++rb)).Perm t
 up:upL rk out
 le:∀ x∈out,∀ y∈ra++rb,rk x<=rk y
def Gd (rk:Keyed->Int) (t res:List Keyed):Prop:=res.Perm t/\upL rk res
section
variable {rk:Keyed->Int} {t out p ra rb:List Keyed}
end
section
variable {prog:Program} {w:World} {A:Around} {E:Value->Shared->Prop} {s:Shared} {a₀:Array Keyed} {κ:SortKind} {rk:Keyed->Int}
end
section
variable {prog:Program} {w:World} {A:Around} {E:Value->Shared->Prop} {s:Shared} {a₀:Array Keyed} {κ:SortKind} {rk:Keyed->Int}
abbrev rn (rk:Keyed->Int) (x:Keyed):Int:=-rk x
abbrev rv (a:Array Keyed):List Keyed:=a.toList.reverse
end
section
variable {prog:Program} {w:World} {A:Around} {E:Value->Shared->Prop} {s:Shared} {a₀:Array Keyed} {κ:SortKind} {rk:Keyed->Int}
end
section
variable {prog:Program} {w:World} {A:Around} {E:Value->Shared->Prop} {s:Shared} {a₀:Array Keyed} {κ:SortKind} {rk:Keyed->Int} {arr:Array Keyed} {pd:Array (Nat×Nat×Nat)} {g lo:Nat}
structure Rl (lo:Nat) (arr arr':Array Keyed):Prop where
 perm:arr'.toList.Perm arr.toList
 same:∀ k,k<lo->arr'[k]?=arr[k]?
end
section
variable {prog:Program} {w:World} {A:Around} {E:Value->Shared->Prop} {s:Shared} {a₀:Array Keyed} {κ:SortKind} {rk:Keyed->Int} {arr:Array Keyed} {pd:Array (Nat×Nat×Nat)} {g lo:Nat}
end
end TP
namespace TP
open PySem L2
section
open PySem.W PyProof.Rows
variable {prog:Program} {w:World} {A:Around} {E:Value->Shared->Prop} {s:Shared}
open Classical in
def rkV (vs:List Value) (ss:List (List Int)) (p:Keyed):Int:=if h:∃ i,i<vs.length/\vs.getD i Value.none=p.1 then rankL ss h.choose else 0
end
section
variable {X:Cx} {K:Frag}
end
section
variable {K:Frag}
end
end TP
namespace TP
open PySem L2
def spX (K:Frag) (n:Nat) (f:List W->R W):Sp:=fun vs H Q E=>vs.length=n/\∃ F ws,Same F H/\Reps K F vs ws/\match f ws with
 | .ok w=>∀ v G' H',Same F G'->Same H H'->Same G' H'->(∀ a o,H a=some o->isL o=true->F a=none->G' a=none)->Rep K G' v w->Q v H'
 | .ex e=>∀ H',Same H H'->XE E e H'
 | .stuck=>False
def runX (n N:Nat) (m:Rho->R Fl) (ws:List W):R W:=if ws.length=n then (m (ws.map Sl.val++List.replicate (N-n) Sl.un)>>=fun f=>match f with
 | .rt w=>.ok w
 | .nx _=>.ok .non
 | _=>.stuck) else .stuck
theorem runX_len {n N:Nat} {m:Rho->R Fl} (ws:List W) (h:runX n N m ws≠.stuck):ws.length=n:=by
 unfold runX at h
 by_cases e:ws.length=n
 ·exact e
 ·rw [if_neg e] at h; exact absurd rfl h
def less (H F:Hp):Hp:=fun a=>match F a with
 | some _=>none
 | none=>H a
section
variable {K:Frag} {EX:EXT} {H0 G H G1 H1 F:Hp} {ρ:Rho} {σ:St} {d:Mode} {D:Ends}
theorem less_n {a:Addr} (h:F a=none):less H F a=H a:=by unfold less; rw [h]
theorem less_s {a:Addr} {o:HO} (h:less H F a=some o):F a=none/\H a=some o:=by
 unfold less at h
 cases q:F a with
 | none=>rw [q] at h; exact ⟨rfl,h⟩
 | some u=>rw [q] at h; cases h
theorem same_less {H':Hp} (sF:Same F H) (h1:Same (less H F) H') (h2:Same F H'):Same H H':=fun a o e=>by
 cases q:F a with
 | none=>exact h1 a o (by rw [less_n q]; exact e)
 | some u=>
  have:=sF a u q
  rw [e] at this; cases this
  exact h2 a o q
theorem noLH_s {a:Addr} {o:HO} (h:noLH H a=some o):H a=some o/\isL o=false:=by
 unfold noLH at h
 cases q:H a with
 | none=>rw [q] at h; cases h
 | some u=>
  rw [q] at h
  dsimp only at h
  cases hl:isL u
  ·rw [hl] at h; cases h; exact ⟨rfl,hl⟩
  ·rw [hl] at h; cases h
theorem slotsV:∀ {vs:List V} {ws:List W} {i:Nat} {x:Sl} {o:Option V} {k k':Nat},Reps K F vs ws->(ws.map Sl.val++List.replicate k Sl.un)[i]?=some x->(vs.map some++List.replicate k' none)[i]?=some o->x=.un\/∃ v w,x=.val w/\o=some v/\Rep K F v w
 | _,_,i,x,o,k,k',.nil,h1,h2=>by
  simp only [List.map_nil,List.nil_append,List.getElem?_replicate] at h1
  split at h1 <;> simp only [Option.some.injEq,reduceCtorEq] at h1
  exact .inl h1.symm
 | _,_,0,x,o,k,k',.cons r _,h1,h2=>by
  simp at h1 h2
  exact .inr ⟨_,_,h1.symm,h2.symm,r⟩
 | _,_,i+1,x,o,k,k',.cons _ t,h1,h2=>by
  simp only [List.map_cons,List.cons_append,List.getElem?_cons_succ] at h1 h2
  exact slotsV t h1 h2
theorem PIv.beginX {vs:List V} {ws:List W} {k k':Nat} (sF:Same F H) (r:Reps K F vs ws) (hk:k=k'):PIv K (less H F) (both F (noLH H)) (ws.map Sl.val++List.replicate k Sl.un) (vs.map some++List.replicate k' none) H where
 g0 a o e l:=by
  obtain ⟨h1,h2⟩:=less_s e
  unfold both; rw [h1]; dsimp only
  unfold noLH; rw [h2]; dsimp only; rw [l]; rfl
 gl a o e l:=by
  obtain ⟨h1,h2⟩:=less_s e
  unfold both; rw [h1]; dsimp only
  unfold noLH; rw [h2]; dsimp only; rw [l]; rfl
 gh a o e:=by
  unfold both at e
  cases q:F a with
  | none=>rw [q] at e; exact (noLH_s e).1
  | some u=>rw [q] at e; cases e; exact sF a _ q
 hh a o e:=(less_s e).2
 len:=by subst hk; simp [r.length]
 sl i x o h1 h2:=by
  rcases slotsV r h1 h2 with rfl | ⟨v,w,rfl,rfl,q⟩
  ·trivial
  ·exact ⟨v,rfl,q.same fun b u e=>by unfold both; rw [e]⟩
 ne i j us xs a hij h1 _ _ _:=by
  have:∀ (i:Nat) (us:List W),(ws.map Sl.val++List.replicate k Sl.un)[i]?≠some (Sl.own us):=fun i us q=>by
   rw [List.getElem?_append] at q
   split at q
   ·rw [List.getElem?_map] at q
    cases hh:ws[i]? <;> rw [hh] at q <;> cases q
   ·rw [List.getElem?_replicate] at q
    split at q <;> cases q
  exact absurd h1 (this i us)
theorem c_bodyX {n:Nat} {Nl:List Str} {m:Rho->R Fl} {vs:List V} {Q:VK} {E:XK} (h:spX K n (runX n Nl.length m) vs H Q E):tSt K (fun _ _=>False) .V m { nx:=fun _ H'=>Q .non H',rt:=Q } (L2.start Nl vs) H:=by
 obtain ⟨hl,F,ws,sF,r,o⟩:=h
 have hw:ws.length=n:=by rw [<- r.length]; exact hl
 unfold runX at o
 rw [if_pos hw] at o
 have sB:Same F (both F (noLH H)):=fun b u e=>by unfold both; rw [e]
 refine ⟨less H F,both F (noLH H),_,PIv.beginX (k:=Nl.length-n) sF r (by rw [hl]),?_⟩
 revert o
 cases m (ws.map Sl.val++List.replicate (Nl.length-n) Sl.un) with
 | stuck=>exact id
 | ex e=>exact fun o=>(o H (Same.refl H)).elim
 | ok f=>
  cases f with
  | nx ρ'=>exact fun o G' σ' H' s' I'=>o .non G' H' (sB.trans s') (same_less sF I'.hh ((sB.trans s').trans I'.gh)) I'.gh (fun a o e l q=>I'.gl a o (by rw [less_n q]; exact e) l) .non
  | rt w=>exact fun o v G' H' s0 s1 s2 c md=>o v G' H' (sB.trans s0) (same_less sF s2 ((sB.trans s0).trans s1)) s1 (fun a o e l q=>c a o (by rw [less_n q]; exact e) l) md
  | bk _=>exact fun o=>o.elim
  | ct _=>exact fun o=>o.elim
theorem MdA.repsV {Hs:Hp}:∀ {ws:List W} {vs:List V},MdA K .V H0 Hs G H ws vs->Reps K G vs ws
 | _,_,.nil=>.nil
 | _,_,.cons h t=>.cons h (MdA.repsV t)
theorem c_callXV {n:Nat} {f:List W->R W} {E:XK} {ma:Rho->R (List W)} {Q:VK} (hf:∀ ws,f ws≠.stuck->ws.length=n) (hE:∀ e H,EX e H->XE E e H) (h:tM K EX .V (fun ρ=>ma ρ>>=fun ws=>f ws) σ H Q) :
  tCall (spX K n f) [] E (tA K EX .V ma) σ H Q:=by
 obtain ⟨H0,G,ρ,I,o⟩:=h
 refine ⟨H0,G,ρ,I,Out.bind o fun xs G1 H1 ws e1 m1 o1=>?_⟩
 have I1:=I.ext e1
 have r:=MdA.repsV m1
 rw [List.append_nil]
 refine ⟨?_,G1,ws,I1.gh,r,?_⟩
 ·rw [r.length]
  refine hf ws fun z=>?_
  rw [z] at o1; exact o1
 ·revert o1
  cases f ws with
  | stuck=>exact id
  | ex e=>exact fun o1 H' s=>hE e H' (o1 H' s)
  | ok w=>exact fun o1 v G' H' sG sH gH cl md=>o1 v G' H' ⟨sG,sH,gH,cl⟩ md
end
section
variable {X:Cx} {K:Frag} {d:Mode} {e:Expr} {es:List Expr} {pos:Pos} {mr:Rho->R (List W)}
theorem q_callX {k:Nat} {f:Addr} {fd:FuncData} {ps:List Str} {x:Str} {p:Pos} {n N:Nat} {m:Rho->R Fl} (F:FnOk X.prog X.w X.K X.mg X.base CX0 k f fd ps (spX K n (runX n N m))) (hr:Room k X.A) (hg:Gl X x) (hm:X.mg x=some (.ref f)) (hk:PySem.W.keepIn X.K (.ref f)=true) (hb:Binds X.K fd ps [])
  (ha:PA X (e::es) (tA K (fun _ _=>False) .V mr)) (hdb:(x == ("__debug__" : Str))=false:=by decide) (he:starEach (e::es) X.env=(false,eval e X.env)::starEach es X.env:=by rfl) (hpl:(backTo pos (starEach es X.env)).any (·.1)=false:=by rfl) :
  PE X (.Call (.Name x p) (e::es) [] pos) (tM K (fun _ _=>False) .V (bA (runX n N m) mr)):=
 (pe_call F hr hg hm hk hb .nil pass0 ha hdb he hpl).mono fun _ _ _ q=>c_callXV (fun ws h=>runX_len ws h) (fun _ _ z=>z) q
end
end TP
namespace TP
open PySem L2
section
variable {K:Frag} {EX:EXT} {X:Cx} {tg e:Expr} {ma:Rho->R W}
end
end TP
namespace TP
open PySem L2
def NoLst (H:Hp):Prop:=∀ a vs,H a≠some (.lst vs)
def OutN (K:Frag) (d:Mode) (Hb:Hp) (r:R Fl) (D:Ends):Prop:=match r with
 | .ok (.nx ρ)=>∀ H0 G' σ' H',Same Hb H0->PIv K H0 G' ρ σ' H'->D.nx σ' H'
 | .ok (.rt w)=>∀ v G' H',Same G' H'->Same Hb H'->(∀ a o,Hb a=some o->isL o=true->G' a=none)->Md K Hb Hb G' H' v w d->D.rt v H'
 | _=>False
def tStN (K:Frag) (EX:EXT) (d:Mode) (m:Rho->R Fl):TS:=fun D σ H=>∃ Hb H0 G ρ,NoLst Hb/\Same Hb H0/\PIv K H0 G ρ σ H/\OutN K d Hb (m ρ) D
section
variable {K:Frag} {EX:EXT} {Hb H0 G H G1 H1 G2 H2:Hp} {ρ:Rho} {σ:St} {d:Mode} {D:Ends}
theorem Md.down {G' H':Hp} {v:V} {w:W} (hd:d=.F\/d=.V) (s:Same Hb H0) (m:Md K H0 H0 G' H' v w d):Md K Hb Hb G' H' v w d:=by
 rcases hd with rfl | rfl
 ·cases w with
  | lst ws=>obtain ⟨a,vs,e,h1,h2,h3,r⟩:=m; exact ⟨a,vs,e,h1,h2,s.free h3,r⟩
  | _=>exact m
 ·exact m
theorem tStN.toS {m:Rho->R Fl} (hd:d=.F\/d=.V) (h:tStN K EX d m D σ H):tSt K EX d m D σ H:=by
 obtain ⟨Hb,H0,G,ρ,_,s,I,o⟩:=h
 refine ⟨H0,G,ρ,I,?_⟩
 revert o
 cases m ρ with
 | stuck=>exact fun o=>o.elim
 | ex e=>exact fun o=>o.elim
 | ok f=>
  cases f with
  | nx ρ'=>exact fun o G' σ' H' _ I'=>o H0 G' σ' H' s I'
  | bk ρ'=>exact fun o=>o.elim
  | ct ρ'=>exact fun o=>o.elim
  | rt w=>exact fun o v G' H' _ s1 s2 c md=>o v G' H' s1 (s.trans s2) (fun a o e l=>c a o (s a o e) l) (md.down hd s)
theorem c_seqN {m n:Rho->R Fl} (h:tStN K EX d (mSeq m n) D σ H):tSeq (tStN K EX d m) (tStN K EX d n) D σ H:=by
 obtain ⟨Hb,H0,G,ρ,nb,s,I,o⟩:=h
 refine ⟨Hb,H0,G,ρ,nb,s,I,?_⟩
 unfold mSeq at o
 revert o
 cases m ρ with
 | stuck=>exact id
 | ex e=>exact id
 | ok f=>
  cases f with
  | nx ρ'=>exact fun o H0' G' σ' H' s' I'=>⟨Hb,H0',G',ρ',nb,s',I',o⟩
  | _=>exact id
def spMN (K:Frag) (n:Nat) (d:Mode) (f:List W->R W):Sp:=fun vs H Q E=>vs.length=n/\NoLst H/\spM K n d f vs H Q E
theorem c_bodyN {n:Nat} {Nl:List Str} {m:Rho->R Fl} {vs:List V} {Q:VK} {E:XK} (h:spMN K n d (runB n Nl.length m) vs H Q E):tStN K (fun _ _=>False) d m { nx:=fun _ H'=>Q .non H',rt:=Q } (L2.start Nl vs) H:=by
 obtain ⟨_,nb,hl,ws,r,o⟩:=h
 have hw:ws.length=n:=by rw [<- r.length]; exact hl
 unfold runB at o
 rw [if_pos hw] at o
 refine ⟨H,H,noLH H,_,nb,Same.refl H,PIv.begin (k:=Nl.length-n) r (by rw [hl]),?_⟩
 revert o
 cases m (ws.map Sl.par++List.replicate (Nl.length-n) Sl.un) with
 | stuck=>exact id
 | ex e=>exact fun o=>(o H (Same.refl H)).elim
 | ok f=>
  cases f with
  | nx ρ'=>exact fun o H0' G' σ' H' s I'=>o .non G' H' (s.trans I'.hh) I'.gh (fun a o e l=>I'.gl a o (s a o e) l) (Md.sca rfl (fun _=>.non) d)
  | rt w=>exact fun o v G' H' s1 s2 c md=>o v G' H' s2 s1 c md
  | bk _=>exact fun o=>o.elim
  | ct _=>exact fun o=>o.elim
theorem PIv.put {i:Nat} {s:Sl} {o:Option V} (I:PIv K H0 G ρ σ H) (r:SlR K H0 G H s o) (no:∀ ws,s≠.own ws):PIv K H0 G (ρ.set i s) (σ.set i o) H where
 g0:=I.g0
 gl:=I.gl
 gh:=I.gh
 hh:=I.hh
 len:=by rw [List.length_set,List.length_set]; exact I.len
 sl k x u h1 h2:=by
  by_cases e:i=k
  ·subst e
   have hi:i<ρ.length:=by
    have:=(List.getElem?_eq_some_iff.mp h1).1
    rwa [List.length_set] at this
   rw [List.getElem?_set_self hi] at h1
   rw [List.getElem?_set_self (by rw [<- I.len]; exact hi)] at h2
   cases h1; cases h2; exact r
  ·rw [List.getElem?_set_ne e] at h1 h2
   exact I.sl k x u h1 h2
 ne p q ws us a hpq h1 h2 h3 h4:=by
  have key:∀ {k:Nat} {u:List W},(ρ.set i s)[k]?=some (.own u)->i≠k/\ρ[k]?=some (.own u):=fun {k u} hk=>by
   by_cases e:i=k
   ·subst e
    have hi:i<ρ.length:=by
     have:=(List.getElem?_eq_some_iff.mp hk).1
     rwa [List.length_set] at this
    rw [List.getElem?_set_self hi] at hk
    cases hk; exact absurd rfl (no u)
   ·exact ⟨e,by rwa [List.getElem?_set_ne e] at hk⟩
  obtain ⟨n1,k1⟩:=key h1
  obtain ⟨n2,k2⟩:=key h2
  rw [List.getElem?_set_ne n1] at h3
  rw [List.getElem?_set_ne n2] at h4
  exact I.ne p q ws us a hpq k1 k2 h3 h4
theorem noLG_no {a:Addr} {o:HO} (h:noLG G a=some o):isL o=false:=by
 unfold noLG at h
 cases q:G a with
 | none=>rw [q] at h; cases h
 | some u=>
  rw [q] at h
  dsimp only at h
  cases hl:isL u
  ·rw [hl] at h; cases h; exact hl
  ·rw [hl] at h; cases h
theorem noLG_of {a:Addr} {o:HO} (h:G a=some o) (hl:isL o=false):noLG G a=some o:=by
 unfold noLG; rw [h]; dsimp only; rw [hl]; rfl
theorem XD.noLG {od:Option Addr}:∀ {i:Option Int},XD G od i->XD (noLG G) od i
 | none,h=>h
 | some _,⟨d,h1,h2⟩=>⟨d,h1,noLG_of h2 rfl⟩
theorem Rep.noLG {v:V} {w:W} (r:Rep K G v w):noL w=true->Rep K (noLG G) v w:=
 @Rep.rec K G (fun v w _=>noL w=true->Rep K (TP.noLG G) v w) (fun vs ws _=>noLs ws=true->Reps K (TP.noLG G) vs ws) (fun _=>.non) (fun _=>.bl) (fun _=>.int) (fun _=>.str) (fun _=>.ty)
  (fun h _ r n=>.tup (noLG_of h rfl) (r n)) (fun _ _ _ n=>by cases n) (fun _ _ _ n=>by cases n) (fun h1 h2 h3 h4 h5 _=>.exc (noLG_of h1 rfl) h2 h3 h4 (XD.noLG h5)) (fun h _=>.cls h) (fun _=>.nil)
  (fun _ _ a b n=>by rw [noLs,Bool.and_eq_true] at n; exact .cons (a n.1) (b n.2)) v w r
theorem Reps.noLG {vs:List V} {ws:List W} (r:Reps K G vs ws):noLs ws=true->Reps K (noLG G) vs ws:=
 @Reps.rec K G (fun _ _ _=>True) (fun vs ws _=>noLs ws=true->Reps K (TP.noLG G) vs ws) trivial trivial trivial trivial trivial (fun _ _ _=>trivial) (fun _ _ _=>trivial) (fun _ _ _=>trivial) (fun _ _ _ _ _=>trivial) (fun _=>trivial) (fun _=>.nil)
  (fun h _ _ b n=>by rw [noLs,Bool.and_eq_true] at n; exact .cons (Rep.noLG h n.1) (b n.2)) vs ws r
end
theorem law_ofN {P:Program} {w:World} {K:Frag} {mg:Str->Option Value} {base:Heap} {k:Nat} {f:Addr} {fd:FuncData} {ps:List Str} {d:Mode} {F:List W->R W} (G:FnOk P w K mg base CX0 k f fd ps (spMN K 1 d F))
  (h:∀ ns:List Int,ns.length<=63->F [.scr (ns.map W.int)]=.ok (.bl true)):FnOk P w K mg base CX0 k f fd ps (fun vs H Q _=>∃ (a:Addr) (ns:List Int),vs = [.ref a]/\SqL K H a (ns.map V.int)/\ns.length<=63/\NoLst H/\∀ H',Q (.bl true) H'):=
 G.imp fun vs H Q E zz69=>by
  obtain ⟨a,ns,e,hs,hl,hb,q⟩:=zz69
  subst e
  refine ⟨rfl,hb,rfl,[.scr (ns.map W.int)],.cons (.scr hs ?_) .nil,?_⟩
  ·clear hs hl
   induction ns with
   | nil=>exact .nil
   | cons n ns ih=>exact .cons .int ih
  ·rw [h ns hl]
   intro v G' H' _ _ _ m
   have e:v=.bl true:=by
    cases d <;> first | (cases m; rfl) | (rcases m with m | ⟨_,_,_,_,z,_⟩ <;> first | (cases m; rfl) | cases z)
   subst e
   exact q H'
theorem noLst_of {H:Hp} (h:Only H):NoLst H:=fun a vs e=>by
 rcases h a with q | ⟨_,_,q⟩ <;> rw [q] at e <;> cases e
section
variable {X:Cx} {K:Frag} {EX:EXT} {d:Mode} {e:Expr} {es:List Expr} {pos:Pos} {ma:Rho->R W} {mr:Rho->R (List W)} {m n:Rho->R Fl} {ta:Rho->R Bool} {st:Stmt} {sts:List Stmt}
theorem q_n (h:PS X st (tSt K EX d m)) (hd:d=.F\/d=.V:=by first | exact .inl rfl | exact .inr rfl):PS X st (tStN K EX d m):=h.mono fun _ _ _ q=>q.toS hd
theorem q_consN (h1:PS X st (tStN K EX d m)) (h2:PSs X sts (tStN K EX d n)):PSs X (st::sts) (tStN K EX d (mSeq m n)):=(pss_cons h1 h2).mono fun _ _ _ q=>c_seqN q
theorem q_lastN (h1:PS X st (tStN K EX d m)):PSs X [st] (tStN K EX d m):=pss_one h1
end
end TP
namespace TP
open PySem L2
open PyProof.Rows (envOfC)
def XE1 (K:Frag) (E:XK):EXT:=fun e H=>∀ (C:Addr) (od:Option Addr),PySem.W.nsIn K mainGlobals e.cls=some (some (.ref C))->XD H od e.at_->E (.ref C) od H
def spR (K:Frag) (n:Nat) (d:Mode) (f:List W->R W):Sp:=fun vs H Q E=>vs.length=n/\∃ ws,Reps K H vs ws/\match f ws with
 | .ok w=>∀ v G' H',Same H H'->Same G' H'->(∀ a o,H a=some o->isL o=true->G' a=none)->Md K H H G' H' v w d->Q v H'
 | .ex e=>∀ H',Same H H'->XE1 K E e H'
 | .stuck=>False
def calm (f:List W->R W):List W->R W:=fun ws=>match f ws with
 | .ok w=>.ok w
 | _=>.stuck
section
variable {K:Frag} {EX:EXT} {H0 G H G1 H1 G2 H2:Hp} {ρ:Rho} {σ:St} {d:Mode} {D:Ends}
def flUn (j:Nat):Fl->R Fl
 | .nx ρ=>.ok (.nx (ρ.set j .un))
 | .bk ρ=>.ok (.bk (ρ.set j .un))
 | .ct ρ=>.ok (.ct (ρ.set j .un))
 | .rt w=>.ok (.rt w)
def mExc (c:Str) (j:Nat) (mb:Rho->R Fl) (e:XW) (ρ:Rho):R Fl:=if e.cls=c then mb (ρ.set j (.val (.exc e.cls e.at_)))>>=flUn j else .stuck
end
section
variable {X:Cx} {K:Frag} {EX:EXT} {d:Mode} {e:Expr} {es:List Expr} {pos:Pos} {ma:Rho->R W} {mr:Rho->R (List W)} {mb:Rho->R Fl}
end
section
variable {P:Program} {w:World} {K:Frag} {mg:Str->Option Value} {base:Heap} {N:List Str} {qual:Str} {scope:Scope} {f0:Addr} {cd:Value} {A:Around} {outer:List Env} {s0:Shared} {H0:Hp} {E:XK} {d:Mode} {e:Expr} {es:List Expr} {pos:Pos} {mr:Rho->R (List W)}
end
end TP
namespace TP
open PySem L2
def big8:Int:=2^2000
def CDivL (_ j:Int):Prop:=0<j/\j<big8
instance (i j:Int):Decidable (CDivL i j):=by unfold CDivL; infer_instance
def CDivZ (_ j:Int):Prop:=j≠0/\j.natAbs<2^8999
instance (i j:Int):Decidable (CDivZ i j):=by unfold CDivZ; infer_instance
def cModZ (_ j:Int):Prop:=j≠0
instance (i j:Int):Decidable (cModZ i j):=by unfold cModZ; infer_instance
section
variable {K:Frag} {EX:EXT} {H:Hp} {σ:St} {d:Mode} {D:Ends} {i j:Nat} {m:Rho->R (List W)}
end
end TP
namespace TP
open PySem L2
def dzI:List W->Option (List Int)
 | []=>some []
 | .int z::ws=>(dzI ws).map (z::·)
 | _::_=>none
theorem dzI_map:∀ zs:List Int,dzI (zs.map W.int)=some zs
 | []=>rfl
 | z::zs=>by show (dzI (zs.map W.int)).map (z::·)=_; rw [dzI_map zs]; rfl
theorem dzI_of:∀ {ws:List W} {zs:List Int},dzI ws=some zs->ws=zs.map W.int
 | [],zs,h=>by cases h; rfl
 | w::ws,zs,h=>by
  cases w <;> first | cases h | skip
  rename_i z
  have h:(dzI ws).map (z::·)=some zs:=h
  cases q:dzI ws with
  | none=>rw [q] at h; cases h
  | some us=>rw [q] at h; cases h; rw [dzI_of q]; rfl
section
variable {K:Frag} {EX:EXT} {Hb H0 G H:Hp} {ρ:Rho} {σ:St} {d:Mode} {D:Ends}
theorem PIv.at_ {i:Nat} {s:Sl} (I:PIv K H0 G ρ σ H) (e:ρ[i]?=some s):∃ o,σ[i]?=some o/\SlR K H0 G H s o:=by
 have hi:i<σ.length:=by rw [<- I.len]; exact (List.getElem?_eq_some_iff.mp e).1
 have es:σ[i]?=some σ[i]:=by simp
 exact ⟨_,es,I.sl i _ _ e es⟩
theorem set_back {α:Type} {l:List α} {i:Nat} {x:α} (h:l[i]?=some x):l.set i x=l:=by
 apply List.ext_getElem?
 intro k
 by_cases hk:i=k
 ·subst hk; rw [List.getElem?_set_self (List.getElem?_eq_some_iff.mp h).1,h]
 ·rw [List.getElem?_set_ne hk]
def mDz1 (i:Nat) (m:Rho->R Fl):Rho->R Fl:=fun ρ=>m ρ>>=fun f=>match f with
 | .nx ρ'=>(match ρ'[i]? with
  | some (.val (.lst [.lst ws]))=>(match dzI ws with
   | some zs=>.ok (.nx (ρ'.set i (.dz [zs])))
   | none=>.stuck)
  | _=>.stuck)
 | _=>.stuck
theorem c_dz1 {i:Nat} {m:Rho->R Fl} (h:tSt K EX d (mDz1 i m) D σ H):tSt K EX d m D σ H:=by
 obtain ⟨H0,G,ρ,I,o⟩:=h
 refine ⟨H0,G,ρ,I,?_⟩
 unfold mDz1 at o
 revert o
 cases m ρ with
 | stuck=>exact id
 | ex e=>exact id
 | ok f=>
  cases f with
  | bk _=>exact fun o=>o.elim
  | ct _=>exact fun o=>o.elim
  | rt _=>exact fun o=>o.elim
  | nx ρ'=>
   intro o G' σ' H' s I'
   rw [R.ok_bind] at o
   dsimp only at o
   split at o
   ·rename_i ws e
    split at o
    ·rename_i zs ez
     obtain rfl:=dzI_of ez
     obtain ⟨u,es,v,ev,r⟩:=I'.at_ e
     obtain ⟨a,vs,rfl,ga,ra⟩:=r.inv
     obtain ⟨v1,vs1,rfl,r1,rn⟩:=ra.inv
     have rn:vs1 = []:=rn.inv
     subst rn
     obtain ⟨a1,us,rfl,g1,r2⟩:=r1.inv
     have I2:=I'.put (i:=i) (s:=.dz [zs]) (o:=some (.ref a)) ⟨a,[a1],rfl,ga,by simp,.cons (.lst g1 r2) .nil⟩ fun _ e=>by cases e
     rw [ev] at es
     rw [set_back es] at I2
     exact o G' σ' H' s I2
    ·exact o.elim
   ·exact o.elim
def mDz2 (i:Nat) (m1 m2:Rho->R W):Rho->R Fl:=fun ρ=>match ρ[i]? with
 | some (.dz zs)=>m1 ρ>>=fun w1=>match w1 with
  | .lst u1=>(match dzI u1 with
   | some z1=>m2 ρ>>=fun w2=>(match w2 with
    | .lst u2=>(match dzI u2 with
     | some z2=>if zs.length<900 then .ok (.nx (ρ.set i (.dz (zs ++ [z1,z2])))) else .stuck
     | none=>.stuck)
    | _=>.stuck)
   | none=>.stuck)
  | _=>.stuck
 | _=>.stuck
theorem Reps.len_map {K:Frag} {F:Hp} {as:List Addr} {zs:List (List Int)} (r:Reps K F (as.map V.ref) (zs.map rowI)):as.length=zs.length:=by
 have:=r.length
 simpa using this
theorem Reps.row {K:Frag} {F:Hp} {as:List Addr} {zs:List (List Int)} (r:Reps K F (as.map V.ref) (zs.map rowI)) {a:Addr} (h:a∈as):∃ vs,F a=some (.lst vs):=by
 obtain ⟨k,hk,e⟩:=List.mem_iff_getElem.mp h
 have e1:(as.map V.ref)[k]?=some (.ref a):=by rw [List.getElem?_map,List.getElem?_eq_getElem hk,e]; rfl
 obtain ⟨w,ew,rw_⟩:=r.get' e1
 rw [List.getElem?_map] at ew
 obtain ⟨z,_,rfl⟩:=Option.map_eq_some_iff.mp ew
 obtain ⟨b,vs,eb,hb,_⟩:=rw_.inv
 cases eb
 exact ⟨vs,hb⟩
theorem c_dz2 {i:Nat} {m1 m2:Rho->R W} (h:tSt K EX d (mDz2 i m1 m2) D σ H):tAsg (tOp rCat (tVar i) (tLst (tCons (tM K EX .F m1) (tCons (tM K EX .F m2) tNil)))) (gName i) D σ H:=by
 obtain ⟨H0,G,ρ,I,o⟩:=h
 unfold mDz2 at o
 split at o
 ·rename_i zs e
  obtain ⟨_,es,a,as,rfl,ga,nd,r⟩:=I.at_ e
  refine ⟨.ref a,es,H0,G,ρ,I,OutS.bind I o fun x1 G1 H1 w1 e1 md1 o1=>?_⟩
  cases w1 <;> first | exact o1.elim | skip
  rename_i u1
  dsimp only at o1
  split at o1
  ·rename_i z1 q1
   obtain rfl:=dzI_of q1
   obtain ⟨a1,vs1,rfl,h1,g1,f1,r1⟩:=md1
   have s1:Same G1 (upd G1 a1 (.lst vs1)):=fun b o q=>by rw [upd_ne (ne_of_none q g1)]; exact q
   have e1':Ext G H (upd G1 a1 (.lst vs1)) H1:=⟨e1.gg.trans s1,e1.hh,fun b o q=>by
    by_cases hb:b=a1
    ·subst hb; rw [upd_at] at q; cases q; exact h1
    ·rw [upd_ne hb] at q; exact e1.gh b o q,fun b o hb hl g=>by
    rw [upd_ne (fun z=>by rw [z,f1] at hb; cases hb)]; exact e1.keep b o hb hl g⟩
   have I1:=I.ext e1'
   refine ⟨H0,upd G1 a1 (.lst vs1),ρ,I1,OutS.bind I1 (OutS.move s1 o1) fun x2 G2 H2 w2 e2 md2 o2=>?_⟩
   cases w2 <;> first | exact o2.elim | skip
   rename_i u2
   dsimp only at o2
   split at o2
   ·rename_i z2 q2
    obtain rfl:=dzI_of q2
    obtain ⟨a2,vs2,rfl,h2,g2,f2,r2⟩:=md2
    by_cases hl:zs.length<900
    ·rw [if_pos hl] at o2
     have hal:=Reps.len_map r
     refine ⟨show 2<=sizeLine by decide,fun p hp=>⟨a,p,as.map V.ref,[.ref a1,.ref a2],rfl,rfl,?_,upd_at ..,by simp; exact Nat.le_trans (by omega:as.length+2<=1000) (by decide),fun q hq=>?_⟩⟩
     ·have:=e2.hh a _ (e1.hh a _ (I.gh a _ ga))
      rw [upd_ne (ne_of_none this hp)]; exact this
     ·have hqp:q≠p:=by rintro rfl; rw [upd_at] at hq; cases hq
      rw [upd_ne hqp] at hq
      have ga1:G2 a1=some (.lst vs1):=e2.gg a1 _ (upd_at ..)
      have gq:G2 q=none:=e2.gh.free hq
      have hq2:q≠a2:=by rintro rfl; rw [h2] at hq; cases hq
      have s2:Same G2 (upd (upd G2 a2 (.lst vs2)) q (.lst ((as ++ [a1,a2]).map V.ref))):=fun b o z=>by
       rw [upd_ne (ne_of_none z gq),upd_ne (ne_of_none z g2)]; exact z
      have sH:Same H2 (upd (upd H2 p (.lst [.ref a1,.ref a2])) q (.lst ((as ++ [a1,a2]).map V.ref))):=fun b o z=>by
       rw [upd_ne (ne_of_none z hq),upd_ne (ne_of_none z hp)]; exact z
      have e3:Ext G H (upd (upd G2 a2 (.lst vs2)) q (.lst ((as ++ [a1,a2]).map V.ref))) (upd (upd H2 p (.lst [.ref a1,.ref a2])) q (.lst ((as ++ [a1,a2]).map V.ref))):=⟨(e1'.gg.trans e2.gg).trans s2,(e1.hh.trans e2.hh).trans sH,fun b o z=>by
       by_cases hb:b=q
       ·subst hb; rw [upd_at] at z ⊢; exact z
       ·rw [upd_ne hb] at z ⊢
        by_cases hb2:b=a2
        ·subst hb2
         rw [upd_at] at z; cases z
         rw [upd_ne (ne_of_none h2 hp)]; exact h2
        ·rw [upd_ne hb2] at z
         have:=e2.gh b o z
         rw [upd_ne (ne_of_none this hp)]; exact this,fun b o hb hl g=>by
       have hb1:=e1.hh b o hb
       have hb2:=e2.hh b o hb1
       rw [upd_ne (ne_of_none hb2 hq),upd_ne (ne_of_none hb1 f2)]
       exact e2.keep b o hb1 hl (e1'.keep b o hb hl g)⟩
      have I3:=(I.ext e3).put (i:=i) (s:=.dz (zs ++ [z1,z2])) (o:=some (.ref q)) ⟨q,as ++ [a1,a2],rfl,upd_at ..,?_,?_⟩ fun _ e=>by cases e
      ·have eM:as.map V.ref ++ [V.ref a1,V.ref a2]=(as ++ [a1,a2]).map V.ref:=by simp
       show D.nx (σ.set i (some (.ref q))) (upd (upd H2 p (.lst [.ref a1,.ref a2])) q (.lst (as.map V.ref ++ [V.ref a1,V.ref a2])))
       rw [eM]
       exact o2 _ _ _ s2 I3
      ·rw [List.nodup_append]
       refine ⟨nd,?_,fun x hx y hy=>?_⟩
       ·have:a1≠a2:=by rintro rfl; rw [h1] at f2; cases f2
        simp [this]
       ·rintro rfl
        obtain ⟨vs,hg⟩:=Reps.row r hx
        have hH:=I.gh x _ hg
        rcases List.mem_cons.mp hy with rfl | hy
        ·rw [f1] at hH; cases hH
        ·have:x=a2:=by simpa using hy
         subst this
         rw [e1.hh x _ hH] at f2; cases f2
      ·have sA:Same G (upd (upd G2 a2 (.lst vs2)) q (.lst ((as ++ [a1,a2]).map V.ref))):=e3.gg
       have rr:=(r.same sA).append (.cons (.lst (s2 a1 _ ga1) (r1.same ((s1.trans e2.gg).trans s2))) (.cons (.lst (show upd (upd G2 a2 (.lst vs2)) q (.lst ((as ++ [a1,a2]).map V.ref)) a2=some (.lst vs2) by rw [upd_ne (Ne.symm hq2),upd_at]) (r2.same s2)) .nil))
       have m1:as.map V.ref ++ [V.ref a1,V.ref a2]=(as ++ [a1,a2]).map V.ref:=by simp
       have m2:zs.map rowI ++ [rowI z1,rowI z2]=(zs ++ [z1,z2]).map rowI:=by simp
       rw [<- m2]
       exact (congrArg (fun l=>Reps K _ l _) m1).mp rr
    ·rw [if_neg hl] at o2; exact o2.elim
   ·exact o2.elim
  ·exact o1.elim
 ·exact o.elim
end
end TP
namespace TP
open PySem L2
section
variable {K:Frag} {EX:EXT} {Hb H0 G H G' H':Hp} {ρ:Rho} {σ:St} {d:Mode} {D:Ends}
theorem PIv.flip (I:PIv K H0 G ρ σ H) (s1:Same (noLG G) G') (s2:Same G' H') (hn:∀ b,G b=none->G' b=none) (hH:∀ b,(∀ vs,G b≠some (.lst vs))->H' b=H b):PIv K H0 G' (ρ.map clS) σ H':=by
 have hnone:∀ b,G b=none->H' b=H b:=fun b e=>hH b fun vs z=>by rw [e] at z; cases z
 have hnl:∀ {b:Addr} {o:HO},G b=some o->isL o=false->H' b=H b:=fun {b o} e l=>hH b fun vs z=>by rw [e] at z; cases z; cases l
 refine ⟨fun a o e l=>s1 a o (noLG_of (I.g0 a o e l) l),fun a o e l=>hn a (I.gl a o e l),s2,fun a o e=>?_,by rw [List.length_map]; exact I.len,fun k x o h1 h2=>?_,fun x y u1 u2 c hab h1 h2 h3 h4=>?_⟩
 ·cases l:isL o with
  | true=>rw [hnone a (I.gl a o e l)]; exact I.hh a o e
  | false=>rw [hnl (I.g0 a o e l) l]; exact I.hh a o e
 ·rw [List.getElem?_map] at h1
  obtain ⟨s,hs,rfl⟩:=Option.map_eq_some_iff.mp h1
  have old:=I.sl k s o hs h2
  cases s with
  | un=>trivial
  | val w=>
   rw [clS]
   by_cases c:noL w=true
   ·rw [if_pos c]
    obtain ⟨v,ev,r⟩:=old
    exact ⟨v,ev,(Rep.noLG r c).same s1⟩
   ·rw [if_neg c]; trivial
  | par w=>
   rw [clS]
   by_cases c:noL w=true
   ·rw [if_pos c]
    obtain ⟨v,ev,r⟩:=old
    exact ⟨v,ev,(Rep.noLG (Rep.clean I r c) c).same s1⟩
   ·rw [if_neg c]; trivial
  | own ws=>
   rw [clS]
   by_cases c:noLs ws=true
   ·rw [if_pos c]
    obtain ⟨b,us',eb,hb,hgb,h0b,rb⟩:=old
    exact ⟨b,us',eb,by rw [hnone b hgb]; exact hb,hn b hgb,h0b,(Reps.noLG rb c).same s1⟩
   ·rw [if_neg c]; trivial
  | dic ks=>obtain ⟨b,us',eb,hb,hgb,h0b,rb⟩:=old; exact ⟨b,us',eb,by rw [hnone b hgb]; exact hb,hn b hgb,h0b,rb⟩
  | dik ks=>obtain ⟨b,us',eb,hb,hgb,h0b,rb⟩:=old; exact ⟨b,us',eb,by rw [hnone b hgb]; exact hb,hn b hgb,h0b,rb⟩
  | iop p ws=>
   rw [clS]
   by_cases c:noLs ws=true
   ·rw [if_pos c]
    obtain ⟨ev,vs1,h1',r1⟩:=old
    exact ⟨ev,vs1,h1',(Reps.noLG r1 c).same s1⟩
   ·rw [if_neg c]; trivial
  | hz _=>trivial
  | dz _=>trivial
 ·have key:∀ {k:Nat} {u:List W},(ρ.map clS)[k]?=some (.own u)->ρ[k]?=some (.own u):=fun {k u} hk=>by
   rw [List.getElem?_map] at hk
   obtain ⟨s,hs,h⟩:=Option.map_eq_some_iff.mp hk
   rw [hs,clS_own h]
  exact I.ne x y u1 u2 c hab (key h1) (key h2) h3 h4
def flI (c z:Int) (zs:List Int):Option (List Int):=(ixN zs.length z).map fun q=>zs.set q (c-zs.getD q 0)
def flA (c z:Int):List (List Int)->Option (List (List Int))
 | []=>some []
 | zs::r=>(flI c z zs).bind fun u=>(flA c z r).map (u::·)
def flV (c z:Int) (vs:List V):List V:=match ixN vs.length z with
 | some q=>(match vs[q]? with
  | some (.int v)=>vs.set q (.int (c-v))
  | _=>vs)
 | none=>vs
def flO (c z:Int):HO->HO
 | .lst vs=>.lst (flV c z vs)
 | o=>o
def flH (c z:Int) (as:List Addr) (H:Hp):Hp:=fun b=>if b∈as then (H b).map (flO c z) else H b
theorem Reps.dzints {F:Hp}:∀ {vs:List V} {zs:List Int},Reps K F vs (zs.map W.int)->vs=zs.map V.int
 | vs,[],r=>by have:vs = []:=r.inv; exact this
 | vs,z::zs,r=>by
  obtain ⟨v,us,rfl,r1,r2⟩:=r.inv
  have:v=.int z:=r1.inv
  rw [this,Reps.dzints r2]; rfl
theorem flV_ints {c z:Int} {zs us:List Int} (h:flI c z zs=some us):∃ q,ixN (zs.map V.int).length z=some q/\(zs.map V.int)[q]?=some (V.int (zs.getD q 0))/\flV c z (zs.map V.int)=(zs.map V.int).set q (.int (c-zs.getD q 0))/\us.map V.int=(zs.map V.int).set q (.int (c-zs.getD q 0)):=by
 unfold flI at h
 cases q:ixN zs.length z with
 | none=>rw [q] at h; cases h
 | some k=>
  rw [q] at h
  cases h
  have hk:=(ixN_seq q).2.1
  have e1:ixN (zs.map V.int).length z=some k:=by rw [List.length_map]; exact q
  have e2:(zs.map V.int)[k]?=some (V.int (zs.getD k 0)):=by rw [List.getElem?_map,List.getD_eq_getElem?_getD,List.getElem?_eq_getElem hk]; rfl
  refine ⟨k,e1,e2,?_,by rw [List.map_set]⟩
  unfold flV
  rw [e1]
  dsimp only
  rw [e2]
theorem flA_at {c z:Int}:∀ {zs us:List (List Int)},flA c z zs=some us->us.length=zs.length/\∀ (k:Nat) (y:List Int),zs[k]?=some y->∃ u,us[k]?=some u/\flI c z y=some u
 | [],us,h=>by cases h; exact ⟨rfl,fun k y e=>by cases e⟩
 | y::zs,us,h=>by
  unfold flA at h
  cases q:flI c z y with
  | none=>rw [q] at h; cases h
  | some u=>
   rw [q] at h
   have h:(flA c z zs).map (u::·)=some us:=h
   cases q2:flA c z zs with
   | none=>rw [q2] at h; cases h
   | some r=>
    rw [q2] at h
    cases h
    obtain ⟨i1,i2⟩:=flA_at q2
    refine ⟨by simp [i1],fun k y' e=>?_⟩
    cases k with
    | zero=>cases e; exact ⟨u,rfl,q⟩
    | succ k=>exact i2 k y' e
def mFlip (i r x n:Nat) (j c:Int):Rho->R Fl:=fun ρ=>match ρ[i]?,ρ[x]?,ρ[n]? with
 | some (.dz zs),some (.own xw),some (.val (.int nv))=>(match atI xw j with
  | some (.int y)=>if 0<nv/\r<ρ.length/\r≠i/\r≠x/\r≠n then (match flA c (y%nv) zs with
   | some us=>.ok (.nx (((ρ.map clS).set r .un).set i (.dz us)))
   | none=>.stuck) else .stuck
  | _=>.stuck)
 | _,_,_=>.stuck
abbrev tIdx (K:Frag) (x n:Nat) (j:Int):TE:=tOp (rI (fun _ j=>0<j) fun i j=>.int (i%j)) (tOp (rIx K) (tVar x) (tC (.int j))) (tVar n)
theorem Reps.dzat {F:Hp} {vs:List V} {ws:List W} {j:Int} {w:W} (r:Reps K F vs ws) (h:L2.atI ws j=some w):∃ v,L2.atI vs j=some v/\Rep K F v w:=by
 unfold L2.atI at h ⊢
 rw [r.length]
 cases q:ixN ws.length j with
 | none=>rw [q] at h; cases h
 | some k=>rw [q] at h; exact r.get h
theorem c_flip {i r x n:Nat} {j c:Int} (h:tStN K EX d (mFlip i r x n j c) D σ H) :
  tFor (iSq K (tVar i)) (gName r) (tAsg (tOp (rI0 fun i j=>.int (i-j)) (tC (.int c)) (tOp (rIx K) (tVar r) (tIdx K x n j))) (L2.gSub (tVar r) (tIdx K x n j) rSetL)) D σ H:=by
 obtain ⟨Hb,H0,G,ρ,nb,sb,I,o⟩:=h
 unfold mFlip at o
 split at o
 ·rename_i zs xw nv ei ex en
  split at o
  ·rename_i y ey
   split at o
   ·rename_i hc
    obtain ⟨hnv,hr,hri,hrx,hrn⟩:=hc
    split at o
    ·rename_i us hus
     obtain ⟨_,si,a,as,rfl,ga,nd,ra⟩:=I.at_ ei
     obtain ⟨_,sx,ax,vx,rfl,hx,gx,_,rx⟩:=I.at_ ex
     obtain ⟨_,sn,vn,rfl,rn⟩:=I.at_ en
     have rn:vn=.int nv:=rn.inv
     subst rn
     obtain ⟨vy,ay,ry⟩:=Reps.dzat rx ey
     have ry:vy=.int y:=ry.inv
     subst ry
     have hlen:=Reps.len_map ra
     obtain ⟨hul,hua⟩:=flA_at hus
     have hrs:r<σ.length:=by rw [<- I.len]; exact hr
     -- the rows
     have row:∀ k,(hk:k<as.length)->∃ zk uk,zs[k]?=some zk/\us[k]?=some uk/\flI c (y%nv) zk=some uk/\G as[k]=some (.lst (zk.map V.int)):=fun k hk=>by
      have e1:(as.map V.ref)[k]?=some (.ref as[k]):=by rw [List.getElem?_map,List.getElem?_eq_getElem hk]; rfl
      obtain ⟨w,ew,rw_⟩:=ra.get' e1
      rw [List.getElem?_map] at ew
      obtain ⟨zk,hz,rfl⟩:=Option.map_eq_some_iff.mp ew
      obtain ⟨uk,hu,hf⟩:=hua k zk hz
      obtain ⟨b,vs,eb,hb,rv⟩:=rw_.inv
      cases eb
      exact ⟨zk,uk,hz,hu,hf,by rw [hb,Reps.dzints rv]⟩
     have aNot:a∉as:=fun hm=>by
      obtain ⟨k,hk,ek⟩:=List.mem_iff_getElem.mp hm
      obtain ⟨zk,uk,hz,hu,hf,hg⟩:=row k hk
      rw [ek,ga] at hg
      have hg:as.map V.ref=zk.map V.int:=HO.lst.inj (Option.some.inj hg)
      have l:=congrArg (fun l=>l[k]?) hg
      simp only [List.getElem?_map,List.getElem?_eq_getElem hk] at l
      cases q:zk[k]? with
      | none=>rw [q] at l; cases l
      | some v=>rw [q] at l; cases l
     have xNot:ax∉as:=fun hm=>by
      obtain ⟨vs,hv⟩:=Reps.row ra hm
      rw [gx] at hv; cases hv
     have Ha:H a=some (.lst (as.map V.ref)):=I.gh a _ ga
     have atK:∀ k b,b∉as->flH c (y%nv) (as.take k) H b=H b:=fun k b hb=>by
      unfold flH; rw [if_neg fun z=>hb (List.mem_of_mem_take z)]
     have idx:∀ (k:Nat) (σ':St) (Q:VK),σ'[x]?=some (some (.ref ax))->σ'[n]?=some (some (.int nv))->Q (.int (y%nv)) (flH c (y%nv) (as.take k) H)->tIdx K x n j σ' (flH c (y%nv) (as.take k) H) Q:=fun k σ' Q q1 q2 q3=>
      ⟨_,q1,.inl ⟨ax,vx,j,.int y,rfl,rfl,SqL.of (by rw [atK k ax xNot]; exact hx),ay,_,q2,y,nv,rfl,rfl,hnv,q3⟩⟩
     refine ⟨.ref a,si,a,rfl,false,as.map V.ref,?_,fun k m σ' H'=>m=as.length-k/\k<=as.length/\H'=flH c (y%nv) (as.take k) H/\∃ u,σ'=σ.set r u,⟨_,rfl,Nat.zero_le _,?_,σ[r],by simp⟩,?_⟩
     ·show Sq K H false a (as.map V.ref)
      unfold Sq
      rw [if_neg (by decide)]
      exact SqL.of Ha
     ·funext b
      unfold flH
      rw [List.take_zero,if_neg (by simp)]
     rintro k m σ' H' ⟨rfl,hk,rfl,u,rfl⟩
     have Hk:flH c (y%nv) (as.take k) H a=some (.lst (as.map V.ref)):=by rw [atK k a aNot]; exact Ha
     show (∃ xs,SqL K _ a xs/\xs.length<=k)/\_\/(∃ xs x,SqL K _ a xs/\xs[k]?=some x)/\_
     by_cases hlt:k<as.length
     ·refine .inr ⟨⟨as.map V.ref,.ref as[k],SqL.of Hk,by rw [List.getElem?_map,List.getElem?_eq_getElem hlt]; rfl⟩,fun σ2 H2=>H2=flH c (y%nv) (as.take (k+1)) H/\∃ u,σ2=σ.set r u,fun σ2 H2 zz70=>by obtain ⟨q1,q2⟩:=zz70; exact ⟨as.length-(k+1),by omega,rfl,hlt,q1,q2⟩,?_⟩
      rintro x' H2 ⟨rfl,hy⟩
      have hx':x'=.ref as[k]:=by
       have:=hy _ (SqL.of Hk)
       rw [List.getElem?_map,List.getElem?_eq_getElem hlt] at this
       exact (Option.some.inj this).symm
      subst hx'
      obtain ⟨zk,uk,hz,hu,hf,hg⟩:=row k hlt
      obtain ⟨q,q1,q2,q3,q4⟩:=flV_ints hf
      have kNot:as[k]∉as.take k:=fun hm=>by
       obtain ⟨k',hk',ek⟩:=List.mem_iff_getElem.mp hm
       rw [List.length_take] at hk'
       rw [List.getElem_take] at ek
       exact (List.pairwise_iff_getElem.mp nd) k' k (by omega) hlt (by omega) ek
      have hrow:flH c (y%nv) (as.take k) H as[k]=some (.lst (zk.map V.int)):=by
       unfold flH; rw [if_neg kNot]; exact I.gh _ _ hg
      show tAsg _ _ _ ((σ.set r u).set r (some (.ref as[k]))) _
      rw [List.set_set]
      have g1:(σ.set r (some (V.ref as[k])))[r]?=some (some (.ref as[k])):=List.getElem?_set_self hrs
      have g2:(σ.set r (some (V.ref as[k])))[x]?=some (some (.ref ax)):=by rw [List.getElem?_set_ne hrx]; exact sx
      have g3:(σ.set r (some (V.ref as[k])))[n]?=some (some (.int nv)):=by rw [List.getElem?_set_ne hrn]; exact sn
      refine ⟨.ref as[k],g1,idx k _ _ g2 g3 (.inl ⟨as[k],zk.map V.int,y%nv,.int (zk.getD q 0),rfl,rfl,SqL.of hrow,by unfold L2.atI; rw [q1]; exact q2,c,zk.getD q 0,rfl,rfl,?_⟩)⟩
      refine ⟨.ref as[k],g1,idx k _ _ g2 g3 ⟨as[k],zk.map V.int,y%nv,q,rfl,rfl,hrow,q1,?_,_,rfl⟩⟩
      have etk:as.take (k+1)=as.take k ++ [as[k]]:=by rw [List.take_succ,List.getElem?_eq_getElem hlt]; rfl
      funext b
      unfold flH
      by_cases hb:b=as[k]
      ·subst hb
       rw [upd_at,if_pos (by rw [etk]; exact List.mem_append.mpr (.inr List.mem_cons_self)),I.gh _ _ hg]
       show _=some (HO.lst (flV c (y%nv) (zk.map V.int)))
       rw [q3]
      ·rw [upd_ne hb]
       have hiff:b∈as.take (k+1)↔b∈as.take k:=by
        rw [etk,List.mem_append,List.mem_singleton]
        exact ⟨fun h=>h.elim id fun z=>absurd z hb,.inl⟩
       by_cases hm:b∈as.take k
       ·rw [if_pos hm,if_pos (hiff.mpr hm)]
       ·rw [if_neg hm,if_neg fun z=>hm (hiff.mp z)]
     ·have hk:k=as.length:=by omega
      subst hk
      refine .inl ⟨⟨as.map V.ref,SqL.of Hk,by simp⟩,?_⟩
      rw [List.take_length] at Hk ⊢
      -- what is kept now
      obtain ⟨G',hG'⟩:∃ G':Hp,G'=fun b=>if b=a\/b∈as then flH c (y%nv) as H b else noLG G b:=⟨_,rfl⟩
      have gas:∀ b,(b=a\/b∈as)->∃ vs,G b=some (.lst vs):=fun b hb=>by
       rcases hb with rfl | hb
       ·exact ⟨_,ga⟩
       ·exact Reps.row ra hb
      have hH:∀ b,(∀ vs,G b≠some (.lst vs))->flH c (y%nv) as H b=H b:=fun b hb=>by
       unfold flH
       rw [if_neg fun hm=>by obtain ⟨vs,e⟩:=Reps.row ra hm; exact hb vs e]
      have I1:PIv K H0 G' (ρ.map clS) σ (flH c (y%nv) as H):=I.flip (fun b o e=>by
       rw [hG']
       dsimp only
       rw [if_neg fun hb=>by obtain ⟨vs,q⟩:=gas b hb; have:=noLG_no e; rw [noLG_sub b o e] at q; cases q; cases this]; exact e) (fun b o e=>by
       rw [hG'] at e
       dsimp only at e
       by_cases hb:b=a\/b∈as
       ·rw [if_pos hb] at e; exact e
       ·rw [if_neg hb] at e
        have hl:=noLG_no e
        have hg:=noLG_sub b o e
        rw [hH b fun vs z=>by rw [z] at hg; cases hg; cases hl]
        exact I.gh b o hg) (fun b e=>by
       rw [hG']
       dsimp only
       rw [if_neg fun hb=>by obtain ⟨vs,q⟩:=gas b hb; rw [e] at q; cases q]
       unfold noLG; rw [e]) hH
      have hrm:r<(ρ.map clS).length:=by rw [List.length_map]; exact hr
      have I2:=I1.put (i:=r) (s:=.un) (o:=u) trivial fun _ e=>by cases e
      have I3:=I2.put (i:=i) (s:=.dz us) (o:=some (.ref a)) ⟨a,as,rfl,?_,nd,?_⟩ fun _ e=>by cases e
      ·have eS:(σ.set r u).set i (some (V.ref a))=σ.set r u:=set_back (by rw [List.getElem?_set_ne hri]; exact si)
       rw [eS] at I3
       exact o _ _ _ _ sb I3
      ·rw [hG']; dsimp only; rw [if_pos (.inl rfl)]; exact Hk
      ·-- the rows as they stand now
       have key:∀ k,k<=as.length->Reps K G' ((as.drop k).map V.ref) ((us.drop k).map rowI):=fun k hk=>by
        induction hd:as.length-k generalizing k with
        | zero=>
         rw [List.drop_eq_nil_of_le (by omega),List.drop_eq_nil_of_le (by omega)]; exact .nil
        | succ e ih=>
         have hlt2:k<as.length:=by omega
         obtain ⟨zk,uk,hz,hu,hf,hg⟩:=row k hlt2
         obtain ⟨q,q1,q2,q3,q4⟩:=flV_ints hf
         rw [List.drop_eq_getElem_cons hlt2,List.drop_eq_getElem_cons (show k<us.length by omega)]
         have euk:us[k]'(by omega)=uk:=by rw [List.getElem?_eq_getElem (show k<us.length by omega)] at hu; exact Option.some.inj hu
         rw [List.map_cons,List.map_cons,euk]
         refine .cons (.lst (vs:=uk.map V.int) ?_ ?_) (ih (k+1) hlt2 (by omega))
         ·rw [hG']
          dsimp only
          rw [if_pos (.inr (List.getElem_mem hlt2))]
          unfold flH
          rw [if_pos (List.getElem_mem hlt2),I.gh _ _ hg]
          show some (HO.lst (flV c (y%nv) (zk.map V.int)))=_
          rw [q3,q4]
         ·have:∀ l:List Int,Reps K G' (l.map V.int) (l.map W.int):=fun l=>by
           induction l with
           | nil=>exact .nil
           | cons z l ih=>exact .cons .int ih
          exact this uk
       have:=key 0 (Nat.zero_le _)
       rw [List.drop_zero,List.drop_zero] at this
       exact this
    ·exact o.elim
   ·exact o.elim
  ·exact o.elim
 ·exact o.elim
end
end TP
namespace TP
open PySem L2
section
variable {X:Cx} {K:Frag} {EX:EXT} {d:Mode} {e1 e2:Expr} {pos:Pos} {m1 m2:Rho->R W} {m:Rho->R Fl} {st:Stmt}
theorem q_dz1 {i:Nat} (h:PS X st (tSt K EX d m)):PS X st (tSt K EX d (mDz1 i m)):=h.mono fun _ _ _ q=>c_dz1 q
theorem q_dz2 {i:Nat} {y:Str} {p p' lp bp:Pos} (hN:X.N.Nodup) (hi:X.N[i]?=some y) (hy:Loc X.env.scope y) (hv:Vis X.env.scope y) (h1:PE X e1 (tM K EX .F m1)) (h2:PE X e2 (tM K EX .F m2))
  (hd:(y == ("__debug__" : Str))=false:=by decide) (hcd:(y == ("__classdict__" : Str))=false:=by decide) (hs1:starEach [e1,e2] X.env=(false,eval e1 X.env)::starEach [e2] X.env:=by rfl) (hs2:starEach [e2] X.env=(false,eval e2 X.env)::starEach [] X.env:=by rfl)
  (hs:swapsWith (.BinOp (.Name y p) .Add (.List [e1,e2] lp) bp) (some (.Name y p')) pos.line X.env=pure false:=by rfl) (hf:X.fn y=true\/X.env.scope.names.lookup y=some .local:=by first | exact .inl rfl | exact .inr rfl | assumption) :
  PS X (.Assign [.Name y p'] (.BinOp (.Name y p) .Add (.List [e1,e2] lp) bp) pos) (tSt K EX d (mDz2 i m1 m2)):=
 (ps_set hN hi hy (pe_op op_cat (pe_var hi hv hd hcd) (pe_lst (pa_cons h1 (pa_cons h2 pa_nil hs2) hs1))) hs hf).mono fun _ _ _ q=>c_dz2 q
theorem pe_idx {x n:Nat} {j:Int} {yx yn:Str} {t1:Nat} {p1 p2 p3 p4:Pos} (hx:X.N[x]?=some yx) (vx:Vis X.env.scope yx) (hn:X.N[n]?=some yn) (vn:Vis X.env.scope yn) (hK:X.K=K:=by rfl)
  (d1:(yx == ("__debug__" : Str))=false:=by decide) (d2:(yx == ("__classdict__" : Str))=false:=by decide) (d3:(yn == ("__debug__" : Str))=false:=by decide) (d4:(yn == ("__classdict__" : Str))=false:=by decide) (h2:PlainIx (.Constant (.int j) t1 p2):=by exact fun _ _=>rfl) :
  PE X (.BinOp (.Subscript (.Name yx p1) (.Constant (.int j) t1 p2) p3) .Mod (.Name yn p4) pos) (tIdx K x n j):=by
 subst hK; exact pe_op op_mod (pe_ix ix_seq (pe_var hx vx d1 d2) pe_int h2) (pe_var hn vn d3 d4)
theorem pe_flv {r:Nat} {c:Int} {yr:Str} {t2:Nat} {te:TE} {p6 p7 p8:Pos} (hr:X.N[r]?=some yr) (vr:Vis X.env.scope yr) (h:PE X e1 te) (hK:X.K=K:=by rfl) (d1:(yr == ("__debug__" : Str))=false:=by decide) (d2:(yr == ("__classdict__" : Str))=false:=by decide) (h1:PlainIx e1:=by exact fun _ _=>rfl) :
  PE X (.BinOp (.Constant (.int c) t2 p6) .Sub (.Subscript (.Name yr p7) e1 p8) pos) (tOp (rI0 fun i j=>.int (i-j)) (tC (.int c)) (tOp (rIx K) (tVar r) te)):=by
 subst hK; exact pe_op op_sub pe_int (pe_ix ix_seq (pe_var hr vr d1 d2) h h1)
theorem q_flip {i r x n:Nat} {j c:Int} {tg iter:Expr} {body:List Stmt} (hp:PassesOwn (model X.prog X.w) X.A X.env X.xe) (hc:X.calm=true) (hi:PI X tg iter (iSq K (tVar i))) (hg:PG X tg (gName r))
  (hb:PSs X body (tAsg (tOp (rI0 fun i j=>.int (i-j)) (tC (.int c)) (tOp (rIx K) (tVar r) (tIdx K x n j))) (L2.gSub (tVar r) (tIdx K x n j) rSetL))) (hs:∀ x,foldedSetIterable iter X.env x=pure x:=by intro _; rfl) :
  PS X (.For tg iter body [] pos) (tStN K EX d (mFlip i r x n j c)):=(ps_for hp hc hi hg hb hs).mono fun _ _ _ q=>c_flip q
end
end TP
namespace TP
open PySem L2
abbrev tI (ns:List Int):W:=.tup (ns.map W.int)
abbrev lI (ns:List Int):W:=.lst (ns.map W.int)
theorem noLs_ints (ns:List Int):noLs (ns.map W.int)=true:=by
 induction ns with
 | nil=>rfl
 | cons n ns ih=>rw [List.map_cons]; simp only [noLs,noL,ih,Bool.and_self]
theorem fEqS_ii (n:Bool) (i j:Int):fEqS n (.int i) (.int j)=.ok (.bl (if n then !decide (i=j) else decide (i=j))):=by
 show R.ok (W.bl (if n then !decide (V.int i=V.int j) else decide (V.int i=V.int j)))=_
 rw [show decide (V.int i=V.int j)=decide (i=j) from decide_eq_decide.mpr ⟨V.int.inj,congrArg _⟩]
theorem fEqS_bb (n:Bool) (i j:Bool):fEqS n (.bl i) (.bl j)=.ok (.bl (if n then !decide (i=j) else decide (i=j))):=by
 show R.ok (W.bl (if n then !decide (V.bl i=V.bl j) else decide (V.bl i=V.bl j)))=_
 rw [show decide (V.bl i=V.bl j)=decide (i=j) from decide_eq_decide.mpr ⟨V.bl.inj,congrArg _⟩]
theorem fEqS_ss (n:Bool) (i j:Str):fEqS n (.str i) (.str j)=.ok (.bl (if n then !decide (i=j) else decide (i=j))):=by
 show R.ok (W.bl (if n then !decide (V.str i=V.str j) else decide (V.str i=V.str j)))=_
 rw [show decide (V.str i=V.str j)=decide (i=j) from decide_eq_decide.mpr ⟨V.str.inj,congrArg _⟩]
theorem fEqS_nn (n:Bool):fEqS n .non .non=.ok (.bl (!n)):=by cases n <;> rfl
theorem fEqS_ni (n:Bool) (i:Int):fEqS n .non (.int i)=.ok (.bl n):=by cases n <;> rfl
theorem fEqS_in (n:Bool) (i:Int):fEqS n (.int i) .non=.ok (.bl n):=by cases n <;> rfl
theorem atW {ns:List Int} {i:Int} (h0:0<=i) (h1:i<ns.length):L2.atI (ns.map W.int) i=some (.int (ns.getD i.toNat 0)):=by
 unfold L2.atI
 rw [List.length_map,ixN_int h0 h1]
 show (ns.map W.int)[i.toNat]?=_
 rw [List.getElem?_map,some_getD (by omega)]; rfl
theorem atW_nat {ns:List Int} {k:Nat} (h1:k<ns.length):L2.atI (ns.map W.int) (k:Int)=some (.int (ns.getD k 0)):=by
 have:=atW (ns:=ns) (i:=(k:Int)) (by omega) (by omega)
 rw [Int.toNat_natCast] at this; exact this
theorem atW_of {ws:List W} {k:Nat} {w:W} (h:ws[k]?=some w):L2.atI ws (k:Int)=some w:=by
 have hk:=(List.getElem?_eq_some_iff.mp h).1
 unfold L2.atI
 rw [ixN_int (by omega) (by omega),Int.toNat_natCast]
 exact h
def andThen (r:R Fl) (n:Rho->R Fl):R Fl:=r>>=fun f=>match f with
 | .nx ρ'=>n ρ'
 | .rt w=>.ok (.rt w)
 | .bk ρ'=>.ok (.bk ρ')
 | .ct ρ'=>.ok (.ct ρ')
theorem mSeq_ap (m n:Rho->R Fl) (ρ:Rho):mSeq m n ρ=andThen (m ρ) n:=rfl
theorem andThen_nx (ρ:Rho) (n:Rho->R Fl):andThen (.ok (.nx ρ)) n=n ρ:=rfl
theorem andThen_rt (w:W) (n:Rho->R Fl):andThen (.ok (.rt w)) n=.ok (.rt w):=rfl
theorem andThen_bk (ρ:Rho) (n:Rho->R Fl):andThen (.ok (.bk ρ)) n=.ok (.bk ρ):=rfl
theorem andThen_ct (ρ:Rho) (n:Rho->R Fl):andThen (.ok (.ct ρ)) n=.ok (.ct ρ):=rfl
theorem mC_ap (w:W) (ρ:Rho):mC w ρ=.ok w:=rfl
theorem b1_ap (f:W->R W) (ma:Rho->R W) (ρ:Rho):b1 f ma ρ=(ma ρ>>=f):=rfl
def R2b (a b:R W) (f:W->W->R W):R W:=a>>=fun x=>b>>=fun y=>f x y
theorem b2_ap (f:W->W->R W) (ma mb:Rho->R W) (ρ:Rho):b2 f ma mb ρ=R2b (ma ρ) (mb ρ) f:=rfl
theorem R2b_ok (x y:W) (f:W->W->R W):R2b (.ok x) (.ok y) f=f x y:=rfl
theorem bA_ap (f:List W->R W) (ma:Rho->R (List W)) (ρ:Rho):bA f ma ρ=(ma ρ>>=f):=rfl
theorem bI_ap (f:List W->R (List W)) (ma:Rho->R (List W)) (ρ:Rho):bI f ma ρ=(ma ρ>>=f):=rfl
theorem bS_ap (ma:Rho->R W) (ρ:Rho):bS ma ρ=(ma ρ>>=seqW):=rfl
theorem aN_ap (ρ:Rho):aN ρ=.ok []:=rfl
def Rcons (a:R W) (b:R (List W)):R (List W):=a>>=fun x=>b>>=fun xs=>.ok (x::xs)
theorem aC_ap (ma:Rho->R W) (mr:Rho->R (List W)) (ρ:Rho):aC ma mr ρ=Rcons (ma ρ) (mr ρ):=rfl
theorem Rcons_ok (x:W) (xs:List W):Rcons (.ok x) (.ok xs)=.ok (x::xs):=rfl
theorem bChk_ap (ma:Rho->R W) (ρ:Rho):bChk ma ρ=(ma ρ>>=chk):=rfl
theorem bTest_ap (ma:Rho->R W) (ρ:Rho):bTest ma ρ=(ma ρ>>=toB):=rfl
theorem tAnd_ap (a b:Rho->R Bool) (ρ:Rho):tAnd' a b ρ=rAnd (a ρ) (b ρ):=rfl
theorem tOr_ap (a b:Rho->R Bool) (ρ:Rho):tOr' a b ρ=rOr (a ρ) (b ρ):=rfl
theorem tNot_ap (a:Rho->R Bool) (ρ:Rho):tNot' a ρ=rNot (a ρ):=rfl
theorem rAnd_ok (x y:Bool):rAnd (.ok x) (.ok y)=.ok (x&&y):=by cases x <;> rfl
theorem rAnd_ff (r:R Bool):rAnd (.ok false) r=.ok false:=rfl
theorem rAnd_tt (r:R Bool):rAnd (.ok true) r=r:=rfl
theorem rOr_ok (x y:Bool):rOr (.ok x) (.ok y)=.ok (x||y):=by cases x <;> rfl
theorem rOr_tt (r:R Bool):rOr (.ok true) r=.ok true:=rfl
theorem rOr_ff (r:R Bool):rOr (.ok false) r=r:=rfl
theorem rNot_ok (x:Bool):rNot (.ok x)=.ok (!x):=rfl
theorem vAnd_ap (a b:Rho->R W) (ρ:Rho):vAnd a b ρ=rAndV (a ρ) (b ρ):=rfl
theorem vOr_ap (a b:Rho->R W) (ρ:Rho):vOr a b ρ=rOrV (a ρ) (b ρ):=rfl
theorem vNot_ap (a:Rho->R W) (ρ:Rho):vNot a ρ=rNotV (a ρ):=rfl
theorem rAndV_ok (x y:Bool):rAndV (.ok (.bl x)) (.ok (.bl y))=.ok (.bl (x&&y)):=by cases x <;> rfl
theorem rAndV_ff (r:R W):rAndV (.ok (.bl false)) r=.ok (.bl false):=rfl
theorem rAndV_tt (r:R W):rAndV (.ok (.bl true)) r=r:=rfl
theorem rOrV_ok (x y:Bool):rOrV (.ok (.bl x)) (.ok (.bl y))=.ok (.bl (x||y)):=by cases x <;> rfl
theorem rOrV_tt (r:R W):rOrV (.ok (.bl true)) r=.ok (.bl true):=rfl
theorem rOrV_ff (r:R W):rOrV (.ok (.bl false)) r=r:=rfl
theorem rNotV_ok (x:Bool):rNotV (.ok (.bl x))=.ok (.bl (!x)):=rfl
def rIfW (c:R Bool) (a b:R W):R W:=c>>=fun t=>if t then a else b
theorem vIf_ap (c:Rho->R Bool) (a b:Rho->R W) (ρ:Rho):vIf c a b ρ=rIfW (c ρ) (a ρ) (b ρ):=rfl
theorem rIfW_tt (a b:R W):rIfW (.ok true) a b=a:=rfl
theorem rIfW_ff (a b:R W):rIfW (.ok false) a b=b:=rfl
theorem rIfW_ok (t:Bool) (x y:W):rIfW (.ok t) (.ok x) (.ok y)=.ok (if t then x else y):=by cases t <;> rfl
def Rchain (f f':W->W->R W) (a b c:R W):R W:=a>>=fun x=>b>>=fun y=>f x y>>=fun z=>toB z>>=fun t=>if t then c>>=fun u=>f' y u else .ok (.bl false)
theorem vChain_ap (f f':W->W->R W) (ma mb mc:Rho->R W) (ρ:Rho):vChain f f' ma mb mc ρ=Rchain f f' (ma ρ) (mb ρ) (mc ρ):=rfl
theorem Rchain_ii (g g':Int->Int->Bool) (i j k:Int):Rchain (fI0 fun i j=>.bl (g i j)) (fI0 fun i j=>.bl (g' i j)) (.ok (.int i)) (.ok (.int j)) (.ok (.int k))=.ok (.bl (g i j&&g' j k)):=by
 unfold Rchain
 show (if g i j=true then _ else _)=_
 cases h:g i j <;> simp [fI0]
def mkTup (ws:List W):R W:=lim ws.length (.tup ws)
def mkLst (ws:List W):R W:=lim ws.length (.lst ws)
theorem vTup_ap (ma:Rho->R (List W)) (ρ:Rho):vTup ma ρ=(ma ρ>>=mkTup):=rfl
theorem vLst_ap (ma:Rho->R (List W)) (ρ:Rho):vLst ma ρ=(ma ρ>>=mkLst):=rfl
theorem pN_ap (ρ:Rho):pN ρ=.ok none:=rfl
theorem pS_ap (m:Rho->R W) (ρ:Rho):pS m ρ=(m ρ>>=partW):=rfl
theorem partW_int (i:Int):partW (.int i)=.ok (some i):=rfl
def Rsl (c:Bool) (x:R W) (l u:R (Option Int)):R W:=x>>=fun x=>l>>=fun l=>u>>=fun u=>toR (lstOf x)>>=fun ws=>chks c (cutW ws l u)
theorem vSl_ap (c:Bool) (m:Rho->R W) (ml mh:Rho->R (Option Int)) (ρ:Rho):vSl c m ml mh ρ=Rsl c (m ρ) (ml ρ) (mh ρ):=rfl
theorem Rsl_lst (c:Bool) (ws:List W) (l u:Option Int):Rsl c (.ok (.lst ws)) (.ok l) (.ok u)=chks c (cutW ws l u):=rfl
theorem Rsl_scr (c:Bool) (ws:List W) (l u:Option Int):Rsl c (.ok (.scr ws)) (.ok l) (.ok u)=chks c (cutW ws l u):=rfl
def Rcomp (r:R (List W)) (n:Nat) (mg:W->Rho->Option Rho) (mc:Rho->R Bool) (me:Rho->R W) (ρ:Rho):R W:=r>>=fun ws=>mComp n mg mc me ws ρ
theorem vComp_ap (n:Nat) (mi:Rho->R (List W)) (mg:W->Rho->Option Rho) (mc:Rho->R Bool) (me:Rho->R W) (ρ:Rho):vComp n mi mg mc me ρ=Rcomp (mi ρ) n mg mc me ρ:=rfl
theorem Rcomp_ok (ws:List W) (n:Nat) (mg:W->Rho->Option Rho) (mc:Rho->R Bool) (me:Rho->R W) (ρ:Rho):Rcomp (.ok ws) n mg mc me ρ=mComp n mg mc me ws ρ:=rfl
theorem sNx_ap (ρ:Rho):sNx ρ=.ok (.nx ρ):=rfl
theorem sBk_ap (ρ:Rho):sBk ρ=.ok (.bk ρ):=rfl
theorem sCt_ap (ρ:Rho):sCt ρ=.ok (.ct ρ):=rfl
def Rdrop (r:R W) (ρ:Rho):R Fl:=r>>=fun _=>.ok (.nx ρ)
theorem sDrop_ap (m:Rho->R W) (ρ:Rho):sDrop m ρ=Rdrop (m ρ) ρ:=rfl
theorem Rdrop_ok (w:W) (ρ:Rho):Rdrop (.ok w) ρ=.ok (.nx ρ):=rfl
def retK (w:W):R Fl:=.ok (.rt w)
theorem sRet_ap (m:Rho->R W) (ρ:Rho):sRet m ρ=(m ρ>>=retK):=rfl
theorem retK_ap (w:W):retK w=.ok (.rt w):=rfl
theorem sRetN_ap (ρ:Rho):sRetN ρ=.ok (.rt .non):=rfl
def Rset (r:R W) (f:W->Sl) (i:Nat) (ρ:Rho):R Fl:=r>>=fun w=>.ok (.nx (ρ.set i (f w)))
theorem sV_ap (i:Nat) (m:Rho->R W) (ρ:Rho):sV i m ρ=Rset (m ρ) Sl.val i ρ:=rfl
theorem sU_ap (i:Nat) (m:Rho->R W) (ρ:Rho):sU i m ρ=Rset (m ρ) Sl.par i ρ:=rfl
theorem sF_ap (i:Nat) (m:Rho->R W) (ρ:Rho):sF i m ρ=Rset (m ρ) slotF i ρ:=rfl
theorem Rset_ok (w:W) (f:W->Sl) (i:Nat) (ρ:Rho):Rset (.ok w) f i ρ=.ok (.nx (ρ.set i (f w))):=rfl
theorem slotF_lst (ws:List W):slotF (.lst ws)=.own ws:=rfl
theorem slotF_tup (ws:List W):slotF (.tup ws)=.val (.tup ws):=rfl
theorem slotF_int (i:Int):slotF (.int i)=.val (.int i):=rfl
theorem slotF_bl (i:Bool):slotF (.bl i)=.val (.bl i):=rfl
theorem slotF_non:slotF .non=.val .non:=rfl
theorem slotF_str (i:Str):slotF (.str i)=.val (.str i):=rfl
def toNx:Option Rho->R Fl
 | some ρ=>.ok (.nx ρ)
 | none=>.stuck
def Rasg (r:R W) (mg:W->Rho->Option Rho) (ρ:Rho):R Fl:=r>>=fun w=>toR (mg w ρ)>>=fun ρ'=>.ok (.nx ρ')
theorem sG_ap (mg:W->Rho->Option Rho) (m:Rho->R W) (ρ:Rho):sG mg m ρ=Rasg (m ρ) mg ρ:=rfl
theorem Rasg_ok (w:W) (mg:W->Rho->Option Rho) (ρ:Rho):Rasg (.ok w) mg ρ=toNx (mg w ρ):=by
 show (toR (mg w ρ)>>=_)=_
 cases mg w ρ <;> rfl
theorem toNx_some (ρ:Rho):toNx (some ρ)=.ok (.nx ρ):=rfl
def Rfor (r:R (List W)) (mg:W->Rho->Option Rho) (mb:Rho->R Fl) (ρ:Rho):R Fl:=r>>=fun ws=>mFor mg mb ws ρ
theorem sFor_ap (mi:Rho->R (List W)) (mg:W->Rho->Option Rho) (mb:Rho->R Fl) (ρ:Rho):sFor mi mg mb ρ=Rfor (mi ρ) mg mb ρ:=rfl
theorem Rfor_ok (ws:List W) (mg:W->Rho->Option Rho) (mb:Rho->R Fl) (ρ:Rho):Rfor (.ok ws) mg mb ρ=mFor mg mb ws ρ:=rfl
theorem sFrz_ap (i:Nat) (m:Rho->R Fl) (ρ:Rho):sFrz i m ρ=m (frz i ρ):=rfl
def frzS:Option Sl->Nat->Rho->Rho
 | some (.own ws),i,ρ=>ρ.set i (.val (.lst ws))
 | _,_,ρ=>ρ
theorem frz_ap (i:Nat) (ρ:Rho):frz i ρ=frzS (ρ[i]?) i ρ:=by
 unfold frz frzS
 rcases h:ρ[i]? with _ | s
 ·rfl
 ·cases s <;> rfl
theorem frzS_own (ws:List W) (i:Nat) (ρ:Rho):frzS (some (.own ws)) i ρ=ρ.set i (.val (.lst ws)):=rfl
theorem frzS_val (w:W) (i:Nat) (ρ:Rho):frzS (some (.val w)) i ρ=ρ:=rfl
theorem frzS_par (w:W) (i:Nat) (ρ:Rho):frzS (some (.par w)) i ρ=ρ:=rfl
theorem frzS_un (i:Nat) (ρ:Rho):frzS (some .un) i ρ=ρ:=rfl
def rdS (d:Mode):Option Sl->R W
 | some (.val w)=>(match d with | .F=>chk w | _=>.ok w)
 | some (.par w)=>(match d with | .F=>chk w | .V=>chk w | .C=>chk w | _=>.ok w)
 | some (.own ws)=>(match d with | .C=>.ok (.lst ws) | .B=>.ok (.lst ws) | _=>.stuck)
 | some (.iop _ ws)=>(match d with | .B=>.ok (.lst ws) | .U=>.ok (.lst ws) | _=>.stuck)
 | some (.hz w)=>(match d with | .B=>.ok w | .U=>.ok w | _=>.stuck)
 | some (.dz zs)=>(match d with | .F=>.stuck | _=>.ok (.lst (zs.map rowI)))
 | _=>.stuck
theorem mVar_ap (d:Mode) (i:Nat) (ρ:Rho):mVar d i ρ=rdS d (ρ[i]?):=by
 unfold mVar rdS
 rfl
theorem rdS_vF (w:W):rdS .F (some (.val w))=chk w:=rfl
theorem rdS_vV (w:W):rdS .V (some (.val w))=.ok w:=rfl
theorem rdS_vU (w:W):rdS .U (some (.val w))=.ok w:=rfl
theorem rdS_vC (w:W):rdS .C (some (.val w))=.ok w:=rfl
theorem rdS_vB (w:W):rdS .B (some (.val w))=.ok w:=rfl
theorem rdS_pF (w:W):rdS .F (some (.par w))=chk w:=rfl
theorem rdS_pV (w:W):rdS .V (some (.par w))=chk w:=rfl
theorem rdS_pU (w:W):rdS .U (some (.par w))=.ok w:=rfl
theorem rdS_pC (w:W):rdS .C (some (.par w))=chk w:=rfl
theorem rdS_pB (w:W):rdS .B (some (.par w))=.ok w:=rfl
theorem rdS_oC (ws:List W):rdS .C (some (.own ws))=.ok (.lst ws):=rfl
theorem rdS_oB (ws:List W):rdS .B (some (.own ws))=.ok (.lst ws):=rfl
def retS (d:Mode):Option Sl->R Fl
 | some (.own ws)=>.ok (.rt (.lst ws))
 | o=>rdS d o>>=retK
theorem mRetVar_ap (d:Mode) (i:Nat) (ρ:Rho):mRetVar d i ρ=retS d (ρ[i]?):=by
 unfold mRetVar retS
 rw [mVar_ap]
 rcases h:ρ[i]? with _ | s
 ·rfl
 ·cases s <;> rfl
theorem retS_own (d:Mode) (ws:List W):retS d (some (.own ws))=.ok (.rt (.lst ws)):=rfl
theorem retS_val (d:Mode) (w:W):retS d (some (.val w))=(rdS d (some (.val w))>>=retK):=rfl
theorem retS_par (d:Mode) (w:W):retS d (some (.par w))=(rdS d (some (.par w))>>=retK):=rfl
def appS (o:Option Sl) (r:R W) (i:Nat) (ρ:Rho):R Fl:=match o with
 | some (.own ws)=>r>>=fun w=>if ws.length<1000 then .ok (.nx (ρ.set i (.own (ws ++ [w])))) else .stuck
 | _=>.stuck
theorem mApp_ap (i:Nat) (m:Rho->R W) (ρ:Rho):mApp i m ρ=appS (ρ[i]?) (m ρ) i ρ:=rfl
theorem appS_ok (ws:List W) (w:W) (i:Nat) (ρ:Rho):appS (some (.own ws)) (.ok w) i ρ=if ws.length<1000 then .ok (.nx (ρ.set i (.own (ws ++ [w])))) else .stuck:=rfl
def setS (o:Option Sl) (a b:R W) (i:Nat) (ρ:Rho):R Fl:=match o with
 | some (.own ws)=>b>>=fun w=>a>>=fun k=>(match k with
  | .int k=>(match ixN ws.length k with
   | some j=>.ok (.nx (ρ.set i (.own (ws.set j w))))
   | none=>.stuck)
  | _=>.stuck)
 | _=>.stuck
theorem mSet_ap (i:Nat) (mk me:Rho->R W) (ρ:Rho):mSet i mk me ρ=setS (ρ[i]?) (mk ρ) (me ρ) i ρ:=rfl
def setJ (o:Option Nat) (ws:List W) (w:W) (i:Nat) (ρ:Rho):R Fl:=match o with
 | some j=>.ok (.nx (ρ.set i (.own (ws.set j w))))
 | none=>.stuck
theorem setS_ok (ws:List W) (w:W) (k:Int) (i:Nat) (ρ:Rho):setS (some (.own ws)) (.ok (.int k)) (.ok w) i ρ=setJ (ixN ws.length k) ws w i ρ:=rfl
theorem setJ_some (j:Nat) (ws:List W) (w:W) (i:Nat) (ρ:Rho):setJ (some j) ws w i ρ=.ok (.nx (ρ.set i (.own (ws.set j w)))):=rfl
def augS (f:Int->Int->Int) (a b:R W) (i:Nat) (ρ:Rho):R Fl:=a>>=fun x=>b>>=fun y=>match x,y with
 | .int a,.int b=>.ok (.nx (ρ.set i (.val (.int (f a b)))))
 | _,_=>.stuck
theorem mAug_ap (i:Nat) (f:Int->Int->Int) (m:Rho->R W) (ρ:Rho):mAug i f m ρ=augS f (rdS .B (ρ[i]?)) (m ρ) i ρ:=by
 rw [<- mVar_ap]; rfl
theorem augS_ok (f:Int->Int->Int) (a b:Int) (i:Nat) (ρ:Rho):augS f (.ok (.int a)) (.ok (.int b)) i ρ=.ok (.nx (ρ.set i (.val (.int (f a b))))):=rfl
def ifS (c:R Bool) (m n:Rho->R Fl) (ρ:Rho):R Fl:=c>>=fun b=>if b then m ρ else n ρ
theorem mIf_ap (c:Rho->R Bool) (m n:Rho->R Fl) (ρ:Rho):mIf c m n ρ=ifS (c ρ) m n ρ:=rfl
theorem ifS_tt (m n:Rho->R Fl) (ρ:Rho):ifS (.ok true) m n ρ=m ρ:=rfl
theorem ifS_ff (m n:Rho->R Fl) (ρ:Rho):ifS (.ok false) m n ρ=n ρ:=rfl
def endB (r:R Fl):R W:=r>>=fun f=>match f with
 | .rt w=>.ok w
 | .nx _=>.ok .non
 | _=>.stuck
theorem runB_ap {n N:Nat} {m:Rho->R Fl} {ws:List W} (h:ws.length=n):runB n N m ws=endB (m (ws.map Sl.par++List.replicate (N-n) Sl.un)):=by unfold runB; rw [if_pos h]; rfl
theorem runB_1 {N:Nat} {m:Rho->R Fl} (a:W):runB 1 N m [a]=endB (m (Sl.par a::List.replicate (N-1) Sl.un)):=runB_ap rfl
theorem runB_2 {N:Nat} {m:Rho->R Fl} (a b:W):runB 2 N m [a,b]=endB (m (Sl.par a::Sl.par b::List.replicate (N-2) Sl.un)):=runB_ap rfl
theorem runB_3 {N:Nat} {m:Rho->R Fl} (a b c:W):runB 3 N m [a,b,c]=endB (m (Sl.par a::Sl.par b::Sl.par c::List.replicate (N-3) Sl.un)):=runB_ap rfl
theorem runB_4 {N:Nat} {m:Rho->R Fl} (a b c d:W):runB 4 N m [a,b,c,d]=endB (m (Sl.par a::Sl.par b::Sl.par c::Sl.par d::List.replicate (N-4) Sl.un)):=runB_ap rfl
theorem runB_5 {N:Nat} {m:Rho->R Fl} (a b c d e:W):runB 5 N m [a,b,c,d,e]=endB (m (Sl.par a::Sl.par b::Sl.par c::Sl.par d::Sl.par e::List.replicate (N-5) Sl.un)):=runB_ap rfl
theorem endB_rt (w:W):endB (.ok (.rt w))=.ok w:=rfl
theorem endB_nx (ρ:Rho):endB (.ok (.nx ρ))=.ok .non:=rfl
theorem fI0_ii (g:Int->Int->W) (i j:Int):fI0 g (.int i) (.int j)=.ok (g i j):=rfl
theorem fU_i (g:Int->W) (i:Int):fU g (.int i)=.ok (g i):=rfl
theorem fIx_l (ws:List W) (i:Int):fIx (.lst ws) (.int i)=toR (L2.atI ws i):=rfl
theorem fIx_t (ws:List W) (i:Int):fIx (.tup ws) (.int i)=toR (L2.atI ws i):=rfl
theorem fIx_s (ws:List W) (i:Int):fIx (.scr ws) (.int i)=toR (L2.atI ws i):=rfl
theorem toR_some {α:Type} (a:α):toR (some a)=.ok a:=rfl
theorem toB_bl (b:Bool):toB (.bl b)=.ok b:=rfl
theorem fLen_l (ws:List W):fLen [.lst ws]=.ok (.int ws.length):=rfl
theorem fLen_t (ws:List W):fLen [.tup ws]=.ok (.int ws.length):=rfl
theorem fLen_s (ws:List W):fLen [.scr ws]=.ok (.int ws.length):=rfl
theorem fList_l (c:Bool) (ws:List W):fList c [.lst ws]=chks c ws:=rfl
theorem fList_t (c:Bool) (ws:List W):fList c [.tup ws]=chks c ws:=rfl
theorem fTup_l (c:Bool) (ws:List W):fTup c [.lst ws]=chkT c ws:=rfl
theorem fTup_t (c:Bool) (ws:List W):fTup c [.tup ws]=chkT c ws:=rfl
theorem chks_t (ws:List W):chks true ws=.ok (.lst ws):=rfl
theorem chkT_t (ws:List W):chkT true ws=.ok (.tup ws):=rfl
theorem chks_no {c:Bool} {ws:List W} (h:noLs ws=true):chks c ws=.ok (.lst ws):=by unfold chks; rw [h,Bool.or_true,if_pos rfl]
theorem chkT_no {c:Bool} {ws:List W} (h:noLs ws=true):chkT c ws=.ok (.tup ws):=by unfold chkT; rw [h,Bool.or_true,if_pos rfl]
theorem chks_I (c:Bool) (ns:List Int):chks c (ns.map W.int)=.ok (.lst (ns.map W.int)):=chks_no (noLs_ints ns)
theorem chkT_I (c:Bool) (ns:List Int):chkT c (ns.map W.int)=.ok (.tup (ns.map W.int)):=chkT_no (noLs_ints ns)
theorem chk_no {w:W} (h:noL w=true):chk w=.ok w:=by unfold chk; rw [if_pos h]
theorem chk_int (i:Int):chk (.int i)=.ok (.int i):=rfl
theorem chk_bl (i:Bool):chk (.bl i)=.ok (.bl i):=rfl
theorem chk_str (i:Str):chk (.str i)=.ok (.str i):=rfl
theorem chk_non:chk .non=.ok .non:=rfl
theorem chk_tI (ns:List Int):chk (.tup (ns.map W.int))=.ok (.tup (ns.map W.int)):=chk_no (noLs_ints ns)
theorem f2_ii (g:Int->Int->Int) (i j:Int):f2 g [.int i,.int j]=.ok (.int (g i j)):=rfl
theorem seqW_l (ws:List W):seqW (.lst ws)=.ok ws:=rfl
theorem seqW_t (ws:List W):seqW (.tup ws)=.ok ws:=rfl
theorem seqW_s (ws:List W):seqW (.scr ws)=.ok ws:=rfl
theorem rng1_i (j:Int):rng1 [.int j]=rngW 0 j:=rfl
theorem rng2_i (i j:Int):rng2 [.int i,.int j]=rngW i j:=rfl
theorem gN_U (i:Nat) (w:W) (ρ:Rho):gN .U i w ρ=some (ρ.set i (.par w)):=rfl
theorem gN_V (i:Nat) (w:W) (ρ:Rho):gN .V i w ρ=some (ρ.set i (.val w)):=rfl
theorem gT_t (n:Nat) (g:List W->Rho->Option Rho) (ws:List W) (ρ:Rho):gT n g (.tup ws) ρ=if ws.length=n then g ws ρ else none:=rfl
theorem gsCons_c (f:W->Rho->Option Rho) (g:List W->Rho->Option Rho) (w:W) (ws:List W) (ρ:Rho):gsCons f g (w::ws) ρ=(f w ρ).bind (g ws):=rfl
theorem gsNil_n (ρ:Rho):gsNil [] ρ=some ρ:=rfl
theorem mkTup_ap (ws:List W):mkTup ws=if ws.length<=1000 then .ok (.tup ws) else .stuck:=rfl
theorem mkLst_ap (ws:List W):mkLst ws=if ws.length<=1000 then .ok (.lst ws) else .stuck:=rfl
theorem fIsi_ap (x:W) (T:String):fIsi [x,.ty T]=(toR ((tyW x).bind fun A=>isiB A T)>>=fun b=>.ok (.bl b)):=rfl
theorem isi_nt:isiB "NoneType" "tuple" = some false:=by decide
theorem isi_nl:isiB "NoneType" "list" = some false:=by decide
theorem isi_lt:isiB "list" "tuple" = some false:=by decide
theorem isi_tl:isiB "tuple" "list" = some false:=by decide
theorem fIsN_n (n:Bool) (u:W):fIsN n u .non=.ok (.bl (if n then !isN u else isN u)):=rfl
theorem mapR_all {f:W->R (Option W)} {α:Type} (g:α->W) (s:α->W):∀ (as:List α),(∀ a∈as,f (s a)=.ok (some (g a)))->mapR f (as.map s)=.ok (as.map g):=by
 intro as
 induction as with
 | nil=>exact fun _=>rfl
 | cons a as ih=>
  intro h
  rw [List.map_cons,mapR,h a List.mem_cons_self,ih fun b hb=>h b (List.mem_cons_of_mem _ hb)]
  rfl
theorem mComp_all {N':Nat} {mg:W->Rho->Option Rho} {me:Rho->R W} {α:Type} (g:α->W) (s:α->W) (as:List α) (ρ:Rho) (hl:as.length<=1000)
  (h:∀ a∈as,∃ ρ1,mg (s a) (ρ++List.replicate (N'-ρ.length) Sl.un)=some ρ1/\me ρ1=.ok (g a)):mComp N' mg yes me (as.map s) ρ=.ok (.lst (as.map g)):=by
 unfold mComp
 rw [List.length_map,if_pos hl,mapR_all g s as]
 intro a ha
 obtain ⟨ρ1,e1,e2⟩:=h a ha
 unfold elR
 rw [e1]
 have hy:yes ρ1=.ok true:=rfl
 dsimp only
 rw [hy]
 dsimp only
 rw [e2]
theorem rngW_int {z:Int} (h0:-1000000<=z) (h:z<=1000000):rngW 0 z=.ok ((List.range z.toNat).map fun k=>W.int (k:Nat)):=by
 unfold rngW
 rw [if_pos (by omega)]
 simp
theorem rng_at {n i:Nat} {w:W} (h:((List.range n).map fun k=>W.int (k:Nat))[i]?=some w):i<n/\w=.int (i:Nat):=by
 rw [List.getElem?_map] at h
 cases q:(List.range n)[i]? with
 | none=>rw [q] at h; cases h
 | some k=>
  rw [q] at h
  obtain ⟨h1,h2⟩:=List.getElem?_eq_some_iff.mp q
  simp at h1 h2
  subst h2
  cases h
  exact ⟨h1,rfl⟩
theorem map_at {ns:List Int} {i:Nat} {w:W} (h:(ns.map W.int)[i]?=some w):i<ns.length/\w=.int (ns.getD i 0):=by
 rw [List.getElem?_map] at h
 cases q:ns[i]? with
 | none=>rw [q] at h; cases h
 | some k=>
  rw [q] at h
  cases h
  exact ⟨(List.getElem?_eq_some_iff.mp q).1,by rw [getD_of q]⟩
def cutI (xs:List Int) (lo hi:Option Int):List Int:=(xs.drop (HT.sIx xs.length 0 lo)).take (HT.sIx xs.length xs.length hi-HT.sIx xs.length 0 lo)
theorem cutW_I (ns:List Int) (lo hi:Option Int):cutW (ns.map W.int) lo hi=(cutI ns lo hi).map W.int:=by
 unfold cutW cutI
 rw [List.length_map,<- List.map_drop,<- List.map_take]
theorem cutI_mem {ns:List Int} {lo hi:Option Int} {P:Int->Prop} (h:∀ x∈ns,P x):∀ x∈cutI ns lo hi,P x:=fun x hx=>by
 unfold cutI at hx
 exact h x (List.mem_of_mem_drop (List.mem_of_mem_take hx))
theorem setW_I (ns:List Int) (j:Nat) (z:Int):(ns.map W.int).set j (.int z)=(ns.set j z).map W.int:=by rw [List.map_set]
theorem appW_I (ns:List Int) (z:Int):ns.map W.int ++ [.int z]=(ns ++ [z]).map W.int:=by rw [List.map_append]; rfl
theorem repW_I (k:Nat) (z:Int):(List.replicate k [W.int z]).flatten=(List.replicate k z).map W.int:=by
 induction k with
 | zero=>rfl
 | succ k ih=>rw [List.replicate_succ,List.flatten_cons,ih,List.replicate_succ,List.map_cons]; rfl
theorem zipW_I2 {a b:List Int} (h:b.length=a.length):(zipW [a.map W.int,b.map W.int]).map W.tup=(List.range a.length).map fun k=>W.tup [.int (a.getD k 0),.int (b.getD k 0)]:=by
 apply List.ext_getElem?
 intro i
 simp only [zipW,List.getElem?_map,List.getElem?_zipWith]
 by_cases hi:i<a.length
 ·rw [some_getD hi,some_getD (ns:=b) (by omega)]; simp [hi]
 ·simp [hi]
theorem zipR_2 (x y:W) (xs ys:List W) (hx:seqW x=.ok xs) (hy:seqW y=.ok ys):zipR [x,y]=.ok ((zipW [xs,ys]).map W.tup):=by
 unfold zipR
 simp only [List.length_cons,List.length_nil,seqWs,hx,hy,Nat.reduceAdd,true_or,if_true]
theorem mul_L {i j:Int} (h:-18446744073709551616<i/\i<18446744073709551616):fI CMul gMul (.int i) (.int j)=.ok (.int (i*j)):=by
 show (if CMul i j then _ else _)=_
 rw [if_pos (.inl (by simpa using h))]
theorem mul_R {i j:Int} (h:-18446744073709551616<j/\j<18446744073709551616):fI CMul gMul (.int i) (.int j)=.ok (.int (i*j)):=by
 show (if CMul i j then _ else _)=_
 rw [if_pos (.inr (by simpa using h))]
theorem mod_ii {i j:Int} (h:0<j):fI cMod gMod (.int i) (.int j)=.ok (.int (i%j)):=by
 show (if cMod i j then _ else _)=_
 rw [if_pos h]
theorem div_ii {i j:Int} (h:0<j/\j<1073741824):fI CDiv gDiv (.int i) (.int j)=.ok (.int (i/j)):=by
 show (if CDiv i j then _ else _)=_
 rw [if_pos (show CDiv i j from h)]
theorem pow_ii {i j:Int} (h:0<=j/\j<=1000000 /\ -18446744073709551616<i/\i<18446744073709551616):fI CPow gPow (.int i) (.int j)=.ok (.int (i^j.toNat)):=by
 show (if CPow i j then _ else _)=_
 rw [if_pos ⟨h.1,h.2.1,by omega⟩]
theorem appS_c {ws:List W} {w:W} {i:Nat} {ρ:Rho} (h:ws.length<1000):appS (some (.own ws)) (.ok w) i ρ=.ok (.nx (ρ.set i (.own (ws ++ [w])))):=by rw [appS_ok,if_pos h]
theorem mkTup_c {ws:List W} (h:ws.length<=1000):mkTup ws=.ok (.tup ws):=by rw [mkTup_ap,if_pos h]
theorem mkLst_c {ws:List W} (h:ws.length<=1000):mkLst ws=.ok (.lst ws):=by rw [mkLst_ap,if_pos h]
theorem fCat_c {c:Bool} {us vs:List W} (h:us.length+vs.length<=1000):fCat c (.lst us) (.lst vs)=chks c (us++vs):=by
 show (if us.length+vs.length<=1000 then _ else _)=_
 rw [if_pos h]
theorem fRep_1 {c:Bool} {z:W} {k:Int} (h:0<=k/\k<=1000):fRep c (.lst [z]) (.int k)=chks c (List.replicate k.toNat [z]).flatten:=by
 show (if [z].length*k.toNat<=1000 /\ -1000<=k/\k<=1000 then _ else _)=_
 rw [if_pos ⟨by simp only [List.length_cons,List.length_nil]; omega,by omega,h.2⟩]
theorem atW_c {ns:List Int} {i:Int} (h:0<=i/\i<ns.length):L2.atI (ns.map W.int) i=some (.int (ns.getD i.toNat 0)):=atW h.1 h.2
theorem ixN_c {n:Nat} {i:Int} (h:0<=i/\i<n):ixN n i=some i.toNat:=ixN_int h.1 h.2
theorem rngW_c {z:Int} (h:-1000000<=z/\z<=1000000):rngW 0 z=.ok ((List.range z.toNat).map fun k=>W.int (k:Nat)):=rngW_int h.1 h.2
def Ok (r:R W) (P:W->Prop):Prop:=∃ w,r=.ok w/\P w
def Po (r:R Fl) (Jn:Rho->Prop) (Jr:W->Prop):Prop:=match r with
 | .ok (.nx ρ)=>Jn ρ
 | .ok (.rt w)=>Jr w
 | _=>False
theorem ok_end {r:R Fl} {P:W->Prop} (h:Po r (fun _=>P .non) P):Ok (endB r) P:=by
 cases r with
 | ex _=>exact h.elim
 | stuck=>exact h.elim
 | ok f=>cases f with
  | nx ρ=>exact ⟨_,rfl,h⟩
  | rt w=>exact ⟨_,rfl,h⟩
  | bk _=>exact h.elim
  | ct _=>exact h.elim
theorem po_seq {r:R Fl} {n:Rho->R Fl} {Jn:Rho->Prop} {Jr:W->Prop} (h:Po r (fun ρ=>Po (n ρ) Jn Jr) Jr):Po (andThen r n) Jn Jr:=by
 cases r with
 | ex _=>exact h.elim
 | stuck=>exact h.elim
 | ok f=>cases f with
  | nx ρ=>exact h
  | rt w=>exact h
  | bk _=>exact h.elim
  | ct _=>exact h.elim
theorem po_nx {ρ:Rho} {Jn:Rho->Prop} {Jr:W->Prop}:Po (.ok (.nx ρ)) Jn Jr=Jn ρ:=rfl
theorem po_rt {w:W} {Jn:Rho->Prop} {Jr:W->Prop}:Po (.ok (.rt w)) Jn Jr=Jr w:=rfl
theorem po_if {b:Bool} {m n:Rho->R Fl} {ρ:Rho} {Jn:Rho->Prop} {Jr:W->Prop} (h1:b=true->Po (m ρ) Jn Jr) (h2:b=false->Po (n ρ) Jn Jr):Po (ifS (.ok b) m n ρ) Jn Jr:=by
 cases b with
 | true=>exact h1 rfl
 | false=>exact h2 rfl
theorem po_ifs {b:Bool} {m n:Rho->R Fl} {ρ:Rho} {k:Rho->R Fl} {Jn:Rho->Prop} {Jr:W->Prop} (h1:b=true->Po (andThen (m ρ) k) Jn Jr) (h2:b=false->Po (andThen (n ρ) k) Jn Jr):Po (andThen (ifS (.ok b) m n ρ) k) Jn Jr:=by
 cases b with
 | true=>exact h1 rfl
 | false=>exact h2 rfl
theorem Po.mono {r:R Fl} {Jn Jn':Rho->Prop} {Jr Jr':W->Prop} (h:Po r Jn Jr) (h1:∀ ρ,Jn ρ->Jn' ρ) (h2:∀ w,Jr w->Jr' w):Po r Jn' Jr':=by
 cases r with
 | ex _=>exact h
 | stuck=>exact h
 | ok f=>cases f with
  | nx ρ=>exact h1 ρ h
  | rt w=>exact h2 w h
  | bk _=>exact h
  | ct _=>exact h
theorem po_for_go {mg:W->Rho->Option Rho} {mb:Rho->R Fl} {Jr:W->Prop} (I:Nat->Rho->Prop):∀ (ws:List W) (k:Nat) (ρ:Rho),I k ρ ->
  (∀ (i:Nat) (w:W) (ρ:Rho),ws[i]?=some w->I (k+i) ρ->∃ ρ1,mg w ρ=some ρ1/\Po (mb ρ1) (I (k+i+1)) Jr)->Po (mFor mg mb ws ρ) (I (k+ws.length)) Jr:=by
 intro ws
 induction ws with
 | nil=>exact fun k ρ h _=>h
 | cons w ws ih=>
  intro k ρ h st
  obtain ⟨ρ1,e1,p⟩:=st 0 w ρ rfl h
  unfold mFor
  rw [e1]
  show Po (mb ρ1>>=_) _ _
  revert p
  cases mb ρ1 with
  | ex _=>exact fun p=>p.elim
  | stuck=>exact fun p=>p.elim
  | ok f=>cases f with
   | bk _=>exact fun p=>p.elim
   | ct _=>exact fun p=>p.elim
   | rt w=>exact fun p=>p
   | nx ρ2=>
    intro p
    have:=ih (k+1) ρ2 p fun i w ρ hw hp=>by
     have:=st (i+1) w ρ hw (by rw [<- Nat.succ_add_eq_add_succ k i]; exact hp)
     rw [<- Nat.succ_add_eq_add_succ k i] at this
     exact this
    rw [List.length_cons,<- Nat.succ_add_eq_add_succ k ws.length]
    exact this
theorem po_for {mg:W->Rho->Option Rho} {mb:Rho->R Fl} {ws:List W} {ρ:Rho} {Jn:Rho->Prop} {Jr:W->Prop} (I:Nat->Rho->Prop) (h0:I 0 ρ)
  (st:∀ (i:Nat) (w:W) (ρ:Rho),ws[i]?=some w->I i ρ->∃ ρ1,mg w ρ=some ρ1/\Po (mb ρ1) (I (i+1)) Jr) (hn:∀ ρ,I ws.length ρ->Jn ρ):Po (mFor mg mb ws ρ) Jn Jr:=by
 have:=po_for_go (mg:=mg) (mb:=mb) (Jr:=Jr) I ws 0 ρ h0 fun i w ρ hw hp=>by rw [Nat.zero_add] at hp ⊢; exact st i w ρ hw hp
 rw [Nat.zero_add] at this
 exact this.mono hn fun _ h=>h
theorem po_fors {mg:W->Rho->Option Rho} {mb n:Rho->R Fl} {ws:List W} {ρ:Rho} {Jn:Rho->Prop} {Jr:W->Prop} (I:Nat->Rho->Prop) (h0:I 0 ρ)
  (st:∀ (i:Nat) (w:W) (ρ:Rho),ws[i]?=some w->I i ρ->∃ ρ1,mg w ρ=some ρ1/\Po (mb ρ1) (I (i+1)) Jr) (hn:∀ ρ,I ws.length ρ->Po (n ρ) Jn Jr):Po (andThen (mFor mg mb ws ρ) n) Jn Jr:=po_seq (po_for I h0 st hn)
theorem mapR_ex {f:W->R (Option W)} {α:Type} (s:α->W) (p:α->Int->Prop):∀ (as:List α),(∀ a∈as,∃ z,f (s a)=.ok (some (.int z))/\p a z)->∃ zs:List Int,mapR f (as.map s)=.ok (zs.map W.int)/\Paired p as zs
 | [],_=>⟨[],rfl,.nil⟩
 | a::as,h=>by
  obtain ⟨z,e,hz⟩:=h a (by simp)
  obtain ⟨zs,e2,hp⟩:=mapR_ex s p as fun b hb=>h b (by simp [hb])
  refine ⟨z::zs,?_,.cons hz hp⟩
  rw [List.map_cons,mapR,e,e2]; rfl
theorem mComp_ints {N':Nat} {mg:W->Rho->Option Rho} {me:Rho->R W} {α:Type} {as:List α} {s:α->W} {ρ:Rho} (p:α->Int->Prop) (hl:as.length<=1000)
  (h:∀ a∈as,∃ ρ1,mg (s a) (ρ++List.replicate (N'-ρ.length) Sl.un)=some ρ1/\Ok (me ρ1) fun w=>∃ z,w=.int z/\p a z):∃ zs:List Int,mComp N' mg yes me (as.map s) ρ=.ok (lI zs)/\Paired p as zs:=by
 obtain ⟨zs,e,hp⟩:=mapR_ex (f:=elR mg yes me (ρ++List.replicate (N'-ρ.length) Sl.un)) s p as fun a ha=>by
  obtain ⟨ρ1,e1,w,e2,z,rfl,hz⟩:=h a ha
  refine ⟨z,?_,hz⟩
  unfold elR
  rw [e1]
  have hy:yes ρ1=.ok true:=rfl
  dsimp only
  rw [hy]
  dsimp only
  rw [e2]
 refine ⟨zs,?_,hp⟩
 unfold mComp
 rw [List.length_map,if_pos hl,e]
def OkL (r:R (List W)) (P:List W->Prop):Prop:=∃ w,r=.ok w/\P w
theorem po_ret {r:R W} {Jn:Rho->Prop} {Jr:W->Prop} (h:Ok r Jr):Po (r>>=retK) Jn Jr:=by
 obtain ⟨w,rfl,q⟩:=h; exact q
theorem ok_bindL {r:R (List W)} {f:List W->R W} {P:W->Prop} (h:OkL r fun w=>Ok (f w) P):Ok (r>>=f) P:=by
 obtain ⟨w,rfl,q⟩:=h; exact q
theorem okL_1 {a:R W} {xs:List W} {P:List W->Prop} (h:Ok a fun x=>P (x::xs)):OkL (Rcons a (.ok xs)) P:=by
 obtain ⟨w,rfl,q⟩:=h; exact ⟨_,rfl,q⟩
theorem ok_comp {N':Nat} {mg:W->Rho->Option Rho} {me:Rho->R W} {α:Type} {as:List α} {s:α->W} {ρ:Rho} {P:W->Prop} (p:α->Int->Prop) (hl:as.length<=1000)
  (h:∀ a∈as,∃ ρ1,mg (s a) (ρ++List.replicate (N'-ρ.length) Sl.un)=some ρ1/\Ok (me ρ1) fun w=>∃ z,w=.int z/\p a z) (hp:∀ zs,Paired p as zs->P (lI zs)):Ok (mComp N' mg yes me (as.map s) ρ) P:=by
 obtain ⟨zs,e,q⟩:=mComp_ints (mg:=mg) (me:=me) (ρ:=ρ) (N':=N') p hl h
 exact ⟨_,e,hp zs q⟩
theorem ok_tcomp {N':Nat} {mg:W->Rho->Option Rho} {me:Rho->R W} {α:Type} {as:List α} {s:α->W} {ρ:Rho} {P:W->Prop} {c:Bool} (p:α->Int->Prop) (hl:as.length<=1000)
  (h:∀ a∈as,∃ ρ1,mg (s a) (ρ++List.replicate (N'-ρ.length) Sl.un)=some ρ1/\Ok (me ρ1) fun w=>∃ z,w=.int z/\p a z) (hp:∀ zs,Paired p as zs->P (tI zs)):Ok (Rcons (mComp N' mg yes me (as.map s) ρ) (.ok [])>>=fTup c) P:=
 ok_bindL (okL_1 (ok_comp p hl h fun zs q=>⟨_,by rw [fTup_l,chkT_I],hp zs q⟩))
theorem gMax_max (i j:Int):gMax i j=max i j:=by unfold gMax; omega
theorem gMin_min (i j:Int):gMin i j=min i j:=by unfold gMin; omega
def oW:Option Int->W
 | none=>.non
 | some i=>.int i
theorem oW_n:oW none=.non:=rfl
theorem oW_s (i:Int):oW (some i)=.int i:=rfl
theorem noL_oW (o:Option Int):noL (oW o)=true:=by cases o <;> rfl
theorem chk_oW (o:Option Int):chk (oW o)=.ok (oW o):=chk_no (noL_oW o)
theorem noLs_map {α:Type} (f:α->W) (h:∀ a,noL (f a)=true) (as:List α):noLs (as.map f)=true:=by
 induction as with
 | nil=>rfl
 | cons a as ih=>rw [List.map_cons]; simp only [noLs,h,ih,Bool.and_self]
theorem noLs_oW (cs:List (Option Int)):noLs (cs.map oW)=true:=noLs_map oW noL_oW cs
theorem chks_O (c:Bool) (cs:List (Option Int)):chks c (cs.map oW)=.ok (.lst (cs.map oW)):=chks_no (noLs_oW cs)
theorem chkT_O (c:Bool) (cs:List (Option Int)):chkT c (cs.map oW)=.ok (.tup (cs.map oW)):=chkT_no (noLs_oW cs)
theorem isN_oW (o:Option Int):isN (oW o)=o.isNone:=by cases o <;> rfl
theorem slotF_oW (o:Option Int):slotF (oW o)=.val (oW o):=by cases o <;> rfl
theorem at_map {α:Type} (f:α->W) {as:List α} {d:α} {i:Int} (h:0<=i/\i<as.length):L2.atI (as.map f) i=some (f (as.getD i.toNat d)):=by
 unfold L2.atI
 rw [List.length_map,ixN_int h.1 h.2]
 show (as.map f)[i.toNat]?=_
 have hi:i.toNat<as.length:=by omega
 rw [List.getElem?_map,List.getD_eq_getElem?_getD]
 simp [hi]
theorem atO_c {cs:List (Option Int)} {i:Int} (h:0<=i/\i<cs.length):L2.atI (cs.map oW) i=some (oW (cs.getD i.toNat none)):=at_map oW h
theorem appO (cs:List (Option Int)) (o:Option Int):cs.map oW ++ [oW o]=(cs ++ [o]).map oW:=by rw [List.map_append]; rfl
theorem range_at {n i:Nat} {f:Nat->W} {w:W} (h:((List.range n).map f)[i]?=some w):i<n/\w=f i:=by
 rw [List.getElem?_map] at h
 cases q:(List.range n)[i]? with
 | none=>rw [q] at h; cases h
 | some k=>
  rw [q] at h
  obtain ⟨h1,h2⟩:=List.getElem?_eq_some_iff.mp q
  simp at h1 h2
  subst h2
  cases h
  exact ⟨h1,rfl⟩
theorem noL_tI (ns:List Int):noL (tI ns)=true:=noLs_ints ns
theorem noLs_S (ss:List (List Int)):noLs (ss.map tI)=true:=noLs_map tI noL_tI ss
theorem chks_S (c:Bool) (ss:List (List Int)):chks c (ss.map tI)=.ok (.lst (ss.map tI)):=chks_no (noLs_S ss)
theorem chkT_S (c:Bool) (ss:List (List Int)):chkT c (ss.map tI)=.ok (.tup (ss.map tI)):=chkT_no (noLs_S ss)
theorem atS_c {ss:List (List Int)} {i:Int} (h:0<=i/\i<ss.length):L2.atI (ss.map tI) i=some (tI (ss.getD i.toNat [])):=at_map tI h
theorem appW_S (ss:List (List Int)) (s:List Int):ss.map tI ++ [tI s]=(ss ++ [s]).map tI:=by rw [List.map_append]; rfl
def cutL {α:Type} (xs:List α) (lo hi:Option Int):List α:=(xs.drop (HT.sIx xs.length 0 lo)).take (HT.sIx xs.length xs.length hi-HT.sIx xs.length 0 lo)
theorem cutW_map {α:Type} (f:α->W) (as:List α) (lo hi:Option Int):cutW (as.map f) lo hi=(cutL as lo hi).map f:=by
 unfold cutW cutL
 rw [List.length_map,<- List.map_drop,<- List.map_take]
theorem cutW_S (ss:List (List Int)) (lo hi:Option Int):cutW (ss.map tI) lo hi=(cutL ss lo hi).map tI:=cutW_map tI ss lo hi
theorem catW_S (ss ts:List (List Int)):ss.map tI++ts.map tI=(ss++ts).map tI:=by rw [List.map_append]
theorem catW_I (ss ts:List Int):ss.map W.int++ts.map W.int=(ss++ts).map W.int:=by rw [List.map_append]
theorem rngW_2 {lo hi:Int} (h:-1000000<=lo/\lo<=1000000 /\ -1000000<=hi/\hi<=1000000):rngW lo hi=.ok ((List.range (hi-lo).toNat).map fun k=>W.int (lo+(k:Nat))):=by
 unfold rngW
 rw [if_pos h]
theorem eqv_refl:∀ w:W,PyData.eqv (pd w) (pd w)=true:=by
 intro w
 refine W.rec (motive_1:=fun w=>PyData.eqv (pd w) (pd w)=true) (motive_2:=fun ws=>PyData.eqvAll (pds ws) (pds ws)=true) ?_ ?_ ?_ ?_ ?_ ?_ ?_ ?_ ?_ ?_ ?_ ?_ w
 ·rfl
 ·intro b; cases b <;> rfl
 ·intro b; exact beq_self_eq_true b
 ·intro b; exact beq_self_eq_true b
 ·intro b; rfl
 ·exact fun ws h=>h
 ·exact fun ws h=>h
 ·exact fun ws h=>h
 ·intro b c; rfl
 ·intro b; rfl
 ·rfl
 ·intro w ws h1 h2; exact (Bool.and_eq_true _ _).mpr ⟨h1,h2⟩
theorem eqW_self (w:W):eqW w w=true:=eqv_refl w
theorem shps_map {α:Type} (f:α->W) (n:Nat) (h:∀ a,shp n (f a)=true) (as:List α):shps n (as.map f)=true:=by
 induction as with
 | nil=>rfl
 | cons a as ih=>rw [List.map_cons]; simp only [shps,h,ih,Bool.and_self]
theorem shp_int (n:Nat) (i:Int):shp n (.int i)=true:=by cases n <;> rfl
theorem shp_bl (n:Nat) (b:Bool):shp n (.bl b)=true:=by cases n <;> rfl
theorem shp_tI (n:Nat) (ns:List Int):shp (n+1) (tI ns)=true:=shps_map W.int n (shp_int n) ns
theorem shp_lI (n:Nat) (ns:List Int):shp (n+1) (lI ns)=true:=shps_map W.int n (shp_int n) ns
theorem shp_lS (n:Nat) (ss:List (List Int)):shp (n+2) (.lst (ss.map tI))=true:=shps_map tI (n+1) (shp_tI n) ss
theorem fEq_self {neg:Bool} {w:W} (h:shp 8 w=true):fEq neg w w=.ok (.bl (!neg)):=by
 unfold fEq
 rw [h,eqW_self]
 cases neg <;> rfl
theorem eqI:∀ (a b:List Int),PyData.eqvAll (pds (a.map W.int)) (pds (b.map W.int))=decide (a=b)
 | [],[]=>by simp [pds,PyData.eqvAll]
 | [],_::_=>by simp [pds,PyData.eqvAll]
 | _::_,[]=>by simp [pds,PyData.eqvAll]
 | x::a,y::b=>by
  simp only [List.map_cons,pds,pd,PyData.eqvAll,PyData.eqv,eqI a b]
  by_cases h:x=y <;> by_cases h':a=b <;> simp [h,h']
theorem fEq_tI (neg:Bool) (a b:List Int):fEq neg (tI a) (tI b)=.ok (.bl (if neg then !decide (a=b) else decide (a=b))):=by
 unfold fEq
 rw [shp_tI,shp_tI]
 have:eqW (tI a) (tI b)=decide (a=b):=eqI a b
 rw [this]; rfl
theorem fEq_lI (neg:Bool) (a b:List Int):fEq neg (lI a) (lI b)=.ok (.bl (if neg then !decide (a=b) else decide (a=b))):=by
 unfold fEq
 rw [shp_lI,shp_lI]
 have:eqW (lI a) (lI b)=decide (a=b):=eqI a b
 rw [this]; rfl
theorem eqSS:∀ (a b:List (List Int)),PyData.eqvAll (pds (a.map tI)) (pds (b.map tI))=decide (a=b)
 | [],[]=>by simp [pds,PyData.eqvAll]
 | [],_::_=>by simp [pds,PyData.eqvAll]
 | _::_,[]=>by simp [pds,PyData.eqvAll]
 | x::a,y::b=>by
  simp only [List.map_cons,pds,pd,PyData.eqvAll,PyData.eqv,eqSS a b,eqI]
  by_cases h:x=y <;> by_cases h':a=b <;> simp [h,h']
theorem fEq_lS (neg:Bool) (a b:List (List Int)):fEq neg (.lst (a.map tI)) (.lst (b.map tI))=.ok (.bl (if neg then !decide (a=b) else decide (a=b))):=by
 unfold fEq
 rw [shp_lS,shp_lS]
 have:eqW (.lst (a.map tI)) (.lst (b.map tI))=decide (a=b):=eqSS a b
 rw [this]; rfl
theorem fEq_ii (neg:Bool) (i j:Int):fEq neg (.int i) (.int j)=.ok (.bl (if neg then !decide (i=j) else decide (i=j))):=by
 unfold fEq
 rw [shp_int,shp_int]
 have:eqW (.int i) (.int j)=decide (i=j):=by
  by_cases h:i=j <;> simp [eqW,pd,PyData.eqv,h]
 rw [this]; rfl
theorem fEq_bb (neg:Bool) (i j:Bool):fEq neg (.bl i) (.bl j)=.ok (.bl (if neg then !decide (i=j) else decide (i=j))):=by
 unfold fEq
 rw [shp_bl,shp_bl]
 have:eqW (.bl i) (.bl j)=decide (i=j):=by cases i <;> cases j <;> rfl
 rw [this]; rfl
theorem fEq_ni (neg:Bool) (j:Int):fEq neg .non (.int j)=.ok (.bl neg):=by cases neg <;> rfl
theorem fEq_in (neg:Bool) (j:Int):fEq neg (.int j) .non=.ok (.bl neg):=by cases neg <;> rfl
theorem fEq_nn (neg:Bool):fEq neg .non .non=.ok (.bl (!neg)):=by cases neg <;> rfl
theorem fBools_m (g:List Bool->Bool) (bs:List Bool):fBools g [.lst (bs.map W.bl)]=.ok (.bl (g bs)):=by
 show (toR (blsW (bs.map W.bl))>>=_)=_
 rw [bls_map]; rfl
theorem fInts_m (g:List Int->Int) (ns:List Int):fInts g [.lst (ns.map W.int)]=.ok (.int (g ns)):=by
 show (toR (intsW (ns.map W.int))>>=_)=_
 rw [ints_map]; rfl
theorem fInt_i (i:Int):fInt [.int i]=.ok (.int i):=rfl
theorem fInt_b (b:Bool):fInt [.bl b]=.ok (.int (if b then 1 else 0)):=rfl
theorem fAbs_i (i:Int):fAbs [.int i]=.ok (.int (if i<0 then -i else i)):=rfl
def extS (o:Option Sl) (r:R W) (c:Bool) (i:Nat) (ρ:Rho):R Fl:=match o with
 | some (.own ws)=>r>>=fun w=>(match w with
  | .lst us=>if ws.length+us.length<=1000 then (if c||noLs us then .ok (.nx (ρ.set i (.own (ws++us)))) else .stuck) else .stuck
  | _=>.stuck)
 | _=>.stuck
theorem mExt_ap (i:Nat) (c:Bool) (m:Rho->R W) (ρ:Rho):mExt i c m ρ=extS (ρ[i]?) (m ρ) c i ρ:=rfl
theorem extS_c {ws us:List W} {c:Bool} {i:Nat} {ρ:Rho} (h:ws.length+us.length<=1000):extS (some (.own ws)) (.ok (.lst us)) c i ρ=if c||noLs us then .ok (.nx (ρ.set i (.own (ws++us)))) else .stuck:=by
 show (if ws.length+us.length<=1000 then _ else _)=_
 rw [if_pos h]
def revS (o:Option Sl) (i:Nat) (ρ:Rho):R Fl:=match o with
 | some (.own ws)=>.ok (.nx (ρ.set i (.own ws.reverse)))
 | _=>.stuck
theorem mRev_ap (i:Nat) (ρ:Rho):mRev i ρ=revS (ρ[i]?) i ρ:=rfl
theorem revS_ok (ws:List W) (i:Nat) (ρ:Rho):revS (some (.own ws)) i ρ=.ok (.nx (ρ.set i (.own ws.reverse))):=rfl
theorem po_cut {r:R Fl} {n:Rho->R Fl} {Jn:Rho->Prop} {Jr:W->Prop} (J:Rho->Prop) (h1:Po r J Jr) (h2:∀ ρ,J ρ->Po (n ρ) Jn Jr):Po (andThen r n) Jn Jr:=po_seq (h1.mono h2 fun _ h=>h)
theorem gAdd_ap (i j:Int):gAdd i j=.int (i+j):=rfl
theorem gSub_ap (i j:Int):TP.gSub i j=.int (i-j):=rfl
theorem gLt_ap (i j:Int):gLt i j=.bl (decide (i<j)):=rfl
theorem gLe_ap (i j:Int):gLe i j=.bl (decide (i<=j)):=rfl
theorem gGt_ap (i j:Int):gGt i j=.bl (decide (j<i)):=rfl
theorem gGe_ap (i j:Int):gGe i j=.bl (decide (j<=i)):=rfl
theorem gNeg_ap (i:Int):gNeg i=.int (-i):=rfl
theorem gAdd__ap (i j:Int):gAdd_ i j=i+j:=rfl
theorem gSub__ap (i j:Int):gSub_ i j=i-j:=rfl
theorem fStr_i {i:Int} (h:0<=i/\i<1000):fStr [.int i]=.ok (.str (toString i)):=by
 show (if i.natAbs.log2<1920 then _ else _)=_
 rw [if_pos]
 refine Nat.lt_of_le_of_lt (Nat.log2_le_self _) ?_
 omega
theorem fIsB_w (neg:Bool) (u:W) (b:Bool):fIsB neg u (.bl b)=.ok (.bl (if neg then !isBW u b else isBW u b)):=rfl
theorem isBW_i (i:Int) (b:Bool):isBW (.int i) b=false:=rfl
theorem isBW_n (b:Bool):isBW .non b=false:=rfl
theorem isBW_s (x:Str) (b:Bool):isBW (.str x) b=false:=rfl
theorem isBW_t (x:List W) (b:Bool):isBW (.tup x) b=false:=rfl
theorem isBW_l (x:List W) (b:Bool):isBW (.lst x) b=false:=rfl
theorem isBW_b (a b:Bool):isBW (.bl a) b=(a == b):=rfl
def Rcu (c:Bool) (r:R (List W)) (f:List W->R W) (i:Nat) (ρ:Rho):R Fl:=if c then (r>>=fun ws=>f ws>>=fun w=>.ok (.nx (ρ.set i (.par w)))) else .stuck
theorem sCU_ap (i:Nat) (f:List W->R W) (ma:Rho->R (List W)) (ρ:Rho):sCU i f ma ρ=Rcu (noOwn ρ) (ma ρ) f i ρ:=rfl
def Rcu2 (r:R W) (i:Nat) (ρ:Rho):R Fl:=r>>=fun w=>.ok (.nx (ρ.set i (.par w)))
theorem Rcu_t (ws:List W) (f:List W->R W) (i:Nat) (ρ:Rho):Rcu true (.ok ws) f i ρ=Rcu2 (f ws) i ρ:=rfl
theorem Rcu2_ok (w:W) (i:Nat) (ρ:Rho):Rcu2 (.ok w) i ρ=.ok (.nx (ρ.set i (.par w))):=rfl
theorem noOwn_nil:noOwn []=true:=rfl
theorem noOwn_v (w:W) (ρ:Rho):noOwn (.val w::ρ)=noOwn ρ:=rfl
theorem noOwn_p (w:W) (ρ:Rho):noOwn (.par w::ρ)=noOwn ρ:=rfl
theorem noOwn_u (ρ:Rho):noOwn (.un::ρ)=noOwn ρ:=rfl
theorem fBest_t {g:List Int->Int} {ns:List Int} (h:0<ns.length):fBest g [tI ns]=.ok (.int (g ns)):=by
 show (toR (intsW (ns.map W.int))>>=_)=_
 rw [ints_map]
 show (if 0<ns.length then _ else _)=_
 rw [if_pos h]
theorem fBest_l {g:List Int->Int} {ns:List Int} (h:0<ns.length):fBest g [lI ns]=.ok (.int (g ns)):=by
 show (toR (intsW (ns.map W.int))>>=_)=_
 rw [ints_map]
 show (if 0<ns.length then _ else _)=_
 rw [if_pos h]
theorem revW_l (ws:List W):revW [.lst ws]=.ok ws.reverse:=rfl
def rp0:=Z1 (@gMax_max) (Z1 (@gMin_min) (Z1 (@po_nx) (Z1 (@po_rt) (Z1 (@mul_L) (Z1 (@mul_R) (Z1 (@mod_ii) (Z1 (@div_ii) (Z1 (@pow_ii) (Z1 (@appS_c) (Z1 (@mkTup_c) (Z1 (@mkLst_c) (Z1 (@fCat_c) (Z1 (@fRep_1) (Z1 (@atW_c) (Z1 (@ixN_c) (Z1 (@rngW_c) (Z1 (@cutW_I) (Z1 (@setW_I) (Z1 (@appW_I) (Z1 (@repW_I) (Z1 (@mSeq_ap) (Z1 (@andThen_nx) (Z1 (@andThen_rt) (@andThen_bk))))))))))))))))))))))))
def rp1:=Z1 (@andThen_ct) (Z1 (@mC_ap) (Z1 (@b1_ap) (Z1 (@b2_ap) (Z1 (@R2b_ok) (Z1 (@bA_ap) (Z1 (@bI_ap) (Z1 (@bS_ap) (Z1 (@aN_ap) (Z1 (@aC_ap) (Z1 (@Rcons_ok) (Z1 (@bChk_ap) (Z1 (@bTest_ap) (Z1 (@tAnd_ap) (Z1 (@tOr_ap) (Z1 (@tNot_ap) (Z1 (@rAnd_ok) (Z1 (@rAnd_ff) (Z1 (@rAnd_tt) (Z1 (@rOr_ok) (Z1 (@rOr_tt) (Z1 (@rOr_ff) (Z1 (@rNot_ok) (Z1 (@vAnd_ap) (@vOr_ap))))))))))))))))))))))))
def rp2:=Z1 (@vNot_ap) (Z1 (@rAndV_ok) (Z1 (@rAndV_ff) (Z1 (@rAndV_tt) (Z1 (@rOrV_ok) (Z1 (@rOrV_tt) (Z1 (@rOrV_ff) (Z1 (@rNotV_ok) (Z1 (@vIf_ap) (Z1 (@rIfW_tt) (Z1 (@rIfW_ff) (Z1 (@rIfW_ok) (Z1 (@vChain_ap) (Z1 (@Rchain_ii) (Z1 (@vTup_ap) (Z1 (@vLst_ap) (Z1 (@pN_ap) (Z1 (@pS_ap) (Z1 (@partW_int) (Z1 (@vSl_ap) (Z1 (@Rsl_lst) (Z1 (@Rsl_scr) (Z1 (@vComp_ap) (Z1 (@Rcomp_ok) (@sNx_ap))))))))))))))))))))))))
def rp3:=Z1 (@sBk_ap) (Z1 (@sCt_ap) (Z1 (@sDrop_ap) (Z1 (@Rdrop_ok) (Z1 (@sRet_ap) (Z1 (@retK_ap) (Z1 (@sRetN_ap) (Z1 (@sV_ap) (Z1 (@sU_ap) (Z1 (@sF_ap) (Z1 (@Rset_ok) (Z1 (@slotF_lst) (Z1 (@slotF_tup) (Z1 (@slotF_int) (Z1 (@slotF_bl) (Z1 (@slotF_non) (Z1 (@slotF_str) (Z1 (@sG_ap) (Z1 (@Rasg_ok) (Z1 (@toNx_some) (Z1 (@sFor_ap) (Z1 (@Rfor_ok) (Z1 (@sFrz_ap) (Z1 (@frz_ap) (@frzS_own))))))))))))))))))))))))
def rp4:=Z1 (@frzS_val) (Z1 (@frzS_par) (Z1 (@frzS_un) (Z1 (@mVar_ap) (Z1 (@rdS_vF) (Z1 (@rdS_vV) (Z1 (@rdS_vU) (Z1 (@rdS_vC) (Z1 (@rdS_vB) (Z1 (@rdS_pF) (Z1 (@rdS_pV) (Z1 (@rdS_pU) (Z1 (@rdS_pC) (Z1 (@rdS_pB) (Z1 (@rdS_oC) (Z1 (@rdS_oB) (Z1 (@mRetVar_ap) (Z1 (@retS_own) (Z1 (@retS_val) (Z1 (@retS_par) (Z1 (@mApp_ap) (Z1 (@mSet_ap) (Z1 (@setS_ok) (Z1 (@setJ_some) (@mAug_ap))))))))))))))))))))))))
def rp5:=Z1 (@augS_ok) (Z1 (@mIf_ap) (Z1 (@ifS_tt) (Z1 (@ifS_ff) ((((((Z1 (@endB_rt) (Z1 (@endB_nx) (Z1 (@fI0_ii) (Z1 (@fU_i) (Z1 (@fIx_l) (Z1 (@fIx_t) (Z1 (@fIx_s) (Z1 (@toR_some) (Z1 (@toB_bl) (Z1 (@fLen_l) (Z1 (@fLen_t) (Z1 (@fLen_s) (Z1 (@fList_l) (Z1 (@fList_t) (Z1 (@fTup_l) (@fTup_t))))))))))))))))))))))))
def rp6:=Z1 (@chks_t) (Z1 (@chkT_t) (Z1 (@chks_I) (Z1 (@chkT_I) (Z1 (@chk_int) (Z1 (@chk_bl) (Z1 (@chk_str) (Z1 (@chk_non) (Z1 (@chk_tI) (Z1 (@f2_ii) (Z1 (@seqW_l) (Z1 (@seqW_t) (Z1 (@seqW_s) (Z1 (@rng1_i) (Z1 (@rng2_i) (Z1 (@gN_U) (Z1 (@gN_V) (Z1 (@gT_t) (Z1 (@gsCons_c) (Z1 (@gsNil_n) (Z1 (@fIsi_ap) (Z1 (@isi_nt) (Z1 (@isi_nl) (Z1 (@isi_lt) (@isi_tl))))))))))))))))))))))))
def rp7:=Z1 (@fIsN_n) (Z1 (@noLs_ints) (Z1 (@fEqS_ii) (Z1 (@fEqS_bb) (Z1 (@fEqS_ss) (Z1 (@fEqS_nn) (Z1 (@fEqS_ni) (@fEqS_in)))))))
def rp8:=Z1 (@oW_n) (Z1 (@oW_s) (Z1 (@chk_oW) (Z1 (@noLs_oW) (Z1 (@chks_O) (Z1 (@chkT_O) (Z1 (@isN_oW) (Z1 (@slotF_oW) (Z1 (@atO_c) (@appO)))))))))
def rp9:=Z1 (@noLs_S) (Z1 (@chks_S) (Z1 (@chkT_S) (Z1 (@atS_c) (Z1 (@appW_S) (Z1 (@cutW_S) (Z1 (@catW_S) (Z1 (@catW_I) (Z1 (@rngW_2) (Z1 (@fEq_tI) (Z1 (@fEq_lI) (Z1 (@fEq_lS) (Z1 (@fEq_ii) (Z1 (@fEq_bb) (Z1 (@fEq_ni) (Z1 (@fEq_in) (Z1 (@fEq_nn) ((Z1 (@fBools_m) (Z1 (@fInts_m) (Z1 (@fInt_i) (Z1 (@fInt_b) (Z1 (@fAbs_i) (Z1 (@mExt_ap) (Z1 (@extS_c) (Z1 (@mRev_ap) (@revS_ok))))))))))))))))))))))))))
def rp10:=Z1 (@gAdd_ap) (Z1 (@gSub_ap) (Z1 (@gLt_ap) (Z1 (@gLe_ap) (Z1 (@gGt_ap) (Z1 (@gGe_ap) (Z1 (@gNeg_ap) (Z1 (@gAdd__ap) (@gSub__ap))))))))
def rp11:=Z1 (@fStr_i) (Z1 (@fIsB_w) (Z1 (@isBW_i) (Z1 (@isBW_n) (Z1 (@isBW_s) (Z1 (@isBW_t) (Z1 (@isBW_l) (@isBW_b)))))))
def rp12:=Z1 (@sCU_ap) (Z1 (@Rcu_t) (Z1 (@Rcu2_ok) (Z1 (@noOwn_nil) (Z1 (@noOwn_v) (Z1 (@noOwn_p) (@noOwn_u))))))
def rp13:=Z1 (@fBest_t) (Z1 (@fBest_l) (@revW_l))
end TP
set_option maxHeartbeats 4000000
open PySem L2 TP
namespace K04
def m_is_count:Rho->R Fl:=
 (mSeq (mIf (tOr' (bTest (bA fIsi (aC (mVar .B 0) (aC (mC (.ty "bool")) aN)))) (tNot' (bTest (bA fIsi (aC (mVar .B 0) (aC (mC (.ty "int")) aN)))))) (sRet (mC (.bl false))) sNx)
  (sRet (vChain (fI0 gLe) (fI0 gLe) (mC (.int 0)) (mVar .B 0) (mC (.int 1000000000)))))
abbrev f_is_count:List W->R W:=runB 1 1 m_is_count
def m_must_be_listed:Rho->R Fl:=
 (mSeq (mIf (tNot' (bTest (bA fIsiT (aC (mVar .B 0) (aC (vTup (aC (mC (.ty "list")) (aC (mC (.ty "tuple")) aN))) aN))))) sNever sNx)
  (mIf (tNot' (bTest (vChain (fI0 gLe) (fI0 gLe) (mVar .B 2) (bA fLen (aC (mVar .B 0) aN)) (mVar .B 3)))) sNever sNx))
abbrev f_must_be_listed:List W->R W:=runB 4 4 m_must_be_listed
def m_made_counts:Rho->R Fl:=
 (mSeq (sDrop (bA f_must_be_listed (aC (mVar .B 0) (aC (mVar .B 1) (aC (mVar .B 2) (aC (mVar .B 2) aN))))))
  (mSeq (sFor (bS (mVar .U 0)) (gN .U 3)
   (mIf (tNot' (bTest (bA f_is_count (aC (mVar .B 3) aN)))) sNever sNx))
  (sRet (bA (fTup false) (aC (mVar .B 0) aN)))))
abbrev f_made_counts:List W->R W:=runB 3 4 m_made_counts
def m_made_move:Rho->R Fl:=
 (mSeq (sDrop (bA f_must_be_listed (aC (mVar .B 0) (aC (mC (.str "a move")) (aC (mC (.int 2)) (aC (mC (.int 2)) aN))))))
  (sRet (vTup (aC (bA f_made_counts (aC (b2 fIx (mVar .B 0) (mC (.int 0))) (aC (mC (.str "a take")) (aC (mVar .B 1) aN)))) (aC (bA f_made_counts (aC (b2 fIx (mVar .B 0) (mC (.int 1))) (aC (mC (.str "a put")) (aC (mVar .B 1) aN)))) aN)))))
abbrev f_made_move:List W->R W:=runB 2 2 m_made_move
def m_moor:Rho->R Fl:=
 (mSeq (sDrop (bA f_must_be_listed (aC (mVar .B 0) (aC (mC (.str "the beginning")) (aC (mC (.int 1)) (aC (mC (.int 6)) aN))))))
  (mSeq (sF 2 (bA fLen (aC (mVar .B 0) aN)))
  (mSeq (sF 3 (bA f_made_counts (aC (mVar .B 0) (aC (mC (.str "the beginning")) (aC (mVar .B 2) aN)))))
  (mSeq (sDrop (bA f_must_be_listed (aC (mVar .B 1) (aC (mC (.str "the moves")) (aC (mC (.int 0)) (aC (mC (.int 8)) aN))))))
  (sFrz 3 (sRet (vTup (aC (mVar .V 3) (aC (bA (fTup true) (aC (vComp 5 (bS (mVar .B 1)) (gN .U 4) yes (bA f_made_move (aC (mVar .B 4) (aC (mVar .B 2) aN)))) aN)) aN)))))))))
abbrev f_moor:List W->R W:=runB 2 4 m_moor
def m__law_cell_at:Rho->R Fl:=
 (mSeq (mIf (bTest (b2 (fI0 gLt) (mVar .B 1) (bA fLen (aC (mVar .B 0) aN)))) (sRet (bChk (b2 fIx (mVar .B 0) (mVar .B 1)))) sNx)
  (sRet (mC (.int 0))))
abbrev f__law_cell_at:List W->R W:=runB 2 2 m__law_cell_at
def m__law_stream:Rho->R Fl:=
 (mSeq (sF 3 (vLst aN))
  (mSeq (sV 4 (b2 (fI cMod gMod) (b2 (fI0 gAdd) (b2 (fI0 gAdd) (b2 (fI CMul gMul) (b2 (fI cMod gMod) (mVar .B 0) (mC (.int 2147483647))) (mC (.int 48271))) (b2 (fI CMul gMul) (b2 (fI CMul gMul) (mVar .B 1) (mVar .B 1)) (mC (.int 69621)))) (mC (.int 11))) (mC (.int 2147483647))))
  (mSeq (sFor (bI rng1 (aC (mVar .B 2) aN)) (gN .U 5)
   (mSeq (sV 4 (b2 (fI cMod gMod) (b2 (fI0 gAdd) (b2 (fI0 gAdd) (b2 (fI0 gAdd) (b2 (fI CMul gMul) (mVar .B 4) (mVar .B 4)) (b2 (fI CMul gMul) (mC (.int 48271)) (mVar .B 4))) (mVar .B 5)) (mVar .B 1)) (mC (.int 2147483647))))
   (mApp 3 (mVar .V 4))))
  (mRetVar .F 3))))
abbrev f__law_stream:List W->R W:=runB 3 6 m__law_stream
def m__law_count:Rho->R Fl:=
 (mSeq (mIf (bTest (b2 (fEqS false) (mVar .B 1) (mC (.int 0)))) (sRet (b2 (fI cMod gMod) (mVar .B 0) (mC (.int 4)))) sNx)
  (mSeq (mIf (bTest (b2 (fEqS false) (mVar .B 1) (mC (.int 1)))) (sRet (bChk (b2 fIx (vLst (aC (b2 (fI cMod gMod) (mVar .B 0) (mC (.int 1000000001))) (aC (mC (.int 1000000000)) (aC (mC (.int 0)) aN)))) (b2 (fI cMod gMod) (b2 (fI CDiv gDiv) (mVar .B 0) (mC (.int 65536))) (mC (.int 3)))))) sNx)
  (sRet (b2 (fI CMul gMul) (b2 (fI cMod gMod) (mVar .B 0) (mC (.int 5))) (b2 (fI cMod gMod) (b2 (fI CDiv gDiv) (mVar .B 0) (mC (.int 5))) (mC (.int 2)))))))
abbrev f__law_count:List W->R W:=runB 2 2 m__law_count
def m__law_counts:Rho->R Fl:=
 (sRet (bA (fTup true) (aC (vComp 3 (bS (mVar .B 0)) (gN .U 2) yes (bA f__law_count (aC (mVar .B 2) (aC (mVar .B 1) aN)))) aN)))
abbrev f__law_counts:List W->R W:=runB 2 2 m__law_counts
def m__law_handed:Rho->R Fl:=
 (mSeq (mIf (bTest (b2 (fEqS false) (b2 (fI cMod gMod) (mVar .B 1) (mC (.int 2))) (mC (.int 1)))) (sRet (bA (fList true) (aC (mVar .C 0) aN))) sNx)
  (sRet (bA (fTup true) (aC (mVar .C 0) aN))))
abbrev f__law_handed:List W->R W:=runX 2 2 m__law_handed
def m__law_row_alike:Rho->R Fl:=
 (mSeq (mIf (tOr' (tNot' (bTest (bA fIsi (aC (mVar .B 0) (aC (mC (.ty "tuple")) aN))))) (bTest (b2 (fEqS true) (bA fLen (aC (mVar .B 0) aN)) (bA fLen (aC (mVar .B 1) aN))))) (sRet (mC (.bl false))) sNx)
  (mSeq (sFor (bI zipR (aC (mVar .U 0) (aC (mVar .U 1) aN))) (gT 2 (gsCons (gN .U 2) (gsCons (gN .U 3) gsNil)))
   (mIf (tOr' (tNot' (bTest (bA fIsi (aC (mVar .B 2) (aC (mC (.ty "int")) aN))))) (tOr' (bTest (bA fIsi (aC (mVar .B 2) (aC (mC (.ty "bool")) aN)))) (bTest (b2 (fEq true) (mVar .B 2) (mVar .B 3))))) (sRet (mC (.bl false))) sNx))
  (sRet (mC (.bl true)))))
abbrev f__law_row_alike:List W->R W:=runB 2 4 m__law_row_alike
def m__law_alike:Rho->R Fl:=
 (mSeq (mIf (tOr' (tNot' (bTest (bA fIsi (aC (mVar .B 0) (aC (mC (.ty "tuple")) aN))))) (tOr' (bTest (b2 (fEqS true) (bA fLen (aC (mVar .B 0) aN)) (mC (.int 2)))) (tNot' (bTest (bA f__law_row_alike (aC (b2 fIx (mVar .B 0) (mC (.int 0))) (aC (mVar .B 1) aN))))))) (sRet (mC (.bl false))) sNx)
  (mSeq (mIf (tOr' (tNot' (bTest (bA fIsi (aC (b2 fIx (mVar .B 0) (mC (.int 1))) (aC (mC (.ty "tuple")) aN))))) (bTest (b2 (fEqS true) (bA fLen (aC (b2 fIx (mVar .B 0) (mC (.int 1))) aN)) (bA fLen (aC (mVar .B 2) aN))))) (sRet (mC (.bl false))) sNx)
  (mSeq (sFor (bI zipR (aC (b2 fIx (mVar .B 0) (mC (.int 1))) (aC (mVar .U 2) aN))) (gT 2 (gsCons (gN .U 3) (gsCons (gN .U 4) gsNil)))
   (mSeq (mIf (tOr' (tNot' (bTest (bA fIsi (aC (mVar .B 3) (aC (mC (.ty "tuple")) aN))))) (bTest (b2 (fEqS true) (bA fLen (aC (mVar .B 3) aN)) (mC (.int 2))))) (sRet (mC (.bl false))) sNx)
   (mIf (tOr' (tNot' (bTest (bA f__law_row_alike (aC (b2 fIx (mVar .B 3) (mC (.int 0))) (aC (b2 fIx (mVar .B 4) (mC (.int 0))) aN))))) (tNot' (bTest (bA f__law_row_alike (aC (b2 fIx (mVar .B 3) (mC (.int 1))) (aC (b2 fIx (mVar .B 4) (mC (.int 1))) aN)))))) (sRet (mC (.bl false))) sNx)))
  (sRet (mC (.bl true))))))
abbrev f__law_alike:List W->R W:=runB 3 5 m__law_alike
def m_law:Rho->R Fl:=
 (mSeq (sF 1 (bA f__law_stream (aC (bA f__law_cell_at (aC (mVar .B 0) (aC (mC (.int 0)) aN))) (aC (mC (.int 1)) (aC (mC (.int 12)) aN)))))
  (mSeq (sV 2 (b2 (fI0 gAdd) (mC (.int 1)) (b2 (fI cMod gMod) (b2 fIx (mVar .B 1) (mC (.int 0))) (mC (.int 6)))))
  (mSeq (sF 3 (bA f__law_counts (aC (vSl true (mVar .C 1) (pS (mC (.int 4))) (pS (b2 (fI0 gAdd) (mC (.int 4)) (mVar .B 2)))) (aC (b2 (fI cMod gMod) (b2 fIx (mVar .B 1) (mC (.int 1))) (mC (.int 3))) aN))))
  (mSeq (sF 4 (vLst aN))
  (mSeq (mDz1 5 (sV 5 (vLst (aC (bA (fList true) (aC (mVar .C 3) aN)) aN))))
  (mSeq (sF 6 (vLst aN))
  (mSeq (sFor (bI rng1 (aC (b2 (fI cMod gMod) (b2 fIx (mVar .B 1) (mC (.int 2))) (mC (.int 9))) aN)) (gN .U 7)
   (mSeq (sF 8 (bA f__law_stream (aC (bA f__law_cell_at (aC (mVar .B 0) (aC (b2 (fI0 gAdd) (mC (.int 1)) (mVar .B 7)) aN))) (aC (b2 (fI0 gAdd) (mC (.int 2)) (mVar .B 7)) (aC (mC (.int 16)) aN)))))
   (mSeq (sF 9 (bA f__law_counts (aC (vSl true (mVar .C 8) (pS (mC (.int 4))) (pS (b2 (fI0 gAdd) (mC (.int 4)) (mVar .B 2)))) (aC (b2 (fI cMod gMod) (b2 fIx (mVar .B 8) (mC (.int 0))) (mC (.int 3))) aN))))
   (mSeq (sF 10 (bA f__law_counts (aC (vSl true (mVar .C 8) (pS (mC (.int 10))) (pS (b2 (fI0 gAdd) (mC (.int 10)) (mVar .B 2)))) (aC (b2 (fI cMod gMod) (b2 fIx (mVar .B 8) (mC (.int 1))) (mC (.int 3))) aN))))
   (mSeq (sFrz 10 (sFrz 9 (mApp 4 (vTup (aC (mVar .V 9) (aC (mVar .V 10) aN))))))
   (mSeq (mDz2 5 (bA (fList true) (aC (mVar .C 9) aN)) (bA (fList true) (aC (mVar .C 10) aN)))
   (mSeq (sFrz 8 (sFrz 5 (sF 11 (vLst (aC (bA f__law_handed (aC (b2 fIx (mVar .C 5) (b1 (fU gNeg) (mC (.int 2)))) (aC (b2 fIx (mVar .C 8) (mC (.int 2))) aN))) (aC (bA f__law_handed (aC (b2 fIx (mVar .C 5) (b1 (fU gNeg) (mC (.int 1)))) (aC (b2 (fI CDiv gDiv) (b2 fIx (mVar .B 8) (mC (.int 2))) (mC (.int 2))) aN))) aN))))))
   (mSeq (mIf (bTest (b2 (fEqS false) (b2 (fI cMod gMod) (b2 (fI CDiv gDiv) (b2 fIx (mVar .B 8) (mC (.int 2))) (mC (.int 4))) (mC (.int 2))) (mC (.int 1)))) (sF 11 (vLst (aC (b2 fIx (mVar .C 5) (b1 (fU gNeg) (mC (.int 2)))) (aC (b2 fIx (mVar .C 5) (b1 (fU gNeg) (mC (.int 1)))) aN)))) sNx)
   (sFrz 8 (sFrz 11 (mApp 6 (bA f__law_handed (aC (mVar .V 11) (aC (b2 (fI CDiv gDiv) (b2 fIx (mVar .B 8) (mC (.int 2))) (mC (.int 8))) aN))))))))))))))
  (mSeq (sU 12 (b2 fIx (mVar .B 5) (mC (.int 0))))
  (mSeq (mIf (bTest (b2 (fEqS false) (b2 (fI cMod gMod) (b2 fIx (mVar .B 1) (mC (.int 3))) (mC (.int 2))) (mC (.int 1)))) (sF 12 (bA (fTup false) (aC (mVar .B 12) aN))) sNx)
  (mSeq (sFrz 6 (sV 13 (bA f__law_handed (aC (mVar .V 6) (aC (b2 (fI CDiv gDiv) (b2 fIx (mVar .B 1) (mC (.int 3))) (mC (.int 2))) aN)))))
  (mSeq (sF 14 (bA f_moor (aC (mVar .B 12) (aC (mVar .B 13) aN))))
  (mSeq (mIf (tNot' (bTest (bA f__law_alike (aC (mVar .B 14) (aC (mVar .B 3) (aC (mVar .B 4) aN)))))) (sRet (mC (.bl false))) sNx)
  (mSeq (sFor (bI rng1 (aC (bA fLen (aC (mVar .B 4) aN)) aN)) (gN .U 7)
   (mIf (tOr' (bTest (b2 (fEq true) (b2 fIx (mVar .B 5) (b2 (fI0 gAdd) (mC (.int 1)) (b2 (fI CMul gMul) (mC (.int 2)) (mVar .B 7)))) (bA (fList true) (aC (b2 fIx (b2 fIx (mVar .C 4) (mVar .C 7)) (mC (.int 0))) aN)))) (bTest (b2 (fEq true) (b2 fIx (mVar .B 5) (b2 (fI0 gAdd) (mC (.int 2)) (b2 (fI CMul gMul) (mC (.int 2)) (mVar .B 7)))) (bA (fList true) (aC (b2 fIx (b2 fIx (mVar .C 4) (mVar .C 7)) (mC (.int 1))) aN))))) (sRet (mC (.bl false))) sNx))
  (mSeq (mIf (tOr' (bTest (b2 (fEq true) (b2 fIx (mVar .B 5) (mC (.int 0))) (bA (fList true) (aC (mVar .C 3) aN)))) (bTest (b2 (fEqS true) (bA fLen (aC (mVar .B 13) aN)) (bA fLen (aC (mVar .B 4) aN))))) (sRet (mC (.bl false))) sNx)
  (mSeq (mFlip 5 15 1 2 11 1000000000)
  (mSeq (sF 16 (bA f_moor (aC (b2 fIx (mVar .B 5) (mC (.int 0))) (aC (vComp 19 (bI rng1 (aC (bA fLen (aC (mVar .B 4) aN)) aN)) (gN .U 18) yes (vTup (aC (b2 fIx (mVar .C 5) (b2 (fI0 gAdd) (mC (.int 1)) (b2 (fI CMul gMul) (mC (.int 2)) (mVar .B 18)))) (aC (b2 fIx (mVar .C 5) (b2 (fI0 gAdd) (mC (.int 2)) (b2 (fI CMul gMul) (mC (.int 2)) (mVar .B 18)))) aN)))) aN))))
  (mSeq (sF 17 (vComp 19 (bI rng1 (aC (bA fLen (aC (mVar .B 4) aN)) aN)) (gN .U 18) yes (vTup (aC (bA (fTup false) (aC (b2 fIx (mVar .B 5) (b2 (fI0 gAdd) (mC (.int 1)) (b2 (fI CMul gMul) (mC (.int 2)) (mVar .B 18)))) aN)) (aC (bA (fTup false) (aC (b2 fIx (mVar .B 5) (b2 (fI0 gAdd) (mC (.int 2)) (b2 (fI CMul gMul) (mC (.int 2)) (mVar .B 18)))) aN)) aN)))))
  (sRet (vAnd (bA f__law_alike (aC (mVar .B 16) (aC (b2 fIx (mVar .B 5) (mC (.int 0))) (aC (mVar .B 17) aN)))) (bA f__law_alike (aC (mVar .B 14) (aC (mVar .B 3) (aC (mVar .B 4) aN)))))))))))))))))))))))
abbrev f_law:List W->R W:=runB 1 18 m_law
end K04
set_option maxHeartbeats 4000000
open PySem L2 TP
namespace K04
--RPX: mDz2_ap, dz2S_ok, rdS_dV, rdS_dC, rdS_dB, rdS_dU, frzS_dz
def rp14:=Z1 (@isi_bb) (Z1 (@isi_bi) (Z1 (@isi_ib) (Z1 (@isi_ii) (Z1 (@isi_tt) (Z1 (@isi_ll) (Z1 (@isi_ni) (Z1 (@isi_nb) (Z1 (@isi_si) (Z1 (@isi_sb) (Z1 (@isi_li) (Z1 (@isi_lb) (Z1 (@isi_ti) (@isi_tb)))))))))))))
def rp15:=Z1 (@Bool.not_true) (Z1 (@Bool.not_false) (Z1 (@Bool.true_or) (Z1 (@Bool.or_true) (Z1 (@Bool.false_or) (Z1 (@Bool.or_false) (Z1 (@Bool.true_and) (Z1 (@Bool.and_true) (Z1 (@Bool.false_and) (Z1 (@Bool.and_false) (Z1 (@Int.sub_zero) (Z1 (@Int.zero_add) (Z1 (@Int.toNat_natCast) (Z1 (@Bool.false_eq_true) (Z1 (@Bool.true_eq_false) (Z1 (@and_true) (Z1 (@true_and) (Z1 (@or_true) (Z1 (@true_or) (@and_self)))))))))))))))))))
def rp18:=Z1 (@List.length_cons.{0}) (Z1 (@List.length_nil.{0}) (Z1 (@List.length_map.{0,0}) (Z1 (@List.length_append.{0}) (Z1 (@List.length_set.{0}) (@List.length_range)))))
def rp16:=Z1 rp14 (Z1 rp15 (Z1 rp13 (Z1 rp12 (Z1 rp11 (Z1 rp10 (Z1 rp9 (Z1 rp8 (Z1 rp0 (Z1 rp1 (Z1 rp2 (Z1 rp3 (Z1 rp4 (Z1 rp5 (Z1 rp6 rp7))))))))))))))
def rp17:=Z1 (@List.map_cons.{0,0}) (Z1 (@List.map_nil.{0,0}) (Z1 (@List.replicate_succ.{0}) (Z1 (@List.replicate_zero.{0}) (Z1 (@List.cons_append.{0}) (Z1 (@List.nil_append.{0}) (Z1 (@List.append_nil.{0}) (Z1 (@R.ok_bind) (Z1 (@R.stuck_bind) (@R.ex_bind)))))))))
def rp19:=Z1 (@beq_self_eq_true.{0}) (Z1 (@Option.isNone_none.{0}) (Z1 (@Option.isNone_some.{0}) (Z1 (@Option.bind_some.{0,0}) (Z1 (@if_true.{1}) (Z1 (@if_false.{1}) (Z1 (@decide_true) (@decide_false)))))))
theorem rdS_dV (zs:List (List Int)):rdS .V (some (.dz zs))=.ok (.lst (zs.map rowI)):=rfl
theorem rdS_dC (zs:List (List Int)):rdS .C (some (.dz zs))=.ok (.lst (zs.map rowI)):=rfl
theorem rdS_dB (zs:List (List Int)):rdS .B (some (.dz zs))=.ok (.lst (zs.map rowI)):=rfl
theorem rdS_dU (zs:List (List Int)):rdS .U (some (.dz zs))=.ok (.lst (zs.map rowI)):=rfl
theorem frzS_dz (zs:List (List Int)) (i:Nat) (ρ:Rho):frzS (some (.dz zs)) i ρ=ρ:=rfl
def dz2S (o:Option Sl) (r1 r2:R W) (i:Nat) (ρ:Rho):R Fl:=match o with
 | some (.dz zs)=>r1>>=fun w1=>match w1 with
  | .lst u1=>(match dzI u1 with
   | some z1=>r2>>=fun w2=>(match w2 with
    | .lst u2=>(match dzI u2 with
     | some z2=>if zs.length<900 then .ok (.nx (ρ.set i (.dz (zs ++ [z1,z2])))) else .stuck
     | none=>.stuck)
    | _=>.stuck)
   | none=>.stuck)
  | _=>.stuck
 | _=>.stuck
theorem mDz2_ap (i:Nat) (m1 m2:Rho->R W) (ρ:Rho):mDz2 i m1 m2 ρ=dz2S (ρ[i]?) (m1 ρ) (m2 ρ) i ρ:=rfl
theorem dz2S_ok (zs:List (List Int)) (u v:List Int) (i:Nat) (ρ:Rho) (h:zs.length<900):dz2S (some (.dz zs)) (.ok (.lst (u.map W.int))) (.ok (.lst (v.map W.int))) i ρ=.ok (.nx (ρ.set i (.dz (zs ++ [u,v])))):=by
 show (match dzI (u.map W.int) with
   | some z1=>(match dzI (v.map W.int) with
     | some z2=>if zs.length<900 then R.ok (Fl.nx (ρ.set i (.dz (zs ++ [z1,z2])))) else .stuck
     | none=>.stuck)
   | none=>.stuck)=_
 rw [dzI_map,dzI_map]
 dsimp only
 rw [if_pos h]
def rpZ:=Z1 rp19 (Z1 rp16 (Z1 rp17 (Z1 rp18 (Z1 @mDz2_ap (Z1 @dz2S_ok (Z1 @rdS_dV (Z1 @rdS_dC (Z1 @rdS_dB (Z1 @rdS_dU (Z1 @frzS_dz (@decide_eq_true_eq)))))))))))
def rpB:=Z1 (@runB_1) (Z1 (@runB_2) (Z1 (@runB_3) (Z1 (@runB_4) (@runB_5))))
local macro_rules | `(tactic| exists $[$es],*)=>`(tactic| simp (disch:=first | with_reducible assumption | omega | (simp only [rp18]; omega)) only [List.getElem?_cons_zero,List.getElem?_cons_succ,List.set_cons_succ,List.set_cons_zero,tyW,isN,simprocAttr,rpZ,$[$es:term],*])
abbrev Mv:=List Int×List Int
abbrev mW (m:Mv):W:=.tup [tI m.1,tI m.2]
abbrev tM_ (ms:List Mv):W:=.tup (ms.map mW)
theorem noL_mW (m:Mv):noL (mW m)=true:=by simp [noL,noLs,noLs_ints]
theorem noLs_M (ms:List Mv):noLs (ms.map mW)=true:=noLs_map mW noL_mW ms
theorem stream_ok {c sa n:Int} (hs0:0<=sa) (hs1:sa<=1000) (hn0:0<=n) (hn1:n<=1000):Ok (f__law_stream [.int c,.int sa,.int n]) fun w=>∃ ns:List Int,w=lI ns/\ns.length=n.toNat/\∀ x∈ns,0<=x/\x<2147483647:=by
 exists rpB,m__law_stream
 refine ok_end (po_fors (fun i ρ=>∃ (ns:List Int) (z:Int) (v:Sl),ρ = [.par (.int c),.par (.int sa),.par (.int n),.own (ns.map W.int),.val (.int z),v]/\(0<=z/\z<2147483647)/\ns.length=i/\∀ x∈ns,0<=x/\x<2147483647)
  ⟨[],_,_,rfl,by omega,rfl,by simp⟩ ?_ ?_)
 ·rintro i w ρ hw ⟨ns,z,v,rfl,hz,hl,hns⟩
  obtain ⟨hi,rfl⟩:=rng_at hw
  refine ⟨_,rfl,?_⟩
  exists rp18
  refine ⟨ns ++ [_],_,_,rfl,by omega,by simp [hl],fun x hx=>?_⟩
  rcases List.mem_append.mp hx with h | h
  ·exact hns x h
  ·have:=List.mem_singleton.mp h; subst this; omega
 ·rintro ρ ⟨ns,z,v,rfl,hz,hl,hns⟩
  exists rp18
  exact ⟨ns,rfl,by simpa using hl,hns⟩
theorem memD {ns:List Int} {P:Int->Prop} (h:∀ x∈ns,P x) {i:Nat} (hi:i<ns.length):P (ns.getD i 0):=mem_getD h hi
def nn (xs:List Int):Prop:=∀ x∈xs,0<=x
def okN (n:Nat) (m:Mv):Prop:=m.1.length=n/\m.2.length=n/\nn m.1/\nn m.2
def cc (xs:List Int):Prop:=∀ x∈xs,0<=x/\x<=1000000000
def okC (n:Nat) (m:Mv):Prop:=m.1.length=n/\m.2.length=n/\cc m.1/\cc m.2
def isSq (w:W) (ws:List W):Prop:=w=.lst ws\/w=.tup ws
theorem listed_ok {w:W} {ws:List W} {what:Str} {lo hi:Int} (hw:isSq w ws) (h0:lo<=(ws.length:Int)) (h1:(ws.length:Int)<=hi):f_must_be_listed [w,.str what,.int lo,.int hi]=.ok .non:=by
 have e:∀ x y:String,x = "list" -> y = "tuple" -> fIsiT [.tup ws,.tup [.ty x,.ty y]]=.ok (.bl true):=fun x y hx hy=>by subst hx hy; rfl
 have e':∀ x y:String,x = "list" -> y = "tuple" -> fIsiT [.lst ws,.tup [.ty x,.ty y]]=.ok (.bl true):=fun x y hx hy=>by subst hx hy; rfl
 have e1:decide (lo<=(ws.length:Int))=true:=decide_eq_true h0
 have e2:decide ((ws.length:Int)<=hi)=true:=decide_eq_true h1
 rcases hw with rfl | rfl
 ·exists rpB,m_must_be_listed,e' _ _ rfl rfl,e1,e2
 ·exists rpB,m_must_be_listed,e _ _ rfl rfl,e1,e2
theorem iscount_ok {z:Int} (h:0<=z/\z<=1000000000):f_is_count [.int z]=.ok (.bl true):=by
 have e1:decide (0<=z)=true:=decide_eq_true h.1
 have e2:decide (z<=1000000000)=true:=decide_eq_true h.2
 exists rpB,m_is_count,e1,e2
theorem made_ok {w:W} {xs:List Int} {what:Str} {n:Nat} (hw:isSq w (xs.map W.int)) (hl:xs.length=n) (h:cc xs):f_made_counts [w,.str what,.int (n:Int)]=.ok (tI xs):=by
 have fin:Ok (f_made_counts [w,.str what,.int (n:Int)]) fun v=>v=tI xs:=by
  have k:=listed_ok (w:=w) (ws:=xs.map W.int) (what:=what) (lo:=(n:Int)) (hi:=(n:Int)) hw (by rw [List.length_map]; omega) (by rw [List.length_map]; omega)
  have hs:seqW w=.ok (xs.map W.int):=by rcases hw with rfl | rfl <;> rfl
  have ht:fTup false [w]=.ok (tI xs):=by
   rcases hw with rfl | rfl
   ·exists rp18
   ·exists rp18
  exists rpB,m_made_counts,k,hs
  refine ok_end (po_fors (fun i ρ=>∃ a:Sl,ρ = [.par w,.par (.str what),.par (.int n),a]) ⟨_,rfl⟩ ?_ ?_)
  ·rintro i u ρ hu ⟨a,rfl⟩
   obtain ⟨hi,rfl⟩:=map_at hu
   have k1:=iscount_ok (memD (P:=fun x=>0<=x/\x<=1000000000) h hi)
   refine ⟨_,rfl,?_⟩
   exists k1
   exact ⟨_,rfl⟩
  ·rintro ρ ⟨a,rfl⟩
   exists ht
 obtain ⟨v,e,rfl⟩:=fin
 exact e
def mvH (n:Nat) (w:W) (m:Mv):Prop:=∃ p q,isSq w [p,q]/\isSq p (m.1.map W.int)/\isSq q (m.2.map W.int)/\okC n m
theorem mmove_ok {n:Nat} {w:W} {m:Mv} (h:mvH n w m):f_made_move [w,.int (n:Int)]=.ok (mW m):=by
 obtain ⟨p,q,hw,hp,hq,hm⟩:=h
 have k:=fun what=>listed_ok (w:=w) (ws:=[p,q]) (what:=what) (lo:=2) (hi:=2) hw (by simp) (by simp)
 have k1:=fun what=>made_ok (what:=what) hp hm.1 hm.2.2.1
 have k2:=fun what=>made_ok (what:=what) hq hm.2.1 hm.2.2.2
 have a0:fIx w (.int 0)=.ok p:=by rcases hw with rfl | rfl <;> rfl
 have a1:fIx w (.int 1)=.ok q:=by rcases hw with rfl | rfl <;> rfl
 exists rpB,m_made_move,k,a0,a1,k1,k2,chk_no (noL_tI m.1),chk_no (noL_tI m.2)
theorem moor_ok {wb wm:W} {b:List Int} {ps:List (W×Mv)} (hwb:isSq wb (b.map W.int)) (hwm:isSq wm (ps.map (·.1))) (h1:1<=b.length) (h6:b.length<=6) (hb:cc b) (hm:∀ p∈ps,mvH b.length p.1 p.2) (hl:ps.length<=8):f_moor [wb,wm]=.ok (.tup [tI b,tM_ (ps.map (·.2))]):=by
 have k1:=fun what=>listed_ok (ws:=b.map W.int) (what:=what) (lo:=1) (hi:=6) hwb (by rw [List.length_map]; omega) (by rw [List.length_map]; omega)
 have k2:=fun what=>made_ok (what:=what) (xs:=b) hwb rfl hb
 have k3:=fun what=>listed_ok (ws:=ps.map (·.1)) (what:=what) (lo:=0) (hi:=8) hwm (by rw [List.length_map]; omega) (by rw [List.length_map]; omega)
 have hs:seqW wm=.ok (ps.map (·.1)):=by rcases hwm with rfl | rfl <;> rfl
 have hlen:fLen [wb]=.ok (.int (b.length:Int)):=by
  rcases hwb with rfl | rfl
  ·exists rp18
  ·exists rp18
 have e:∀ N mg me ρ (h:∀ p∈ps,∃ ρ1,mg p.1 (ρ++List.replicate (N-ρ.length) Sl.un)=some ρ1/\me ρ1=.ok (mW p.2)),mComp N mg yes me (ps.map (·.1)) ρ=.ok (.lst (ps.map fun p=>mW p.2)):=fun N mg me ρ h=>
  mComp_all (fun p=>mW p.2) (·.1) ps ρ (by omega) h
 have em:(ps.map fun p=>mW p.2)=(ps.map (·.2)).map mW:=by rw [List.map_map]; rfl
 exists rpB,m_moor,k1,hlen,k2,k3,hs
 rw [e]
 ·rw [em]
  generalize ps.map (·.2)=ms
  exists chkT_no (noLs_M ms),chk_no (noL_tI b)
 ·intro p hp
  have k4:=mmove_ok (hm p hp)
  refine ⟨_,rfl,?_⟩
  exists k4
theorem ralike_ok {w:W} {zs:List Int} (hw:isSq w (zs.map W.int)):f__law_row_alike [tI zs,w]=.ok (.bl true):=by
 have fin:Ok (f__law_row_alike [tI zs,w]) fun v=>v=.bl true:=by
  have hs:seqW w=.ok (zs.map W.int):=by rcases hw with rfl | rfl <;> rfl
  have hz:=zipR_2 (tI zs) w _ _ rfl hs
  rw [zipW_I2 rfl] at hz
  have hlen:fLen [w]=.ok (.int (zs.length:Int)):=by
   rcases hw with rfl | rfl
   ·exists rp18
   ·exists rp18
  have e0:(!decide ((zs.length:Int)=(zs.length:Int)))=false:=by simp
  exists rpB,m__law_row_alike,hz,hlen,e0
  refine ok_end (po_fors (fun i ρ=>∃ (a c:Sl),ρ = [.par (tI zs),.par w,a,c]) ⟨_,_,rfl⟩ ?_ ?_)
  ·rintro i u ρ hu ⟨a,c,rfl⟩
   obtain ⟨hi,rfl⟩:=range_at hu
   refine ⟨_,rfl,?_⟩
   generalize zs.getD i 0=z
   have e1:fEq true (.int z) (.int z)=.ok (.bl false):=by rw [fEq_ii]; simp
   exists e1
   exact ⟨_,_,rfl⟩
  ·rintro ρ ⟨a,c,rfl⟩
   exists rp18
 obtain ⟨v,e,rfl⟩:=fin
 exact e
theorem zipM {ms:List Mv}:(zipW [ms.map mW,ms.map mW]).map W.tup=ms.map fun m=>W.tup [mW m,mW m]:=by
 induction ms with
 | nil=>rfl
 | cons m ms ih=>
  show W.tup [mW m,mW m]::(zipW [ms.map mW,ms.map mW]).map W.tup=_
  rw [ih]; rfl
theorem alike_ok {wb wm:W} {b:List Int} {ms:List Mv} (hwb:isSq wb (b.map W.int)) (hwm:isSq wm (ms.map mW)):f__law_alike [.tup [tI b,tM_ ms],wb,wm]=.ok (.bl true):=by
 have fin:Ok (f__law_alike [.tup [tI b,tM_ ms],wb,wm]) fun v=>v=.bl true:=by
  have hs:seqW wm=.ok (ms.map mW):=by rcases hwm with rfl | rfl <;> rfl
  have hz:=zipR_2 (tM_ ms) wm _ _ rfl hs
  rw [zipM] at hz
  have hlen:fLen [wm]=.ok (.int (ms.length:Int)):=by
   rcases hwm with rfl | rfl
   ·exists rp18
   ·exists rp18
  have e0:(!decide ((ms.length:Int)=(ms.length:Int)))=false:=by simp
  have k1:=ralike_ok hwb
  have a0:∀ x y:W,L2.atI [x,y] 0=some x:=fun _ _=>rfl
  have a1:∀ x y:W,L2.atI [x,y] 1=some y:=fun _ _=>rfl
  have k2:∀ xs:List Int,f__law_row_alike [tI xs,tI xs]=.ok (.bl true):=fun xs=>ralike_ok (.inr rfl)
  have d22:(!decide (((2:Nat):Int)=2))=false:=rfl
  exists rpB,m__law_alike,a0,a1,k1,hlen,e0,d22,hz
  refine ok_end (po_fors (fun i ρ=>∃ (a c:Sl),ρ = [.par (.tup [tI b,tM_ ms]),.par wb,.par wm,a,c]) ⟨_,_,rfl⟩ ?_ ?_)
  ·rintro i u ρ hu ⟨a,c,rfl⟩
   rw [List.getElem?_map] at hu
   obtain ⟨m,hm,rfl⟩:=Option.map_eq_some_iff.mp hu
   refine ⟨_,rfl,?_⟩
   exists a0,a1,k2,d22
   exact ⟨_,_,rfl⟩
  ·rintro ρ ⟨a,c,rfl⟩
   exists rp18
 obtain ⟨v,e,rfl⟩:=fin
 exact e
theorem runX_ap {n N:Nat} {m:Rho->R Fl} {ws:List W} (h:ws.length=n):runX n N m ws=endB (m (ws.map Sl.val++List.replicate (N-n) Sl.un)):=by unfold runX; rw [if_pos h]; rfl
theorem runX_2 {N:Nat} {m:Rho->R Fl} (a b:W):runX 2 N m [a,b]=endB (m (Sl.val a::Sl.val b::List.replicate (N-2) Sl.un)):=runX_ap rfl
theorem handed_ok {w:W} {ws:List W} {z:Int} (hw:isSq w ws):Ok (f__law_handed [w,.int z]) fun v=>isSq v ws:=by
 have e1:fList true [w]=.ok (.lst ws):=by rcases hw with rfl | rfl <;> rfl
 have e2:fTup true [w]=.ok (.tup ws):=by rcases hw with rfl | rfl <;> rfl
 exists runX_2,m__law_handed
 refine ok_end (po_ifs (fun h=>?_) (fun h=>?_))
 ·exists e1
  exact .inl rfl
 ·exists e2
  exact .inr rfl
theorem cell_ok {ns:List Int} {k:Int} (h0:0<=k):Ok (f__law_cell_at [.scr (ns.map W.int),.int k]) fun w=>∃ z:Int,w=.int z:=by
 by_cases h:k<(ns.length:Int)
 ·exists rpB,m__law_cell_at,decide_eq_true h
  exact ⟨_,rfl,_,rfl⟩
 ·exists rpB,m__law_cell_at,decide_eq_false h
  exact ⟨_,rfl,_,rfl⟩
theorem at3 {z d:Int} (h0:0<=d) (h:d<3) (hz:0<=z/\z<=1000000000):∃ p:Int,L2.atI [W.int z,W.int 1000000000,W.int 0] d=some (.int p)/\0<=p/\p<=1000000000:=by
 have:d=0\/d=1\/d=2:=by omega
 rcases this with rfl | rfl | rfl
 ·exact ⟨z,rfl,hz⟩
 ·exact ⟨_,rfl,by omega⟩
 ·exact ⟨_,rfl,by omega⟩
theorem count_ok {x k:Int} (hx:0<=x/\x<2147483647):Ok (f__law_count [.int x,.int k]) fun w=>∃ z:Int,w=.int z/\0<=z/\z<=1000000000:=by
 obtain ⟨p,ep,hp⟩:=at3 (z:=x%1000000001) (d:=x/65536%3) (by omega) (by omega) (by omega)
 exists rpB,m__law_count
 refine ok_end (po_ifs (fun h=>?_) (fun h=>?_))
 ·exists rp18
  exact ⟨_,rfl,by omega⟩
 exists rp18
 refine po_ifs (fun h=>?_) (fun h=>?_)
 ·exists ep
  exact ⟨_,rfl,hp⟩
 ·have h1:0<=x%5*(x/5%2):=Int.mul_nonneg (by omega) (by omega)
  have h2:x%5*(x/5%2)<=4*1:=Int.mul_le_mul (by omega) (by omega) (by omega) (by omega)
  exists rp18
  exact ⟨_,rfl,h1,by omega⟩
theorem paired_cc {α:Type} {q:α->Int->Prop} (h:∀ a z,q a z->0<=z/\z<=1000000000):∀ {as:List α} {zs:List Int},Paired q as zs->cc zs
 | _,_,.nil=>fun z hz=>by cases hz
 | _,_,.cons a r=>fun z hz=>by
  rcases List.mem_cons.mp hz with rfl | e
  ·exact h _ _ a
  ·exact paired_cc h r z e
theorem counts_ok {xs:List Int} {k:Int} (hl:xs.length<=1000) (hx:∀ x∈xs,0<=x/\x<2147483647):Ok (f__law_counts [lI xs,.int k]) fun w=>∃ zs:List Int,w=tI zs/\zs.length=xs.length/\cc zs:=by
 exists rpB,m__law_counts
 refine ok_end (po_ret (ok_tcomp (fun _ z=>0<=z/\z<=1000000000) hl (fun a ha=>?_) fun zs q=>?_))
 ·obtain ⟨_,e,z,rfl,hz⟩:=count_ok (k:=k) (hx a ha)
  refine ⟨_,rfl,?_⟩
  exists e
  exact ⟨_,rfl,_,rfl,hz⟩
 ·exact ⟨zs,rfl,(Paired.length q).symm,paired_cc (fun _ _ h=>h) q⟩
def rowsD (b:List Int) (ms:List Mv):List (List Int):=b::ms.flatMap fun m=>[m.1,m.2]
theorem rowsD_snoc (b:List Int) (ms:List Mv) (m:Mv):rowsD b (ms ++ [m])=rowsD b ms ++ [m.1,m.2]:=by
 unfold rowsD
 rw [List.flatMap_append]; simp
theorem rowsD_len (b:List Int) (ms:List Mv):(rowsD b ms).length=1+2*ms.length:=by
 unfold rowsD
 induction ms with
 | nil=>rfl
 | cons m ms ih=>simp at ih ⊢; omega
theorem rowsD_at (b:List Int):∀ (ms:List Mv) (k:Nat) (m:Mv),ms[k]?=some m->(rowsD b ms)[1+2*k]?=some m.1/\(rowsD b ms)[2+2*k]?=some m.2
 | [],k,m,h=>by cases h
 | x::ms,0,m,h=>by cases h; exact ⟨rfl,rfl⟩
 | x::ms,k+1,m,h=>by
  obtain ⟨i1,i2⟩:=rowsD_at b ms k m h
  have e:rowsD b (x::ms)=b::x.1::x.2::(ms.flatMap fun m=>[m.1,m.2]):=rfl
  rw [show 1+2*(k+1)=(2*k)+1+1+1 by omega,show 2+2*(k+1)=(1+2*k)+1+1+1 by omega,e]
  rw [show 1+2*k=2*k+1 by omega] at i1
  rw [show 2+2*k=1+2*k+1 by omega] at i2
  exact ⟨i1,i2⟩
theorem atR {zs:List (List Int)} {k:Nat} {z:List Int} (h:zs[k]?=some z):L2.atI (zs.map rowI) (k:Int)=some (rowI z):=atW_of (by rw [List.getElem?_map,h]; rfl)
theorem rowsD_l2 (zs:List (List Int)) (u v:List Int):L2.atI ((zs ++ [u,v]).map rowI) (-2)=some (rowI u)/\L2.atI ((zs ++ [u,v]).map rowI) (-1)=some (rowI v):=by
 have hl:((zs ++ [u,v]).map rowI).length=zs.length+2:=by simp
 have i2:ixN (zs.length+2) (-2)=some zs.length:=by
  unfold ixN
  rw [if_neg (by omega),if_pos (by omega)]
  congr 1
  omega
 have i1:ixN (zs.length+2) (-1)=some (zs.length+1):=by
  unfold ixN
  rw [if_neg (by omega),if_pos (by omega)]
  congr 1
  omega
 unfold L2.atI
 rw [hl,i1,i2]
 simp
def flR (q:Nat) (zs:List Int):List Int:=zs.set q (1000000000-zs.getD q 0)
theorem flR_len (q:Nat) (zs:List Int):(flR q zs).length=zs.length:=by simp [flR]
theorem flR_cc {q:Nat} {zs:List Int} (hq:q<zs.length) (h:cc zs):cc (flR q zs):=fun x hx=>by
 unfold flR at hx
 rcases List.mem_or_eq_of_mem_set hx with z | z
 ·exact h x z
 ·have:=memD (P:=fun x=>0<=x/\x<=1000000000) h hq
  omega
theorem flA_ok {n q:Nat} {z:Int} (hz:z=(q:Int)) (hq:q<n):∀ zs:List (List Int),(∀ y∈zs,y.length=n)->flA 1000000000 z zs=some (zs.map (flR q))
 | [],_=>rfl
 | y::zs,h=>by
  have hy:=h y List.mem_cons_self
  have e:flI 1000000000 z y=some (flR q y):=by
   unfold flI
   have:ixN y.length z=some q:=by
    unfold ixN
    rw [if_pos (by omega),if_pos (by omega),hz,Int.toNat_natCast]
   rw [this]; rfl
  unfold flA
  rw [e,flA_ok hz hq zs fun y hy=>h y (List.mem_cons_of_mem _ hy)]; rfl
theorem rowsD_all {P:List Int->Prop} {b:List Int} {ms:List Mv} (hb:P b) (hm:∀ m∈ms,P m.1/\P m.2):∀ y∈rowsD b ms,P y:=fun y hy=>by
 rcases List.mem_cons.mp hy with rfl | hy
 ·exact hb
 ·obtain ⟨m,h1,h2⟩:=List.mem_flatMap.mp hy
  rcases List.mem_cons.mp h2 with rfl | h2
  ·exact (hm m h1).1
  ·rw [List.mem_singleton.mp h2]; exact (hm m h1).2
theorem rowsD_map (f:List Int->List Int) (b:List Int) (ms:List Mv):(rowsD b ms).map f=rowsD (f b) (ms.map fun m=>(f m.1,f m.2)):=by
 unfold rowsD
 rw [List.map_cons]
 congr 1
 induction ms with
 | nil=>rfl
 | cons m ms ih=>simp at ih ⊢; exact ih
theorem cut_at {xs:List Int} {a n:Nat} (h:a+n<=xs.length):(cutI xs (some (a:Int)) (some ((a:Int)+(n:Int)))).length=n:=by
 have e:(some ((a:Int)+(n:Int)))=some (((a+n:Nat)):Int):=by push_cast; rfl
 rw [e]
 unfold cutI
 rw [HT.sIx_nat,HT.sIx_nat,List.length_take,List.length_drop]
 omega
theorem dz1_ok {i:Nat} {m:Rho->R Fl} {ρ ρ':Rho} {b:List Int} (h:m ρ=.ok (.nx ρ')) (e:ρ'[i]?=some (.val (.lst [.lst (b.map W.int)]))):mDz1 i m ρ=.ok (.nx (ρ'.set i (.dz [b]))):=by
 unfold mDz1
 rw [h,R.ok_bind]
 dsimp only
 rw [e]
 dsimp only
 rw [dzI_map]
theorem andThen_nx (ρ:Rho) (k:Rho->R Fl):andThen (.ok (.nx ρ)) k=k ρ:=rfl
theorem fLen_sq {w:W} {ws:List W} (h:isSq w ws):fLen [w]=.ok (.int (ws.length:Int)):=by
 rcases h with rfl | rfl
 ·exists rp18
 ·exists rp18
theorem flip_ok {s0 s6 s7 s8 s9 sa sb sc sd sf sg sh:Sl} {xs:List Int} {n:Nat} {b:List Int} {ms:List Mv} {zs:List (List Int)} {fo:W} {q:Nat} (hx:xs.length=12) (hn:0<n) (hq:xs.getD 11 0%(n:Int)=(q:Int)) (hqn:q<n) (hz:∀ y∈zs,y.length=n) (hf:noL fo=true) :
  mFlip 5 15 1 2 11 1000000000 [s0,.own (xs.map W.int),.val (.int (n:Int)),.val (tI b),.own (ms.map mW),.dz zs,s6,s7,s8,s9,sa,sb,sc,sd,.val fo,sf,sg,sh] =
   .ok (.nx [clS s0,.own (xs.map W.int),.val (.int (n:Int)),.val (tI b),.own (ms.map mW),.dz (zs.map (flR q)),clS s6,clS s7,clS s8,clS s9,clS sa,clS sb,clS sc,clS sd,.val fo,.un,clS sg,clS sh]):=by
 have e:L2.atI (xs.map W.int) 11=some (.int (xs.getD 11 0)):=atW_nat (ns:=xs) (k:=11) (by omega)
 have c1:clS (.own (xs.map W.int))=.own (xs.map W.int):=if_pos (noLs_ints xs)
 have c2:clS (.own (ms.map mW))=.own (ms.map mW):=if_pos (noLs_M ms)
 have c3:clS (.val (tI b))=.val (tI b):=if_pos (noL_tI b)
 have c4:clS (.val fo)=.val fo:=if_pos hf
 have hn':0<(n:Int):=by omega
 have h0:=flA_ok hq hqn zs hz
 show (match L2.atI (xs.map W.int) 11 with
  | some (.int y)=>if 0<(n:Int)/\15<18/\15≠5/\15≠1/\15≠2 then (match flA 1000000000 (y%(n:Int)) zs with
   | some us=>R.ok (Fl.nx ((([s0,.own (xs.map W.int),.val (.int (n:Int)),.val (tI b),.own (ms.map mW),.dz zs,s6,s7,s8,s9,sa,sb,sc,sd,.val fo,sf,sg,sh].map clS).set 15 .un).set 5 (.dz us)))
   | none=>.stuck) else .stuck
  | _=>.stuck)=_
 rw [e]
 dsimp only
 rw [if_pos ⟨hn',by decide,by decide,by decide,by decide⟩,h0]
 show R.ok (Fl.nx [clS s0,clS (.own (xs.map W.int)),clS (.val (.int (n:Int))),clS (.val (tI b)),clS (.own (ms.map mW)),.dz (zs.map (flR q)),clS s6,clS s7,clS s8,clS s9,clS sa,clS sb,clS sc,clS sd,clS (.val fo),.un,clS sg,clS sh])=_
 rw [c1,c2,c3,c4]; rfl
theorem at_b {b:List Int} {ms:List Mv}:L2.atI ((rowsD b ms).map rowI) 0=some (rowI b):=atR (k:=0) (z:=b) rfl
theorem at_1 {b:List Int} {ms:List Mv} {k:Nat} {m:Mv} (h:ms[k]?=some m):L2.atI ((rowsD b ms).map rowI) (1+2*(k:Int))=some (rowI m.1)/\L2.atI ((rowsD b ms).map rowI) (2+2*(k:Int))=some (rowI m.2):=by
 obtain ⟨h1,h2⟩:=rowsD_at b ms k m h
 have a1:=atR h1
 have a2:=atR h2
 rw [show ((1+2*k:Nat):Int)=1+2*(k:Int) by omega] at a1
 rw [show ((2+2*k:Nat):Int)=2+2*(k:Int) by omega] at a2
 exact ⟨a1,a2⟩
theorem isSq_row (z:List Int):isSq (rowI z) (z.map W.int):=.inl rfl
theorem shp_row (z:List Int):fEq true (rowI z) (lI z)=.ok (.bl false):=fEq_self (shp_lI 7 z)
theorem law_pure (ns:List Int) (h:ns.length<=63):f_law [.scr (ns.map W.int)]=.ok (.bl true):=by
 have fin:Ok (f_law [.scr (ns.map W.int)]) fun v=>v=.bl true:=by
  obtain ⟨_,ec,c,rfl⟩:=cell_ok (ns:=ns) (k:=0) (by omega)
  obtain ⟨_,es,xs,rfl,hxl,hx⟩:=stream_ok (c:=c) (sa:=1) (n:=12) (by omega) (by omega) (by omega) (by omega)
  have hxl:xs.length=12:=hxl
  have hx0:=memD hx (i:=0) (by omega)
  have hx2:=memD hx (i:=2) (by omega)
  obtain ⟨n,hn⟩:∃ m:Nat,1+xs.getD 0 0%6=(m:Int):=⟨(1+xs.getD 0 0%6).toNat,by omega⟩
  obtain ⟨M,hM⟩:∃ m:Nat,xs.getD 2 0%9=(m:Int):=⟨(xs.getD 2 0%9).toNat,by omega⟩
  have hn6:1<=n/\n<=6:=by omega
  have hM8:M<=8:=by omega
  have hcl:(cutI xs (some 4) (some (4+(n:Int)))).length=n:=cut_at (xs:=xs) (a:=4) (n:=n) (by omega)
  obtain ⟨_,eb,b,rfl,hbl,hbc⟩:=counts_ok (xs:=cutI xs (some 4) (some (4+(n:Int)))) (k:=xs.getD 1 0%3) (by omega) (cutI_mem hx)
  rw [hcl] at hbl
  have d1:sV 5 (vLst (aC (bA (fList true) (aC (mVar .C 3) aN)) aN)) [.par (.scr (ns.map W.int)),.own (xs.map W.int),.val (.int (n:Int)),.val (tI b),.own [],.un,.un,.un,.un,.un,.un,.un,.un,.un,.un,.un,.un,.un]=.ok (.nx [.par (.scr (ns.map W.int)),.own (xs.map W.int),.val (.int (n:Int)),.val (tI b),.own [],.val (.lst [.lst (b.map W.int)]),.un,.un,.un,.un,.un,.un,.un,.un,.un,.un,.un,.un]):=by
   exists rp18
  exists rpB,m_law,ec,es,hn,eb
  refine ok_end ?_
  rw [dz1_ok (i:=5) (b:=b) d1 rfl]
  exists hM
  refine po_fors (fun i ρ=>∃ (ms:List Mv) (hs:List (W×Mv)) (a7 a8 a9 a10 a11:Sl),ρ = [.par (.scr (ns.map W.int)),.own (xs.map W.int),.val (.int (n:Int)),.val (tI b),.own (ms.map mW),.dz (rowsD b ms),.own (hs.map (·.1)),a7,a8,a9,a10,a11,.un,.un,.un,.un,.un,.un]/\ms.length=i/\hs.map (·.2)=ms/\∀ p∈hs,mvH n p.1 p.2) ⟨[],[],_,_,_,_,_,rfl,rfl,rfl,fun p hp=>by cases hp⟩ ?_ ?_
  ·rintro i u ρ hu ⟨ms,hs,a7,a8,a9,a10,a11,rfl,hml,hhs,hh⟩
   obtain ⟨hi,rfl⟩:=rng_at hu
   obtain ⟨_,ec2,c2,rfl⟩:=cell_ok (ns:=ns) (k:=1+(i:Int)) (by omega)
   obtain ⟨_,es2,ys,rfl,hyl,hy⟩:=stream_ok (c:=c2) (sa:=2+(i:Int)) (n:=16) (by omega) (by omega) (by omega) (by omega)
   have hyl:ys.length=16:=hyl
   have l1:(cutI ys (some 4) (some (4+(n:Int)))).length=n:=cut_at (xs:=ys) (a:=4) (n:=n) (by omega)
   have l2:(cutI ys (some 10) (some (10+(n:Int)))).length=n:=cut_at (xs:=ys) (a:=10) (n:=n) (by omega)
   obtain ⟨_,e1,t,rfl,htl,htc⟩:=counts_ok (xs:=cutI ys (some 4) (some (4+(n:Int)))) (k:=ys.getD 0 0%3) (by omega) (cutI_mem hy)
   obtain ⟨_,e2,p,rfl,hpl,hpc⟩:=counts_ok (xs:=cutI ys (some 10) (some (10+(n:Int)))) (k:=ys.getD 1 0%3) (by omega) (cutI_mem hy)
   rw [l1] at htl
   rw [l2] at hpl
   have hrl:(rowsD b ms).length<900:=by rw [rowsD_len]; omega
   obtain ⟨r2,r1⟩:=rowsD_l2 (rowsD b ms) t p
   obtain ⟨w1,k1,q1⟩:=handed_ok (z:=ys.getD 2 0) (isSq_row t)
   obtain ⟨w2,k2,q2⟩:=handed_ok (z:=ys.getD 2 0/2) (isSq_row p)
   have hmlen:(ms.map mW).length<1000:=by rw [List.length_map]; omega
   have hhl:hs.length=ms.length:=by rw [<- hhs,List.length_map]
   have hhlen:(hs.map (·.1)).length<1000:=by rw [List.length_map]; omega
   have em:ms.map mW ++ [W.tup [tI t,tI p]]=(ms ++ [(t,p)]).map mW:=by rw [List.map_append]; rfl
   have er:rowsD b ms ++ [t,p]=rowsD b (ms ++ [(t,p)]):=(rowsD_snoc b ms (t,p)).symm
   rw [er] at r1 r2
   obtain ⟨HW,hHW⟩:∃ HW,HW=hs.map (·.1):=⟨_,rfl⟩
   rw [<- hHW] at hhlen ⊢
   refine ⟨_,rfl,?_⟩
   exists ec2,es2,e1,e2,em,er,r1,r2,k1,k2
   have hmv:okC n (t,p):=⟨htl,hpl,htc,hpc⟩
   refine po_cut (fun ρ=>∃ (p1 p2:W),ρ = [.par (.scr (ns.map W.int)),.own (xs.map W.int),.val (.int (n:Int)),.val (tI b),.own ((ms ++ [(t,p)]).map mW),.dz (rowsD b (ms ++ [(t,p)])),.own HW,.par (.int (i:Int)),.val (.lst (ys.map W.int)),.val (tI t),.val (tI p),.own [p1,p2],.un,.un,.un,.un,.un,.un]/\isSq p1 (t.map W.int)/\isSq p2 (p.map W.int)) ?_ ?_
   ·refine po_if (fun h=>?_) (fun h=>?_)
    ·exists r1,r2
     exact ⟨_,_,rfl,isSq_row t,isSq_row p⟩
    ·exists rp18
     exact ⟨_,_,rfl,q1,q2⟩
   rintro ρ ⟨p1,p2,rfl,hp1,hp2⟩
   obtain ⟨w3,k3,q3⟩:=handed_ok (w:=.lst [p1,p2]) (ws:=[p1,p2]) (z:=ys.getD 2 0/8) (.inl rfl)
   exists k3
   refine ⟨ms ++ [(t,p)],hs ++ [(w3,(t,p))],_,_,_,_,_,by rw [hHW,List.map_append (f:=fun x:W×Mv=>x.1)]; rfl,by simp [hml],by rw [List.map_append,hhs]; rfl,fun x hx=>?_⟩
   rcases List.mem_append.mp hx with z | z
   ·exact hh x z
   ·rw [List.mem_singleton.mp z]; exact ⟨p1,p2,q3,hp1,hp2,hmv⟩
  ·rintro ρ ⟨ms,hs,a7,a8,a9,a10,a11,rfl,hml,hhs,hh⟩
   rw [List.length_map,List.length_range] at hml
   have hhl:hs.length=ms.length:=by rw [<- hhs,List.length_map]
   have ab:=at_b (b:=b) (ms:=ms)
   have hok:∀ m∈ms,okC n m:=fun m hm=>by
    rw [<- hhs] at hm
    obtain ⟨x,hx,rfl⟩:=List.mem_map.mp hm
    obtain ⟨_,_,_,_,_,q⟩:=hh x hx
    exact q
   exists ab
   refine po_cut (fun ρ=>∃ (s12:Sl) (sw:W),ρ = [.par (.scr (ns.map W.int)),.own (xs.map W.int),.val (.int (n:Int)),.val (tI b),.own (ms.map mW),.dz (rowsD b ms),.own (hs.map (·.1)),a7,a8,a9,a10,a11,s12,.un,.un,.un,.un,.un]/\rdS .B (some s12)=.ok sw/\isSq sw (b.map W.int)) ?_ ?_
   ·refine po_if (fun h=>?_) (fun h=>?_)
    ·exists rp18
     exact ⟨_,_,rfl,rfl,.inr rfl⟩
    ·exists rp18
     exact ⟨_,_,rfl,rfl,.inl rfl⟩
   rintro ρ ⟨s12,sw,rfl,hs12,hsw⟩
   obtain ⟨rw_,k1,q1⟩:=handed_ok (w:=.lst (hs.map (·.1))) (ws:=hs.map (·.1)) (z:=xs.getD 3 0/2) (.inl rfl)
   have k2:=moor_ok (wb:=sw) (wm:=rw_) (b:=b) (ps:=hs) hsw q1 (by omega) (by omega) hbc (by rw [hbl]; exact hh) (by omega)
   rw [hhs] at k2
   have k3:=alike_ok (wb:=tI b) (wm:=.lst (ms.map mW)) (b:=b) (ms:=ms) (.inr rfl) (.inl rfl)
   have k4:=fLen_sq q1
   rw [List.length_map,hhl] at k4
   obtain ⟨HW,hHW⟩:∃ HW,HW=hs.map (·.1):=⟨_,rfl⟩
   rw [<- hHW] at k1 ⊢
   have cf:chk (.tup [tI b,tM_ ms])=.ok (.tup [tI b,tM_ ms]):=chk_no (by
    show noLs [tI b,tM_ ms]=true
    simp only [noLs,noL_tI,Bool.true_and,Bool.and_true]
    exact noLs_M ms)
   exists k1,hs12,k2,k3
   refine po_fors (fun i ρ=>∃ a7:Sl,ρ = [.par (.scr (ns.map W.int)),.own (xs.map W.int),.val (.int (n:Int)),.val (tI b),.own (ms.map mW),.dz (rowsD b ms),.val (.lst HW),a7,a8,a9,a10,a11,s12,.val rw_,.val (.tup [tI b,tM_ ms]),.un,.un,.un]) ⟨_,rfl⟩ ?_ ?_
   ·rintro i u ρ hu ⟨a7,rfl⟩
    obtain ⟨hi,rfl⟩:=rng_at hu
    obtain ⟨m,hm⟩:∃ m,ms[i]?=some m:=⟨ms[i],List.getElem?_eq_getElem hi⟩
    obtain ⟨a1,a2⟩:=at_1 (b:=b) hm
    have am:L2.atI (ms.map mW) (i:Int)=some (mW m):=atW_of (by rw [List.getElem?_map,hm]; rfl)
    have x0:L2.atI [tI m.1,tI m.2] 0=some (tI m.1):=rfl
    have x1:L2.atI [tI m.1,tI m.2] 1=some (tI m.2):=rfl
    refine ⟨_,rfl,?_⟩
    exists a1,a2,am,x0,x1,shp_row m.1,shp_row m.2
    exact ⟨_,rfl⟩
   rintro ρ ⟨a7',rfl⟩
   have hnz:(n:Int)≠0:=by omega
   have g0:=Int.emod_nonneg (xs.getD 11 0) hnz
   have g1:=Int.emod_lt_of_pos (xs.getD 11 0) (show (0:Int)<(n:Int) by omega)
   obtain ⟨q,hq⟩:∃ q:Nat,xs.getD 11 0%(n:Int)=(q:Int):=⟨(xs.getD 11 0%(n:Int)).toNat,by omega⟩
   have hqn:q<n:=by omega
   have hfo:noL (.tup [tI b,tM_ ms])=true:=by
    show noLs [tI b,tM_ ms]=true
    simp only [noLs,noL_tI,Bool.true_and,Bool.and_true]
    exact noLs_M ms
   have eq0:(!decide ((ms.length:Int)=(ms.length:Int)))=false:=by simp
   have kf:=flip_ok (s0:=.par (.scr (ns.map W.int))) (s6:=.val (.lst HW)) (s7:=a7') (s8:=a8) (s9:=a9) (sa:=a10) (sb:=a11) (sc:=s12) (sd:=.val rw_) (sf:=.un) (sg:=.un) (sh:=.un) (b:=b) (ms:=ms) (zs:=rowsD b ms) (fo:=.tup [tI b,tM_ ms]) hxl (by omega) hq hqn (rowsD_all hbl fun m hm=>⟨(hok m hm).1,(hok m hm).2.1⟩) hfo
   rw [rowsD_map] at kf
   have eb':=shp_row b
   exists ab,eb',k4,eq0
   rw [kf]
   obtain ⟨b',hb'⟩:∃ b',b'=flR q b:=⟨_,rfl⟩
   obtain ⟨ms',hms'⟩:∃ ms':List Mv,ms'=ms.map fun m=>(flR q m.1,flR q m.2):=⟨_,rfl⟩
   rw [<- hb',<- hms']
   have hml':ms'.length=ms.length:=by rw [hms',List.length_map]
   have hbl':b'.length=n:=by rw [hb',flR_len]; exact hbl
   have hbc':cc b':=by rw [hb']; exact flR_cc (by omega) hbc
   have hok':∀ m∈ms',okC n m:=fun m hm=>by
    rw [hms'] at hm
    obtain ⟨x,hx,rfl⟩:=List.mem_map.mp hm
    have:=hok x hx
    exact ⟨by rw [flR_len]; exact this.1,by rw [flR_len]; exact this.2.1,flR_cc (by rw [this.1]; exact hqn) this.2.2.1,flR_cc (by rw [this.2.1]; exact hqn) this.2.2.2⟩
   have ab':=at_b (b:=b') (ms:=ms')
   obtain ⟨ps,hps⟩:∃ ps:List (W×Mv),ps=ms'.map fun m=>(W.tup [rowI m.1,rowI m.2],m):=⟨_,rfl⟩
   have e1:∀ N mg me ρ (h:∀ k,k<ms.length->∃ ρ1,mg (.int (k:Nat)) (ρ++List.replicate (N-ρ.length) Sl.un)=some ρ1/\me ρ1=.ok (.tup [rowI (ms'.getD k ([],[])).1,rowI (ms'.getD k ([],[])).2])),mComp N mg yes me ((List.range ms.length).map fun k=>W.int (k:Nat)) ρ=.ok (.lst (ps.map (·.1))):=fun N mg me ρ h=>by
    rw [mComp_all (fun k=>W.tup [rowI (ms'.getD k ([],[])).1,rowI (ms'.getD k ([],[])).2]) _ _ ρ (by simp; omega) (fun k hk=>h k (by simpa using hk))]
    refine congrArg (fun l=>R.ok (W.lst l)) ?_
    rw [hps,List.map_map]
    apply List.ext_getElem?
    intro k
    rw [List.getElem?_map,List.getElem?_map]
    by_cases hk:k<ms.length
    ·rw [List.getElem?_range hk,List.getElem?_eq_getElem (by omega)]
     show some (W.tup [rowI (ms'.getD k ([],[])).1,rowI (ms'.getD k ([],[])).2])=_
     rw [List.getD_eq_getElem?_getD,List.getElem?_eq_getElem (by omega)]; rfl
    ·rw [List.getElem?_eq_none (by simp; omega),List.getElem?_eq_none (by omega)]; rfl
   have e2:∀ N mg me ρ (h:∀ k,k<ms.length->∃ ρ1,mg (.int (k:Nat)) (ρ++List.replicate (N-ρ.length) Sl.un)=some ρ1/\me ρ1=.ok (mW (ms'.getD k ([],[])))),mComp N mg yes me ((List.range ms.length).map fun k=>W.int (k:Nat)) ρ=.ok (.lst (ms'.map mW)):=fun N mg me ρ h=>by
    rw [mComp_all (fun k=>mW (ms'.getD k ([],[]))) _ _ ρ (by simp; omega) (fun k hk=>h k (by simpa using hk))]
    refine congrArg (fun l=>R.ok (W.lst l)) ?_
    apply List.ext_getElem?
    intro k
    rw [List.getElem?_map,List.getElem?_map]
    by_cases hk:k<ms.length
    ·rw [List.getElem?_range hk,List.getElem?_eq_getElem (by omega)]
     show some (mW (ms'.getD k ([],[])))=_
     rw [List.getD_eq_getElem?_getD,List.getElem?_eq_getElem (by omega)]; rfl
    ·rw [List.getElem?_eq_none (by simp; omega),List.getElem?_eq_none (by omega)]; rfl
   have turn:∀ k,k<ms.length->L2.atI ((rowsD b' ms').map rowI) (1+2*(k:Int))=some (rowI (ms'.getD k ([],[])).1)/\L2.atI ((rowsD b' ms').map rowI) (2+2*(k:Int))=some (rowI (ms'.getD k ([],[])).2):=fun k hk=>at_1 (by rw [List.getD_eq_getElem?_getD,List.getElem?_eq_getElem (by omega)]; rfl)
   have k5:=moor_ok (wb:=rowI b') (wm:=.lst (ps.map (·.1))) (b:=b') (ps:=ps) (isSq_row b') (.inl rfl) (by omega) (by omega) hbc' (by
    rw [hps,hbl']
    intro p hp
    obtain ⟨m,hm,rfl⟩:=List.mem_map.mp hp
    exact ⟨rowI m.1,rowI m.2,.inr rfl,isSq_row _,isSq_row _,hok' m hm⟩) (by rw [hps,List.length_map]; omega)
   have eps:ps.map (·.2)=ms':=by rw [hps,List.map_map]; exact List.map_id _
   rw [eps] at k5
   have k6:=alike_ok (wb:=rowI b') (wm:=.lst (ms'.map mW)) (b:=b') (ms:=ms') (isSq_row b') (.inl rfl)
   obtain ⟨PW,hPW⟩:∃ PW,PW=ps.map (·.1):=⟨_,rfl⟩
   rw [<- hPW] at e1 k5
   generalize rowsD b' ms'=RD at *
   exists ab'
   rw [e1]
   rotate_left
   ·intro k hk
    obtain ⟨t1,t2⟩:=turn k hk
    refine ⟨_,rfl,?_⟩
    exists t1,t2
   exists k5
   rw [e2]
   rotate_left
   ·intro k hk
    obtain ⟨t1,t2⟩:=turn k hk
    refine ⟨_,rfl,?_⟩
    exists t1,t2
   exists ab',k6,k3
 obtain ⟨v,e,rfl⟩:=fin
 exact e
end K04
set_option maxHeartbeats 4000000
open PySem L2 TP
namespace K04
def xAdd {K:Frag} {d:Mode}:=(o2_I0 (K:=K) (d:=d) (g:=gAdd) (fun _ _=>rfl) (fun _ _ _=>.int))
def xLe {K:Frag} {d:Mode}:=(o2_I0 (K:=K) (d:=d) (g:=gLe) (fun _ _=>rfl) (fun _ _ _=>.bl))
local macro_rules | `(tactic| trivial)=>`(tactic| first | exact Or.inl rfl | exact Or.inr rfl | exact Or.inr (Or.inl rfl) | exact Or.inr (Or.inr rfl) | assumption | exact ⟨rfl,rfl,rfl,by decide +kernel,rfl,by decide +kernel,by decide +kernel⟩ | exact Room.mono (by assumption) (by decide) | exact ⟨rfl,by decide +kernel,by decide +kernel,by decide +kernel,by decide +kernel,by decide,by decide +kernel,by decide +kernel⟩)
def top (i:Nat):Stmt:=PySem.Challenge.pw_tokenmoor_k04_a_moor.main.body.getD i (.Pass ⟨0,0,0,0⟩)
abbrev hxS (s:String) (t:Nat):Value:=.str (Str.ofString s) t
abbrev hxI (i:Int):Value:=.int i 0
abbrev hxO (c:String) (d:Data):Obj:=⟨.type c,none,d,#[]⟩
abbrev hxE (P:Params) (s:String) (t:Nat) (v:Value):DictEntry:=⟨PyData.keyHash P (Str.ofString s),.str (Str.ofString s) t,v⟩
abbrev hxF (n q:String) (st:Stmt) (dV kV doc pm:Value) (an:Option Addr) (cd ct:Value):Data:=.func (PySem.W.fnOf (Str.ofString n) (Str.ofString q) (defArgs st) (defBody st) (defScope st) dV kV doc pm an cd ct)
abbrev hxG (n:String) (i:Nat) (pm:Value) (c:Nat):Obj:=hxO "function" (hxF n n (top i) .none .none .none pm none (.ref c) .none)
abbrev hxD (n:String) (t:Nat) (l a:Int) (r8:Nat) (r11:Nat) (v13 v14:Value) (r15:Nat) (x16:Int) (t18:Nat):Data:=.fields #[.str (Str.ofString n) t,.str (Str.ofString n) (t+1),.str (Str.ofString "/claim/cut.py") (t+2),hxI l,hxI a,hxI 0,hxI 0,hxI 3,.ref r8,.bool true,hxI 181,.ref r11,.none,v13,v14,.ref r15,hxI x16,hxI l,.str (Str.ofString "/claim/cut.py") t18]
abbrev hxM0:Value:=hxS "law_tokenmoor_k04_a_moor" 272
abbrev hxM1:Value:=hxS "tokenmoor.moors" 223
@[irreducible] def hxheap:Params->Frag:=fun P=>
 (nat_lit 2,⟨.none,none,(.dict #[] 0),#[]⟩) ::
 (nat_lit 3,hxO "dict" (.dict #[hxE P "__name__" 165 (hxS "law_tokenmoor_k04_a_moor" 272),hxE P "__doc__" 166 .none,hxE P "__package__" 167 .none,hxE P "__loader__" 168 (.builtin "__main__.__loader__#opaque"),hxE P "__spec__" 169 .none,hxE P "__annotations__" 170 (.ref 6),hxE P "__builtins__" 171 (.ref 4),hxE P "__file__" 173 (hxS "/claim/cut.py" 172),hxE P "__cached__" 174 .none,hxE P "MoorError" 206 (.ref 24),hxE P "NoMoor" 222 (.ref 37),hxE P "GREATEST_COUNT" 226 (.int 1000000000 225),hxE P "MOST_PLACES" 228 (.int 6 227),hxE P "MOST_MOVES" 230 (.int 8 229),hxE P "is_count" 237 (.ref 46),hxE P "moor" 243 (.ref 51),hxE P "made_move" 251 (.ref 58),hxE P "made_counts" 261 (.ref 65),hxE P "must_be_listed" 271 (.ref 72),hxE P "_law_cell_at" 281 (.ref 79),hxE P "_law_stream" 293 (.ref 86),hxE P "_law_count" 301 (.ref 93),hxE P "_law_counts" 307 (.ref 98),hxE P "_law_handed" 315 (.ref 105),hxE P "_law_row_alike" 325 (.ref 112),hxE P "_law_alike" 336 (.ref 119),hxE P "law" 342 (.ref 124)] 27)) ::
 (nat_lit 6,hxO "dict" (.dict #[] 0)) ::
 (nat_lit 15,hxO "tuple" (.seq #[(.type "ValueError")] 0)) ::
 (nat_lit 22,hxO "tuple" (.seq #[] 0)) ::
 (nat_lit 23,hxO "dict" (.dict #[hxE P "__module__" 196 (hxS "tokenmoor.errors" 187),hxE P "__firstlineno__" 200 (.int 2 199),hxE P "__static_attributes__" 201 (.ref 22),hxE P "__weakref__" 203 (.ref 25),hxE P "__doc__" 204 .none] 3)) ::
 (nat_lit 25,hxO "getset_descriptor" (.fields #[(hxS "__weakref__" 202),(.ref 24),(.builtin "ExceptionGroup.__weakref__"),.none])) ::
 (nat_lit 28,hxO "tuple" (.seq #[(.ref 24)] 0)) ::
 (nat_lit 35,hxO "tuple" (.seq #[] 0)) ::
 (nat_lit 36,hxO "dict" (.dict #[hxE P "__module__" 214 (hxS "tokenmoor.errors" 187),hxE P "__firstlineno__" 218 (.int 4 217),hxE P "__static_attributes__" 219 (.ref 35),hxE P "__doc__" 220 .none] 2)) ::
 (nat_lit 45,hxO "code" (hxD "is_count" 231 10 1 40 41 (.ref 42) (.ref 43) 44 235 236)) ::
 (nat_lit 46,hxG "is_count" 7 hxM1 45) ::
 (nat_lit 50,hxO "code" (hxD "moor" 238 14 2 47 48 .none .none 49 241 242)) ::
 (nat_lit 51,hxG "moor" 8 hxM1 50) ::
 (nat_lit 57,hxO "code" (hxD "made_move" 244 20 2 52 53 (.ref 54) (.ref 55) 56 249 250)) ::
 (nat_lit 58,hxG "made_move" 9 hxM1 57) ::
 (nat_lit 64,hxO "code" (hxD "made_counts" 252 23 3 59 60 (.ref 61) (.ref 62) 63 259 260)) ::
 (nat_lit 65,hxG "made_counts" 10 hxM1 64) ::
 (nat_lit 71,hxO "code" (hxD "must_be_listed" 262 29 4 66 67 (.ref 68) (.ref 69) 70 269 270)) ::
 (nat_lit 72,hxG "must_be_listed" 11 hxM1 71) ::
 (nat_lit 78,hxO "code" (hxD "_law_cell_at" 274 35 2 73 74 (.ref 75) (.ref 76) 77 279 280)) ::
 (nat_lit 79,hxG "_law_cell_at" 13 hxM0 78) ::
 (nat_lit 85,hxO "code" (hxD "_law_stream" 282 39 3 80 81 (.ref 82) (.ref 83) 84 291 292)) ::
 (nat_lit 86,hxG "_law_stream" 14 hxM0 85) ::
 (nat_lit 92,hxO "code" (hxD "_law_count" 294 46 2 87 88 (.ref 89) (.ref 90) 91 299 300)) ::
 (nat_lit 93,hxG "_law_count" 15 hxM0 92) ::
 (nat_lit 97,hxO "code" (hxD "_law_counts" 302 52 2 94 95 .none .none 96 305 306)) ::
 (nat_lit 98,hxG "_law_counts" 16 hxM0 97) ::
 (nat_lit 104,hxO "code" (hxD "_law_handed" 308 54 2 99 100 (.ref 101) (.ref 102) 103 313 314)) ::
 (nat_lit 105,hxG "_law_handed" 17 hxM0 104) ::
 (nat_lit 111,hxO "code" (hxD "_law_row_alike" 316 58 2 106 107 (.ref 108) (.ref 109) 110 323 324)) ::
 (nat_lit 112,hxG "_law_row_alike" 18 hxM0 111) ::
 (nat_lit 118,hxO "code" (hxD "_law_alike" 326 65 3 113 114 (.ref 115) (.ref 116) 117 334 335)) ::
 (nat_lit 119,hxG "_law_alike" 19 hxM0 118) ::
 (nat_lit 123,hxO "code" (hxD "law" 337 76 1 120 121 .none .none 122 340 341)) ::
 (nat_lit 124,hxG "law" 20 hxM0 123) ::
 []
abbrev hk (w:World):Frag:=hxheap w.params
structure Blt (mg:Str->Option Value):Prop where
 bool_:mg "bool" = none
 int_:mg "int" = none
 isinstance_:mg "isinstance" = none
 len_:mg "len" = none
 list_:mg "list" = none
 range_:mg "range" = none
 tuple_:mg "tuple" = none
 zip_:mg "zip" = none
structure Cst (mg:Str->Option Value):Prop where
 GREATEST_COUNT:∃ t,mg "GREATEST_COUNT" = some (.int 1000000000 t)
 MOST_PLACES:∃ t,mg "MOST_PLACES" = some (.int 6 t)
 MOST_MOVES:∃ t,mg "MOST_MOVES" = some (.int 8 t)
def En (w:World) (mg:Str->Option Value):Prop:=∃ h:Heap,(hk w).In h/\h.Ns mainGlobals mg
theorem bn {w:World} {mg:Str->Option Value} (Y:En w mg) {x:Str} (e:PySem.W.nsIn (hk w) mainGlobals x=some none):mg x=none:=Y.elim fun _ q=>PySem.W.mg_none_of q.1 q.2 e
theorem bl {w:World} {mg:Str->Option Value} (Y:En w mg):Blt mg:=⟨bn Y (by kernel_rfl),bn Y (by kernel_rfl),bn Y (by kernel_rfl),bn Y (by kernel_rfl),bn Y (by kernel_rfl),bn Y (by kernel_rfl),bn Y (by kernel_rfl),bn Y (by kernel_rfl)⟩
theorem cs {w:World} {mg:Str->Option Value} (Y:En w mg):Cst mg:=Y.elim fun _ q=>⟨⟨225,PySem.W.mg_of q.1 q.2 (by kernel_rfl)⟩,⟨227,PySem.W.mg_of q.1 q.2 (by kernel_rfl)⟩,⟨229,PySem.W.mg_of q.1 q.2 (by kernel_rfl)⟩⟩
abbrev FD (nm:String) (i:Nat) (pm:Value) (c:Nat):FuncData:=PySem.W.fnOf nm nm (defArgs (top i)) (defBody (top i)) (defScope (top i)) .none .none .none pm none (.ref c) .none
theorem dk {w:World} {mg:Str->Option Value} (Y:En w mg) {nm:String} {i c:Nat} {f:Addr} {pm:Value} {ps:List Str}
  (e:(PySem.W.nsIn (hk w) mainGlobals nm,(hk w).lookup f,PySem.W.codeIn (hk w) (.ref c) nm,PySem.W.keepIn (hk w) (.ref f))=(some (some (.ref f)),some (hxG nm i pm c),true,true))
  (hb:∀ (kV doc pm:Value) (an:Option Addr) (cdv ct:Value) (us:List Value),us.length=ps.length->bindArgs (PySem.W.fnOf nm nm (defArgs (top i)) (defBody (top i)) (defScope (top i)) .none kV doc pm an cdv ct) ⟨us,[]⟩=pure (ps.zip us)):Def (hk w) mg nm (top i) ps f (FD nm i pm c):=by
 obtain ⟨h,X,G⟩:=Y
 injection e with a e
 injection e with l e
 injection e with c k
 have F:=fun_mk (st:=top i) l c k
 exact ⟨F,PySem.W.mg_of X G a,F.binds hb⟩
theorem okF {P:Program} {w:World} {K:Frag} {mg:Str->Option Value} {base:Heap} {x:Str} {st:Stmt} {ps:List Str} {f:Addr} {fd:FuncData} (D:Def K mg x st ps f fd) {N:List Str} {k n l:Nat} {d:Mode} {m:Rho->R Fl} (S:FnScope N ps (defScope st)) (hd:d=.F\/d=.V) (hn:ps.length=n) (hl:N.length=l) (b:∀ {cdv:Value} {A:Around} {outer:List Env} {s:Shared} {H:Hp} {E:XK},Room k (A.deeper (PyProof.Rows.envOfC x (defScope st) s.heap.objs.size f cdv))->PSs (cxOf CX0 P w K mg base N x (defScope st) f cdv A outer s H E).nox (defBody st) (tSt K (fun _ _=>False) d m)):FnOk P w K mg base CX0 (k+1) f fd ps (spM K n d (runB n l m)):=by
 subst hn hl
 exact D.F.ok S (fun _ _ _ _ h=>h.1) fun cdv A outer s H vs Q E hr h=>⟨_,b hr,c_body hd h⟩
theorem okNn {P:Program} {w:World} {K:Frag} {mg:Str->Option Value} {base:Heap} {x:Str} {st:Stmt} {ps:List Str} {f:Addr} {fd:FuncData} (D:Def K mg x st ps f fd) {N:List Str} {k n l:Nat} {d:Mode} {m:Rho->R Fl} (S:FnScope N ps (defScope st))  (hn:ps.length=n) (hl:N.length=l) (b:∀ {cdv:Value} {A:Around} {outer:List Env} {s:Shared} {H:Hp} {E:XK},Room k (A.deeper (PyProof.Rows.envOfC x (defScope st) s.heap.objs.size f cdv))->PSs (cxOf CX0 P w K mg base N x (defScope st) f cdv A outer s H E).nox (defBody st) (tStN K (fun _ _=>False) d m)):FnOk P w K mg base CX0 (k+1) f fd ps (spMN K n d (runB n l m)):=by
 subst hn hl
 exact D.F.ok S (fun _ _ _ _ h=>h.1) fun cdv A outer s H vs Q E hr h=>⟨_,b hr,c_bodyN h⟩
theorem okX {P:Program} {w:World} {K:Frag} {mg:Str->Option Value} {base:Heap} {x:Str} {st:Stmt} {ps:List Str} {f:Addr} {fd:FuncData} (D:Def K mg x st ps f fd) {N:List Str} {k n l:Nat} {m:Rho->R Fl} (S:FnScope N ps (defScope st))  (hn:ps.length=n) (hl:N.length=l) (b:∀ {cdv:Value} {A:Around} {outer:List Env} {s:Shared} {H:Hp} {E:XK},Room k (A.deeper (PyProof.Rows.envOfC x (defScope st) s.heap.objs.size f cdv))->PSs (cxOf CX0 P w K mg base N x (defScope st) f cdv A outer s H E).nox (defBody st) (tSt K (fun _ _=>False) .V m)):FnOk P w K mg base CX0 (k+1) f fd ps (spX K n (runX n l m)):=by
 subst hn hl
 exact D.F.ok S (fun _ _ _ _ h=>h.1) fun cdv A outer s H vs Q E hr h=>⟨_,b hr,c_bodyX h⟩
theorem qcD {X:Cx} {K:Frag} {d:Mode} {e:Expr} {es:List Expr} {pos:Pos} {mr:Rho->R (List W)} {k:Nat} {f:Addr} {fd:FuncData} {ps:List Str} {x:Str} {st:Stmt} {p:Pos} {n N:Nat} {m:Rho->R Fl} (F:FnOk X.prog X.w X.K X.mg X.base CX0 k f fd ps (spM K n d (runB n N m))) (D:Def X.K X.mg x st ps f fd)
  (ha:PA X (e::es) (tA K (fun _ _=>False) .B mr)) (hd:d=.F\/d=.V:=by first | exact .inl rfl | exact .inr rfl) (hr:Room k X.A:=by exact Room.mono (by assumption) (by decide)) (hg:Gl X x:=by rfl) (hdb:(x == ("__debug__" : Str))=false:=by decide) (he:starEach (e::es) X.env=(false,eval e X.env)::starEach es X.env:=by rfl) (hpl:(backTo pos (starEach es X.env)).any (·.1)=false:=by rfl) :
  PE X (.Call (.Name x p) (e::es) [] pos) (tM K (fun _ _=>False) d (bA (runB n N m) mr)):=q_call F hd hr hg D.m D.F.kp D.b ha hdb he hpl
theorem q_compn {X:Cx} {K:Frag} {EX:EXT} {cs:Scope} {N':List Str} {n:Nat} {tg iter elt:Expr} {ifs:List Expr} {dd:Mode} {g:TG} {mg:W->Rho->Option Rho} {mi:Rho->R (List W)} {ta:Rho->R Bool} {ma:Rho->R W} {pos:Pos} (S:CompScope X.env.scope cs X.N N') (hc:X.calm=true) (hi:PI X tg iter (tIt K EX false dd mi))
  (hg:∀ cl ex s H,PG (cxComp X cs cl N' ex s H) tg g) (hgt:Gt K dd g mg) (hk:GKeep X.N.length g) (ht:∀ cl ex s H,PIf (cxComp X cs cl N' ex s H) ifs (tT K EX ta)) (he:∀ cl ex s H,PE (cxComp X cs cl N' ex s H) elt (tM K EX .V ma))
  (hn:N'.length=n:=by rfl) (hs:∀ x,foldedSetIterable iter X.env x=pure x:=by intro _; rfl):PE X (.ListComp elt [⟨tg,iter,ifs,0⟩] cs pos) (tM K EX .F (vComp n mi mg ta ma)):=by
 subst hn; exact q_comp S hc hi hg hgt hk ht he hs
theorem q_setcn {X:Cx} {K:Frag} {EX:EXT} {d:Mode} {i n:Nat} {y:Str} {py:Pos} {cs:Scope} {N':List Str} {tg iter elt:Expr} {ifs:List Expr} {dd:Mode} {g:TG} {mg:W->Rho->Option Rho} {mi:Rho->R (List W)} {ta:Rho->R Bool} {ma:Rho->R W} {cpos pos:Pos} (S:CompScope X.env.scope cs X.N N') (hc:X.calm=true) (hi:PI X tg iter (tIt K EX false dd mi))
  (hg:∀ cl ex s H,PG (cxComp X cs cl N' ex s H) tg g) (hgt:Gt K dd g mg) (hk:GKeep X.N.length g) (ht:∀ cl ex s H,PIf (cxComp X cs cl N' ex s H) ifs (tT K EX ta)) (he:∀ cl ex s H,PE (cxComp X cs cl N' ex s H) elt (tM K EX .V ma))
  (hN:X.N.Nodup) (hy:X.N[i]?=some y) (hl:Loc X.env.scope y)
  (hn:N'.length=n:=by rfl) (hsw:swapsWith (.ListComp elt [⟨tg,iter,ifs,0⟩] cs cpos) (some (.Name y py)) pos.line X.env=pure true:=by rfl) (hf:X.fn y=true\/X.env.scope.names.lookup y=some .local:=by first | exact .inl rfl | exact .inr rfl | assumption)
  (hs:∀ x,foldedSetIterable iter X.env x=pure x:=by intro _; rfl):PS X (.Assign [.Name y py] (.ListComp elt [⟨tg,iter,ifs,0⟩] cs cpos) pos) (tSt K EX d (sF i (vComp n mi mg ta ma))):=by
 subst hn; exact q_setc S hc hi hg hgt hk ht he hN hy hl hsw hf hs
theorem us0 {P:List Value->Prop} (h:P []):∀ us:List Value,us.length=0->P us:=fun us e=>by
 rw [List.length_eq_zero_iff.mp e]; exact h
theorem us1 {P:List Value->Prop} (h:∀ a0,P [a0]):∀ us:List Value,us.length=1->P us:=fun us e=>by
 cases us with
 | nil=>cases e
 | cons a us=>exact us0 (P:=fun us=>P (a::us)) (h a) us (Nat.succ.inj e)
theorem us2 {P:List Value->Prop} (h:∀ a0 a1,P [a0,a1]):∀ us:List Value,us.length=2->P us:=fun us e=>by
 cases us with
 | nil=>cases e
 | cons a us=>exact us1 (P:=fun us=>P (a::us)) (fun a1=>h a a1) us (Nat.succ.inj e)
theorem us3 {P:List Value->Prop} (h:∀ a0 a1 a2,P [a0,a1,a2]):∀ us:List Value,us.length=3->P us:=fun us e=>by
 cases us with
 | nil=>cases e
 | cons a us=>exact us2 (P:=fun us=>P (a::us)) (fun a1 a2=>h a a1 a2) us (Nat.succ.inj e)
theorem us4 {P:List Value->Prop} (h:∀ a0 a1 a2 a3,P [a0,a1,a2,a3]):∀ us:List Value,us.length=4->P us:=fun us e=>by
 cases us with
 | nil=>cases e
 | cons a us=>exact us3 (P:=fun us=>P (a::us)) (fun a1 a2 a3=>h a a1 a2 a3) us (Nat.succ.inj e)
theorem scis_count:FnScope ["thing"] ["thing"] (defScope (top 7)):=by trivial
theorem scmust_be_listed:FnScope ["things", "what", "fewest", "most"] ["things", "what", "fewest", "most"] (defScope (top 11)):=by trivial
theorem scmade_counts:FnScope ["things", "what", "many", "thing"] ["things", "what", "many"] (defScope (top 10)):=by trivial
theorem scmade_move:FnScope ["move", "many"] ["move", "many"] (defScope (top 9)):=by trivial
theorem scmoor:FnScope ["begin", "moves", "many", "stand"] ["begin", "moves"] (defScope (top 8)):=by trivial
theorem sc_law_cell_at:FnScope ["_law_script", "_law_k"] ["_law_script", "_law_k"] (defScope (top 13)):=by trivial
theorem sc_law_stream:FnScope ["_law_cell", "_law_salt", "_law_many", "_law_found", "_law_number", "_law_k"] ["_law_cell", "_law_salt", "_law_many"] (defScope (top 14)):=by trivial
theorem sc_law_count:FnScope ["_law_x", "_law_kind"] ["_law_x", "_law_kind"] (defScope (top 15)):=by trivial
theorem sc_law_counts:FnScope ["_law_xs", "_law_kind"] ["_law_xs", "_law_kind"] (defScope (top 16)):=by trivial
theorem sc_law_handed:FnScope ["_law_parts", "_law_bit"] ["_law_parts", "_law_bit"] (defScope (top 17)):=by trivial
theorem sc_law_row_alike:FnScope ["_law_found", "_law_due", "_law_one", "_law_other"] ["_law_found", "_law_due"] (defScope (top 18)):=by trivial
theorem sc_law_alike:FnScope ["_law_found", "_law_begin", "_law_moves", "_law_one", "_law_other"] ["_law_found", "_law_begin", "_law_moves"] (defScope (top 19)):=by trivial
theorem sclaw:FnScope ["_law_script", "_law_xs", "_law_many", "_law_begin", "_law_moves", "_law_lists", "_law_handed_here", "_law_k", "_law_ys", "_law_take", "_law_put", "_law_parts", "_law_start", "_law_rows", "_law_found", "_law_row", "_law_anew", "_law_changed"] ["_law_script"] (defScope (top 20)):=by trivial
section
variable {P:Program} {w:World} {mg:Str->Option Value} {base:Heap} (Y:En w mg)
include Y
theorem dis_count:Def (hk w) mg "is_count" (top 7) ["thing"] 46 (FD "is_count" 7 hxM1 45):=dk Y (by kernel_rfl) fun _ _ _ _ _ _=>us1 fun _=>rfl
theorem okis_count:FnOk P w (hk w) mg base CX0 1 46 (FD "is_count" 7 hxM1 45) ["thing"] (spM (hk w) 1 .F f_is_count):=by
 obtain ⟨tkGREATEST_COUNT,hcGREATEST_COUNT⟩:=(cs Y).GREATEST_COUNT
 exact okF (dis_count Y) scis_count (.inl rfl) rfl rfl fun hr=>(q_cons (q_if_ (PW.pt (q_tor (q_val (q_cb call_isi b_isi (by rfl) (bl Y).isinstance_ PyProof.Rows.boot_isinstance (q_acons (qv .B 0) (q_acons (@q_ty _ _ _ _ _ _ _ (by rfl) (bl Y).bool_ bt_bool (by decide) (by decide)) q_anil)))) (q_tor1 (q_tnot (q_val (q_cb call_isi b_isi (by rfl) (bl Y).isinstance_ PyProof.Rows.boot_isinstance (q_acons (qv .B 0) (q_acons (@q_ty _ _ _ _ _ _ _ (by rfl) (bl Y).int_ bt_int (by decide) (by decide)) q_anil)))))))) (q_last (q_ret q_bl)) q_nil) (q_last (q_ret (@q_chain _ _ _ _ _ _ _ _ _ _ _ _ _ _ _ _ _ _ op_le xLe op_le xLe q_int (qv .B 0) (@q_globI _ _ _ _ _ _ _ _ rfl hcGREATEST_COUNT (by decide)) (by with_unfolding_all rfl)))))
theorem dmust_be_listed:Def (hk w) mg "must_be_listed" (top 11) ["things", "what", "fewest", "most"] 72 (FD "must_be_listed" 11 hxM1 71):=dk Y (by kernel_rfl) fun _ _ _ _ _ _=>us4 fun _ _ _ _=>rfl
theorem okmust_be_listed:FnOk P w (hk w) mg base CX0 1 72 (FD "must_be_listed" 11 hxM1 71) ["things", "what", "fewest", "most"] (spM (hk w) 4 .F f_must_be_listed):=
 okF (dmust_be_listed Y) scmust_be_listed (.inl rfl) rfl rfl fun hr=>(q_cons (q_if_ (q_tnot (q_val (q_cb call_isiT b_isiT (by rfl) (bl Y).isinstance_ PyProof.Rows.boot_isinstance (q_acons (qv .B 0) (q_acons (q_UB (q_tupU (q_acons (@q_ty _ _ _ _ _ _ _ (by rfl) (bl Y).list_ bt_list (by decide) (by decide)) (q_acons (@q_ty _ _ _ _ _ _ _ (by rfl) (bl Y).tuple_ bt_tuple (by decide) (by decide)) q_anil)))) q_anil))))) (q_last q_never) q_nil) (q_last (q_if_ (q_tnot (@q_tchain _ _ _ _ _ _ _ _ _ _ _ _ _ _ _ _ _ op_le xLe op_le xLe (qv .B 2) (q_cb K_len b_len (by rfl) (bl Y).len_ PySem.boot_len (q_acons (qv .B 0) q_anil)) (qv .B 3) (by with_unfolding_all rfl))) (q_last q_never) q_nil)))
theorem dmade_counts:Def (hk w) mg "made_counts" (top 10) ["things", "what", "many"] 65 (FD "made_counts" 10 hxM1 64):=dk Y (by kernel_rfl) fun _ _ _ _ _ _=>us3 fun _ _ _=>rfl
theorem okmade_counts:FnOk P w (hk w) mg base CX0 2 65 (FD "made_counts" 10 hxM1 64) ["things", "what", "many"] (spM (hk w) 3 .F f_made_counts):=
 okF (dmade_counts Y) scmade_counts (.inl rfl) rfl rfl fun hr=>(q_cons (@q_expr _ _ _ _ _ _ _ _ (qcD (okmust_be_listed Y) (dmust_be_listed Y) (q_acons (qv .B 0) (q_acons (qv .B 1) (q_acons (qv .B 2) (q_acons (qv .B 2) q_anil))))) (by rfl)) (q_cons (q_for PassesOwn.never rfl (q_iSqU (qv .U 0)) (@pg_name _ _ 3 _ scmade_counts.nd rfl (by trivial) (by trivial)) gt_U (q_last (q_if_ (q_tnot (q_val (q_CB (q_FC (qcD (okis_count Y) (dis_count Y) (q_acons (qv .B 3) q_anil)))))) (q_last q_never) q_nil))) (q_last (q_ret (q_ct K_tup (b_tup (c:=false)) (by rfl) (bl Y).tuple_ bt_tuple (q_acons (qv .B 0) q_anil))))))
theorem dmade_move:Def (hk w) mg "made_move" (top 9) ["move", "many"] 58 (FD "made_move" 9 hxM1 57):=dk Y (by kernel_rfl) fun _ _ _ _ _ _=>us2 fun _ _=>rfl
theorem okmade_move:FnOk P w (hk w) mg base CX0 3 58 (FD "made_move" 9 hxM1 57) ["move", "many"] (spM (hk w) 2 .F f_made_move):=
 okF (dmade_move Y) scmade_move (.inl rfl) rfl rfl fun hr=>(q_cons (@q_expr _ _ _ _ _ _ _ _ (qcD (okmust_be_listed Y) (dmust_be_listed Y) (q_acons (qv .B 0) (q_acons q_str (q_acons q_int (q_acons q_int q_anil))))) (by rfl)) (q_last (q_ret (q_tup (q_acons (q_FV (qcD (okmade_counts Y) (dmade_counts Y) (q_acons (q_UB (q_ixU (qv .B 0) q_int)) (q_acons q_str (q_acons (qv .B 1) q_anil))))) (q_acons (q_FV (qcD (okmade_counts Y) (dmade_counts Y) (q_acons (q_UB (q_ixU (qv .B 0) q_int)) (q_acons q_str (q_acons (qv .B 1) q_anil))))) q_anil))))))
theorem dmoor:Def (hk w) mg "moor" (top 8) ["begin", "moves"] 51 (FD "moor" 8 hxM1 50):=dk Y (by kernel_rfl) fun _ _ _ _ _ _=>us2 fun _ _=>rfl
theorem okmoor:FnOk P w (hk w) mg base CX0 4 51 (FD "moor" 8 hxM1 50) ["begin", "moves"] (spM (hk w) 2 .F f_moor):=by
 obtain ⟨tkMOST_PLACES,hcMOST_PLACES⟩:=(cs Y).MOST_PLACES
 obtain ⟨tkMOST_MOVES,hcMOST_MOVES⟩:=(cs Y).MOST_MOVES
 exact okF (dmoor Y) scmoor (.inl rfl) rfl rfl fun hr=>(q_cons (@q_expr _ _ _ _ _ _ _ _ (qcD (okmust_be_listed Y) (dmust_be_listed Y) (q_acons (qv .B 0) (q_acons q_str (q_acons q_int (q_acons (@q_globI _ _ _ _ _ _ _ _ rfl hcMOST_PLACES (by decide)) q_anil))))) (by rfl)) (q_cons (q_setF (i:=2) scmoor.nd rfl (by trivial) (q_cb K_len b_len (by rfl) (bl Y).len_ PySem.boot_len (q_acons (qv .B 0) q_anil)) (by rfl) (by trivial)) (q_cons (q_setF (i:=3) scmoor.nd rfl (by trivial) (qcD (okmade_counts Y) (dmade_counts Y) (q_acons (qv .B 0) (q_acons q_str (q_acons (qv .B 2) q_anil)))) (by rfl) (by trivial)) (q_cons (@q_expr _ _ _ _ _ _ _ _ (qcD (okmust_be_listed Y) (dmust_be_listed Y) (q_acons (qv .B 1) (q_acons q_str (q_acons q_int (q_acons (@q_globI _ _ _ _ _ _ _ _ rfl hcMOST_MOVES (by decide)) q_anil))))) (by rfl)) (q_last (q_frz (q_ret (q_tup (q_acons (qv .V 3) (q_acons (q_FV (q_ct K_tup (b_tup (c:=true)) (by rfl) (bl Y).tuple_ bt_tuple (q_acons (q_FC (q_compn (show CompScope (defScope (top 8)) _ ["begin", "moves", "many", "stand"] ["begin", "moves", "many", "stand", "move"] from by trivial) rfl (q_iSqB (qv .B 1)) (fun _ _ _ _=>(@pg_name _ _ 4 _ (by decide +kernel:(["begin", "moves", "many", "stand", "move"]:List Str).Nodup) rfl (Or.inl rfl) (.inr rfl))) gt_U (gk_name (show 4<=4 by decide)) (fun _ _ _ _=>q_pifN) (fun _ _ _ _=>(q_FV (qcD (okmade_move Y) (dmade_move Y) (q_acons (qv .B 4) (q_acons (qv .B 2) q_anil))))))) q_anil))) q_anil))))))))))
theorem d_law_cell_at:Def (hk w) mg "_law_cell_at" (top 13) ["_law_script", "_law_k"] 79 (FD "_law_cell_at" 13 hxM0 78):=dk Y (by kernel_rfl) fun _ _ _ _ _ _=>us2 fun _ _=>rfl
theorem ok_law_cell_at:FnOk P w (hk w) mg base CX0 1 79 (FD "_law_cell_at" 13 hxM0 78) ["_law_script", "_law_k"] (spM (hk w) 2 .F f__law_cell_at):=
 okF (d_law_cell_at Y) sc_law_cell_at (.inl rfl) rfl rfl fun hr=>(q_cons (q_if_ (q_tcmp op_lt (o2_I0 (g:=gLt) (fun _ _=>rfl) (fun _ _ _=>.bl)) (qv .B 1) (q_cb K_len b_len (by rfl) (bl Y).len_ PySem.boot_len (q_acons (qv .B 0) q_anil))) (q_last (q_ret (q_chkF (q_ixU (qv .B 0) (qv .B 1))))) q_nil) (q_last (q_ret q_int)))
theorem d_law_stream:Def (hk w) mg "_law_stream" (top 14) ["_law_cell", "_law_salt", "_law_many"] 86 (FD "_law_stream" 14 hxM0 85):=dk Y (by kernel_rfl) fun _ _ _ _ _ _=>us3 fun _ _ _=>rfl
theorem ok_law_stream:FnOk P w (hk w) mg base CX0 1 86 (FD "_law_stream" 14 hxM0 85) ["_law_cell", "_law_salt", "_law_many"] (spM (hk w) 3 .F f__law_stream):=
 okF (d_law_stream Y) sc_law_stream (.inl rfl) rfl rfl fun hr=>(q_cons (q_setF (i:=3) sc_law_stream.nd rfl (by trivial) (q_lst q_anil) (by rfl) (by trivial)) (q_cons (q_setV (i:=4) sc_law_stream.nd rfl (by trivial) (q_op op_mod (o2_I (C:=cMod) (g:=gMod) (fun _ _=>rfl) (fun _ _ _=>.int)) (q_op op_add xAdd (q_op op_add xAdd (q_op op_mul (o2_I (C:=CMul) (g:=gMul) (fun _ _=>rfl) (fun _ _ _=>.int)) (q_op op_mod (o2_I (C:=cMod) (g:=gMod) (fun _ _=>rfl) (fun _ _ _=>.int)) (qv .B 0) q_int) q_int) (q_op op_mul (o2_I (C:=CMul) (g:=gMul) (fun _ _=>rfl) (fun _ _ _=>.int)) (q_op op_mul (o2_I (C:=CMul) (g:=gMul) (fun _ _=>rfl) (fun _ _ _=>.int)) (qv .B 1) (qv .B 1)) q_int)) q_int) q_int) (by rfl) (by trivial)) (q_cons (q_for PassesOwn.never rfl (q_rng1 (by rfl) (bl Y).range_ (q_acons (qv .B 2) q_anil)) (@pg_name _ _ 5 _ sc_law_stream.nd rfl (by trivial) (by trivial)) gt_U (q_cons (q_setV (i:=4) sc_law_stream.nd rfl (by trivial) (q_op op_mod (o2_I (C:=cMod) (g:=gMod) (fun _ _=>rfl) (fun _ _ _=>.int)) (q_op op_add xAdd (q_op op_add xAdd (q_op op_add xAdd (q_op op_mul (o2_I (C:=CMul) (g:=gMul) (fun _ _=>rfl) (fun _ _ _=>.int)) (qv .B 4) (qv .B 4)) (q_op op_mul (o2_I (C:=CMul) (g:=gMul) (fun _ _=>rfl) (fun _ _ _=>.int)) q_int (qv .B 4))) (qv .B 5)) (qv .B 1)) q_int) (by rfl) (by trivial)) (q_last (@q_app _ _ _ _ _ _ _ 3 _ _ _ _ rfl (by trivial) (qv .V 4) (by decide) (by decide) (by rfl) (by rfl) (by rfl) (by rfl) (by rfl))))) (q_last (@q_retv _ _ _ _ _ 3 _ _ (.inl rfl) (by rfl) (by trivial) (by decide) (by decide))))))
theorem d_law_count:Def (hk w) mg "_law_count" (top 15) ["_law_x", "_law_kind"] 93 (FD "_law_count" 15 hxM0 92):=dk Y (by kernel_rfl) fun _ _ _ _ _ _=>us2 fun _ _=>rfl
theorem ok_law_count:FnOk P w (hk w) mg base CX0 1 93 (FD "_law_count" 15 hxM0 92) ["_law_x", "_law_kind"] (spM (hk w) 2 .F f__law_count):=
 okF (d_law_count Y) sc_law_count (.inl rfl) rfl rfl fun hr=>(q_cons (q_if_ (q_tcmp op_eq o2_eqS (qv .B 1) q_int) (q_last (q_ret (q_op op_mod (o2_I (C:=cMod) (g:=gMod) (fun _ _=>rfl) (fun _ _ _=>.int)) (qv .B 0) q_int))) q_nil) (q_cons (q_if_ (q_tcmp op_eq o2_eqS (qv .B 1) q_int) (q_last (q_ret (q_chkF (q_VU (q_ixV (q_FC (q_lst (q_acons (q_op op_mod (o2_I (C:=cMod) (g:=gMod) (fun _ _=>rfl) (fun _ _ _=>.int)) (qv .B 0) q_int) (q_acons q_int (q_acons q_int q_anil))))) (q_op op_mod (o2_I (C:=cMod) (g:=gMod) (fun _ _=>rfl) (fun _ _ _=>.int)) (q_op op_fdiv (o2_I (C:=CDiv) (g:=gDiv) (fun _ _=>rfl) (fun _ _ _=>.int)) (qv .B 0) q_int) q_int)))))) q_nil) (q_last (q_ret (q_op op_mul (o2_I (C:=CMul) (g:=gMul) (fun _ _=>rfl) (fun _ _ _=>.int)) (q_op op_mod (o2_I (C:=cMod) (g:=gMod) (fun _ _=>rfl) (fun _ _ _=>.int)) (qv .B 0) q_int) (q_op op_mod (o2_I (C:=cMod) (g:=gMod) (fun _ _=>rfl) (fun _ _ _=>.int)) (q_op op_fdiv (o2_I (C:=CDiv) (g:=gDiv) (fun _ _=>rfl) (fun _ _ _=>.int)) (qv .B 0) q_int) q_int))))))
theorem d_law_counts:Def (hk w) mg "_law_counts" (top 16) ["_law_xs", "_law_kind"] 98 (FD "_law_counts" 16 hxM0 97):=dk Y (by kernel_rfl) fun _ _ _ _ _ _=>us2 fun _ _=>rfl
theorem ok_law_counts:FnOk P w (hk w) mg base CX0 2 98 (FD "_law_counts" 16 hxM0 97) ["_law_xs", "_law_kind"] (spM (hk w) 2 .F f__law_counts):=
 okF (d_law_counts Y) sc_law_counts (.inl rfl) rfl rfl fun hr=>(q_last (q_ret (q_ct K_tup (b_tup (c:=true)) (by rfl) (bl Y).tuple_ bt_tuple (q_acons (q_FC (q_compn (show CompScope (defScope (top 16)) _ ["_law_xs", "_law_kind"] ["_law_xs", "_law_kind", "_law_x"] from by trivial) rfl (q_iSqB (qv .B 0)) (fun _ _ _ _=>(@pg_name _ _ 2 _ (by decide +kernel:(["_law_xs", "_law_kind", "_law_x"]:List Str).Nodup) rfl (Or.inl rfl) (.inr rfl))) gt_U (gk_name (show 2<=2 by decide)) (fun _ _ _ _=>q_pifN) (fun _ _ _ _=>(q_FV (qcD (ok_law_count Y) (d_law_count Y) (q_acons (qv .B 2) (q_acons (qv .B 1) q_anil))))))) q_anil))))
theorem d_law_handed:Def (hk w) mg "_law_handed" (top 17) ["_law_parts", "_law_bit"] 105 (FD "_law_handed" 17 hxM0 104):=dk Y (by kernel_rfl) fun _ _ _ _ _ _=>us2 fun _ _=>rfl
theorem ok_law_handed:FnOk P w (hk w) mg base CX0 1 105 (FD "_law_handed" 17 hxM0 104) ["_law_parts", "_law_bit"] (spX (hk w) 2 f__law_handed):=
 okX (d_law_handed Y) sc_law_handed rfl rfl fun hr=>(q_cons (q_if_ (q_tcmp op_eq o2_eqS (q_op op_mod (o2_I (C:=cMod) (g:=gMod) (fun _ _=>rfl) (fun _ _ _=>.int)) (qv .B 1) q_int) q_int) (q_last (q_ret (q_FV (q_ct K_list (b_list (c:=true)) (by rfl) (bl Y).list_ bt_list (q_acons (qv .C 0) q_anil))))) q_nil) (q_last (q_ret (q_FV (q_ct K_tup (b_tup (c:=true)) (by rfl) (bl Y).tuple_ bt_tuple (q_acons (qv .C 0) q_anil))))))
theorem d_law_row_alike:Def (hk w) mg "_law_row_alike" (top 18) ["_law_found", "_law_due"] 112 (FD "_law_row_alike" 18 hxM0 111):=dk Y (by kernel_rfl) fun _ _ _ _ _ _=>us2 fun _ _=>rfl
theorem ok_law_row_alike:FnOk P w (hk w) mg base CX0 1 112 (FD "_law_row_alike" 18 hxM0 111) ["_law_found", "_law_due"] (spM (hk w) 2 .F f__law_row_alike):=
 okF (d_law_row_alike Y) sc_law_row_alike (.inl rfl) rfl rfl fun hr=>(q_cons (q_if_ (PW.pt (q_tor (q_tnot (q_val (q_cb call_isi b_isi (by rfl) (bl Y).isinstance_ PyProof.Rows.boot_isinstance (q_acons (qv .B 0) (q_acons (@q_ty _ _ _ _ _ _ _ (by rfl) (bl Y).tuple_ bt_tuple (by decide) (by decide)) q_anil))))) (q_tor1 (q_tcmp op_ne o2_neS (q_cb K_len b_len (by rfl) (bl Y).len_ PySem.boot_len (q_acons (qv .B 0) q_anil)) (q_cb K_len b_len (by rfl) (bl Y).len_ PySem.boot_len (q_acons (qv .B 1) q_anil)))))) (q_last (q_ret q_bl)) q_nil) (q_cons (q_for PassesOwn.never rfl (q_zipU (by rfl) (bl Y).zip_ (q_acons (qv .U 0) (q_acons (qv .U 1) q_anil))) (@pg_tupK _ (hk w) _ _ _ _ 2 rfl (pgs_cons (@pg_name _ _ 2 _ sc_law_row_alike.nd rfl (by trivial) (by trivial)) (pgs_cons (@pg_name _ _ 3 _ sc_law_row_alike.nd rfl (by trivial) (by trivial)) pgs_nil)) (by rfl) (by rfl) (by rfl)) (gt_tup (.inr rfl) (gts_cons (.inr rfl) gt_U (gts_cons (.inr rfl) gt_U gts_nil))) (q_last (q_if_ (PW.pt (q_tor (q_tnot (q_val (q_cb call_isi b_isi (by rfl) (bl Y).isinstance_ PyProof.Rows.boot_isinstance (q_acons (qv .B 2) (q_acons (@q_ty _ _ _ _ _ _ _ (by rfl) (bl Y).int_ bt_int (by decide) (by decide)) q_anil))))) (q_tor (q_val (q_cb call_isi b_isi (by rfl) (bl Y).isinstance_ PyProof.Rows.boot_isinstance (q_acons (qv .B 2) (q_acons (@q_ty _ _ _ _ _ _ _ (by rfl) (bl Y).bool_ bt_bool (by decide) (by decide)) q_anil)))) (q_tor1 (q_tcmp (op_neD (hu64 hr)) (o2_eqD (neg:=true)) (qv .B 2) (qv .B 3)))))) (q_last (q_ret q_bl)) q_nil))) (q_last (q_ret q_bl))))
theorem d_law_alike:Def (hk w) mg "_law_alike" (top 19) ["_law_found", "_law_begin", "_law_moves"] 119 (FD "_law_alike" 19 hxM0 118):=dk Y (by kernel_rfl) fun _ _ _ _ _ _=>us3 fun _ _ _=>rfl
theorem ok_law_alike:FnOk P w (hk w) mg base CX0 2 119 (FD "_law_alike" 19 hxM0 118) ["_law_found", "_law_begin", "_law_moves"] (spM (hk w) 3 .F f__law_alike):=
 okF (d_law_alike Y) sc_law_alike (.inl rfl) rfl rfl fun hr=>(q_cons (q_if_ (PW.pt (q_tor (q_tnot (q_val (q_cb call_isi b_isi (by rfl) (bl Y).isinstance_ PyProof.Rows.boot_isinstance (q_acons (qv .B 0) (q_acons (@q_ty _ _ _ _ _ _ _ (by rfl) (bl Y).tuple_ bt_tuple (by decide) (by decide)) q_anil))))) (q_tor (q_tcmp op_ne o2_neS (q_cb K_len b_len (by rfl) (bl Y).len_ PySem.boot_len (q_acons (qv .B 0) q_anil)) q_int) (q_tor1 (q_tnot (q_val (q_CB (q_FC (qcD (ok_law_row_alike Y) (d_law_row_alike Y) (q_acons (q_UB (q_ixU (qv .B 0) q_int)) (q_acons (qv .B 1) q_anil))))))))))) (q_last (q_ret q_bl)) q_nil) (q_cons (q_if_ (PW.pt (q_tor (q_tnot (q_val (q_cb call_isi b_isi (by rfl) (bl Y).isinstance_ PyProof.Rows.boot_isinstance (q_acons (q_UB (q_ixU (qv .B 0) q_int)) (q_acons (@q_ty _ _ _ _ _ _ _ (by rfl) (bl Y).tuple_ bt_tuple (by decide) (by decide)) q_anil))))) (q_tor1 (q_tcmp op_ne o2_neS (q_cb K_len b_len (by rfl) (bl Y).len_ PySem.boot_len (q_acons (q_UB (q_ixU (qv .B 0) q_int)) q_anil)) (q_cb K_len b_len (by rfl) (bl Y).len_ PySem.boot_len (q_acons (qv .B 2) q_anil)))))) (q_last (q_ret q_bl)) q_nil) (q_cons (q_for PassesOwn.never rfl (q_zipU (by rfl) (bl Y).zip_ (q_acons (q_ixU (qv .B 0) q_int) (q_acons (qv .U 2) q_anil))) (@pg_tupK _ (hk w) _ _ _ _ 2 rfl (pgs_cons (@pg_name _ _ 3 _ sc_law_alike.nd rfl (by trivial) (by trivial)) (pgs_cons (@pg_name _ _ 4 _ sc_law_alike.nd rfl (by trivial) (by trivial)) pgs_nil)) (by rfl) (by rfl) (by rfl)) (gt_tup (.inr rfl) (gts_cons (.inr rfl) gt_U (gts_cons (.inr rfl) gt_U gts_nil))) (q_cons (q_if_ (PW.pt (q_tor (q_tnot (q_val (q_cb call_isi b_isi (by rfl) (bl Y).isinstance_ PyProof.Rows.boot_isinstance (q_acons (qv .B 3) (q_acons (@q_ty _ _ _ _ _ _ _ (by rfl) (bl Y).tuple_ bt_tuple (by decide) (by decide)) q_anil))))) (q_tor1 (q_tcmp op_ne o2_neS (q_cb K_len b_len (by rfl) (bl Y).len_ PySem.boot_len (q_acons (qv .B 3) q_anil)) q_int)))) (q_last (q_ret q_bl)) q_nil) (q_last (q_if_ (PW.pt (q_tor (q_tnot (q_val (q_CB (q_FC (qcD (ok_law_row_alike Y) (d_law_row_alike Y) (q_acons (q_UB (q_ixU (qv .B 3) q_int)) (q_acons (q_UB (q_ixU (qv .B 4) q_int)) q_anil))))))) (q_tor1 (q_tnot (q_val (q_CB (q_FC (qcD (ok_law_row_alike Y) (d_law_row_alike Y) (q_acons (q_UB (q_ixU (qv .B 3) q_int)) (q_acons (q_UB (q_ixU (qv .B 4) q_int)) q_anil)))))))))) (q_last (q_ret q_bl)) q_nil)))) (q_last (q_ret q_bl)))))
theorem dlaw:Def (hk w) mg "law" (top 20) ["_law_script"] 124 (FD "law" 20 hxM0 123):=dk Y (by kernel_rfl) fun _ _ _ _ _ _=>us1 fun _=>rfl
theorem oklaw:FnOk P w (hk w) mg base CX0 5 124 (FD "law" 20 hxM0 123) ["_law_script"] (spMN (hk w) 1 .F f_law):=
 okNn (dlaw Y) sclaw rfl rfl fun hr=>(q_consN (@q_n _ _ _ _ _ _ (q_setF (i:=1) sclaw.nd rfl (by trivial) (qcD (ok_law_stream Y) (d_law_stream Y) (q_acons (q_CB (q_FC (qcD (ok_law_cell_at Y) (d_law_cell_at Y) (q_acons (qv .B 0) (q_acons q_int q_anil))))) (q_acons q_int (q_acons q_int q_anil)))) (by rfl) (by trivial)) (by first | exact .inl rfl | exact .inr rfl)) (q_consN (@q_n _ _ _ _ _ _ (q_setV (i:=2) sclaw.nd rfl (by trivial) (q_op op_add xAdd q_int (q_op op_mod (o2_I (C:=cMod) (g:=gMod) (fun _ _=>rfl) (fun _ _ _=>.int)) (q_UB (q_ixU (qv .B 1) q_int)) q_int)) (by rfl) (by trivial)) (by first | exact .inl rfl | exact .inr rfl)) (q_consN (@q_n _ _ _ _ _ _ (q_setF (i:=3) sclaw.nd rfl (by trivial) (qcD (ok_law_counts Y) (d_law_counts Y) (q_acons (q_CB (q_FC (@q_sl _ _ _ _ _ _ true _ _ _ _ _ (qv .C 1) (q_pS q_int) (q_pS (q_op op_add xAdd q_int (qv .B 2))) (by rfl)))) (q_acons (q_op op_mod (o2_I (C:=cMod) (g:=gMod) (fun _ _=>rfl) (fun _ _ _=>.int)) (q_UB (q_ixU (qv .B 1) q_int)) q_int) q_anil))) (by rfl) (by trivial)) (by first | exact .inl rfl | exact .inr rfl)) (q_consN (@q_n _ _ _ _ _ _ (q_setF (i:=4) sclaw.nd rfl (by trivial) (q_lst q_anil) (by rfl) (by trivial)) (by first | exact .inl rfl | exact .inr rfl)) (q_consN (@q_n _ _ _ _ _ _ (q_dz1 (q_setV (i:=5) sclaw.nd rfl (by trivial) (q_FV (q_lst (q_acons (q_FV (q_ct K_list (b_list (c:=true)) (by rfl) (bl Y).list_ bt_list (q_acons (qv .C 3) q_anil))) q_anil))) (by rfl) (by trivial))) (by first | exact .inl rfl | exact .inr rfl)) (q_consN (@q_n _ _ _ _ _ _ (q_setF (i:=6) sclaw.nd rfl (by trivial) (q_lst q_anil) (by rfl) (by trivial)) (by first | exact .inl rfl | exact .inr rfl)) (q_consN (@q_n _ _ _ _ _ _ (q_for PassesOwn.never rfl (q_rng1 (by rfl) (bl Y).range_ (q_acons (q_op op_mod (o2_I (C:=cMod) (g:=gMod) (fun _ _=>rfl) (fun _ _ _=>.int)) (q_UB (q_ixU (qv .B 1) q_int)) q_int) q_anil)) (@pg_name _ _ 7 _ sclaw.nd rfl (by trivial) (by trivial)) gt_U (q_cons (q_setF (i:=8) sclaw.nd rfl (by trivial) (qcD (ok_law_stream Y) (d_law_stream Y) (q_acons (q_CB (q_FC (qcD (ok_law_cell_at Y) (d_law_cell_at Y) (q_acons (qv .B 0) (q_acons (q_op op_add xAdd q_int (qv .B 7)) q_anil))))) (q_acons (q_op op_add xAdd q_int (qv .B 7)) (q_acons q_int q_anil)))) (by rfl) (by trivial)) (q_cons (q_setF (i:=9) sclaw.nd rfl (by trivial) (qcD (ok_law_counts Y) (d_law_counts Y) (q_acons (q_CB (q_FC (@q_sl _ _ _ _ _ _ true _ _ _ _ _ (qv .C 8) (q_pS q_int) (q_pS (q_op op_add xAdd q_int (qv .B 2))) (by rfl)))) (q_acons (q_op op_mod (o2_I (C:=cMod) (g:=gMod) (fun _ _=>rfl) (fun _ _ _=>.int)) (q_UB (q_ixU (qv .B 8) q_int)) q_int) q_anil))) (by rfl) (by trivial)) (q_cons (q_setF (i:=10) sclaw.nd rfl (by trivial) (qcD (ok_law_counts Y) (d_law_counts Y) (q_acons (q_CB (q_FC (@q_sl _ _ _ _ _ _ true _ _ _ _ _ (qv .C 8) (q_pS q_int) (q_pS (q_op op_add xAdd q_int (qv .B 2))) (by rfl)))) (q_acons (q_op op_mod (o2_I (C:=cMod) (g:=gMod) (fun _ _=>rfl) (fun _ _ _=>.int)) (q_UB (q_ixU (qv .B 8) q_int)) q_int) q_anil))) (by rfl) (by trivial)) (q_cons (q_frz (q_frz (@q_app _ _ _ _ _ _ _ 4 _ _ _ _ rfl (by trivial) (q_FV (q_tup (q_acons (qv .V 9) (q_acons (qv .V 10) q_anil)))) (by decide) (by decide) (by rfl) (by rfl) (by rfl) (by rfl) (by rfl)))) (q_cons (q_dz2 (i:=5) sclaw.nd rfl (by trivial) (by trivial) (q_ct K_list (b_list (c:=true)) (by rfl) (bl Y).list_ bt_list (q_acons (qv .C 9) q_anil)) (q_ct K_list (b_list (c:=true)) (by rfl) (bl Y).list_ bt_list (q_acons (qv .C 10) q_anil))) (q_cons (q_frz (q_frz (q_setF (i:=11) sclaw.nd rfl (by trivial) (q_lst (q_acons (@q_callX _ _ _ _ _ _ _ _ _ _ _ _ _ _ _ (ok_law_handed Y) (by trivial) (by rfl) (d_law_handed Y).m (d_law_handed Y).F.kp (d_law_handed Y).b (q_acons (q_ixV (qv .C 5) (q_un un_neg (o1_U (g:=gNeg) (fun _=>rfl) (fun _ _=>.int)) q_int)) (q_acons (q_ixV (qv .C 8) q_int) q_anil)) (by decide) (by rfl) (by rfl)) (q_acons (@q_callX _ _ _ _ _ _ _ _ _ _ _ _ _ _ _ (ok_law_handed Y) (by trivial) (by rfl) (d_law_handed Y).m (d_law_handed Y).F.kp (d_law_handed Y).b (q_acons (q_ixV (qv .C 5) (q_un un_neg (o1_U (g:=gNeg) (fun _=>rfl) (fun _ _=>.int)) q_int)) (q_acons (q_op op_fdiv (o2_I (C:=CDiv) (g:=gDiv) (fun _ _=>rfl) (fun _ _ _=>.int)) (q_UB (q_ixU (qv .B 8) q_int)) q_int) q_anil)) (by decide) (by rfl) (by rfl)) q_anil))) (by rfl) (by trivial)))) (q_cons (q_if_ (q_tcmp op_eq o2_eqS (q_op op_mod (o2_I (C:=cMod) (g:=gMod) (fun _ _=>rfl) (fun _ _ _=>.int)) (q_op op_fdiv (o2_I (C:=CDiv) (g:=gDiv) (fun _ _=>rfl) (fun _ _ _=>.int)) (q_UB (q_ixU (qv .B 8) q_int)) q_int) q_int) q_int) (q_last (q_setF (i:=11) sclaw.nd rfl (by trivial) (q_lst (q_acons (q_ixV (qv .C 5) (q_un un_neg (o1_U (g:=gNeg) (fun _=>rfl) (fun _ _=>.int)) q_int)) (q_acons (q_ixV (qv .C 5) (q_un un_neg (o1_U (g:=gNeg) (fun _=>rfl) (fun _ _=>.int)) q_int)) q_anil))) (by rfl) (by trivial))) q_nil) (q_last (q_frz (q_frz (@q_app _ _ _ _ _ _ _ 6 _ _ _ _ rfl (by trivial) (@q_callX _ _ _ _ _ _ _ _ _ _ _ _ _ _ _ (ok_law_handed Y) (by trivial) (by rfl) (d_law_handed Y).m (d_law_handed Y).F.kp (d_law_handed Y).b (q_acons (qv .V 11) (q_acons (q_op op_fdiv (o2_I (C:=CDiv) (g:=gDiv) (fun _ _=>rfl) (fun _ _ _=>.int)) (q_UB (q_ixU (qv .B 8) q_int)) q_int) q_anil)) (by decide) (by rfl) (by rfl)) (by decide) (by decide) (by rfl) (by rfl) (by rfl) (by rfl) (by rfl))))))))))))) (by first | exact .inl rfl | exact .inr rfl)) (q_consN (@q_n _ _ _ _ _ _ (@q_setU _ _ _ _ _ _ _ 12 _ _ sclaw.nd rfl (by trivial) (q_ixU (qv .B 5) q_int) (by rfl) (by trivial)) (by first | exact .inl rfl | exact .inr rfl)) (q_consN (@q_n _ _ _ _ _ _ (q_if_ (q_tcmp op_eq o2_eqS (q_op op_mod (o2_I (C:=cMod) (g:=gMod) (fun _ _=>rfl) (fun _ _ _=>.int)) (q_UB (q_ixU (qv .B 1) q_int)) q_int) q_int) (q_last (q_setF (i:=12) sclaw.nd rfl (by trivial) (q_ct K_tup (b_tup (c:=false)) (by rfl) (bl Y).tuple_ bt_tuple (q_acons (qv .B 12) q_anil)) (by rfl) (by trivial))) q_nil) (by first | exact .inl rfl | exact .inr rfl)) (q_consN (@q_n _ _ _ _ _ _ (q_frz (q_setV (i:=13) sclaw.nd rfl (by trivial) (@q_callX _ _ _ _ _ _ _ _ _ _ _ _ _ _ _ (ok_law_handed Y) (by trivial) (by rfl) (d_law_handed Y).m (d_law_handed Y).F.kp (d_law_handed Y).b (q_acons (qv .V 6) (q_acons (q_op op_fdiv (o2_I (C:=CDiv) (g:=gDiv) (fun _ _=>rfl) (fun _ _ _=>.int)) (q_UB (q_ixU (qv .B 1) q_int)) q_int) q_anil)) (by decide) (by rfl) (by rfl)) (by rfl) (by trivial))) (by first | exact .inl rfl | exact .inr rfl)) (q_consN (@q_n _ _ _ _ _ _ (q_setF (i:=14) sclaw.nd rfl (by trivial) (qcD (okmoor Y) (dmoor Y) (q_acons (qv .B 12) (q_acons (qv .B 13) q_anil))) (by rfl) (by trivial)) (by first | exact .inl rfl | exact .inr rfl)) (q_consN (@q_n _ _ _ _ _ _ (q_if_ (q_tnot (q_val (q_CB (q_FC (qcD (ok_law_alike Y) (d_law_alike Y) (q_acons (qv .B 14) (q_acons (qv .B 3) (q_acons (qv .B 4) q_anil)))))))) (q_last (q_ret q_bl)) q_nil) (by first | exact .inl rfl | exact .inr rfl)) (q_consN (@q_n _ _ _ _ _ _ (q_for PassesOwn.never rfl (q_rng1 (by rfl) (bl Y).range_ (q_acons (q_cb K_len b_len (by rfl) (bl Y).len_ PySem.boot_len (q_acons (qv .B 4) q_anil)) q_anil)) (@pg_name _ _ 7 _ sclaw.nd rfl (by trivial) (by trivial)) gt_U (q_last (q_if_ (PW.pt (q_tor (q_tcmp (op_neD (hu64 hr)) (o2_eqD (neg:=true)) (q_UB (q_ixU (qv .B 5) (q_op op_add xAdd q_int (q_op op_mul (o2_I (C:=CMul) (g:=gMul) (fun _ _=>rfl) (fun _ _ _=>.int)) q_int (qv .B 7))))) (q_CB (q_FC (q_ct K_list (b_list (c:=true)) (by rfl) (bl Y).list_ bt_list (q_acons (q_VC (q_ixV (q_VC (q_ixV (qv .C 4) (qv .C 7))) q_int)) q_anil))))) (q_tor1 (q_tcmp (op_neD (hu64 hr)) (o2_eqD (neg:=true)) (q_UB (q_ixU (qv .B 5) (q_op op_add xAdd q_int (q_op op_mul (o2_I (C:=CMul) (g:=gMul) (fun _ _=>rfl) (fun _ _ _=>.int)) q_int (qv .B 7))))) (q_CB (q_FC (q_ct K_list (b_list (c:=true)) (by rfl) (bl Y).list_ bt_list (q_acons (q_VC (q_ixV (q_VC (q_ixV (qv .C 4) (qv .C 7))) q_int)) q_anil)))))))) (q_last (q_ret q_bl)) q_nil))) (by first | exact .inl rfl | exact .inr rfl)) (q_consN (@q_n _ _ _ _ _ _ (q_if_ (PW.pt (q_tor (q_tcmp (op_neD (hu64 hr)) (o2_eqD (neg:=true)) (q_UB (q_ixU (qv .B 5) q_int)) (q_CB (q_FC (q_ct K_list (b_list (c:=true)) (by rfl) (bl Y).list_ bt_list (q_acons (qv .C 3) q_anil))))) (q_tor1 (q_tcmp op_ne o2_neS (q_cb K_len b_len (by rfl) (bl Y).len_ PySem.boot_len (q_acons (qv .B 13) q_anil)) (q_cb K_len b_len (by rfl) (bl Y).len_ PySem.boot_len (q_acons (qv .B 4) q_anil)))))) (q_last (q_ret q_bl)) q_nil) (by first | exact .inl rfl | exact .inr rfl)) (q_consN (q_flip PassesOwn.never rfl (pi_sqK _ (pe_var (i:=5) rfl (by trivial))) (@pg_name _ _ 15 _ sclaw.nd rfl (by trivial) (by trivial)) (pss_one (ps_asg (pe_flv (r:=15) rfl (by trivial) (pe_idx (x:=1) (n:=2) rfl (by trivial) rfl (by trivial))) (@pg_sub _ _ _ _ _ _ _ (pe_var (i:=15) rfl (by trivial)) (pe_idx (x:=1) (n:=2) rfl (by trivial) rfl (by trivial)) set_list (by intro _; rfl))))) (q_consN (@q_n _ _ _ _ _ _ (q_setF (i:=16) sclaw.nd rfl (by trivial) (qcD (okmoor Y) (dmoor Y) (q_acons (q_UB (q_ixU (qv .B 5) q_int)) (q_acons (q_CB (q_FC (q_compn (show CompScope (defScope (top 20)) _ ["_law_script", "_law_xs", "_law_many", "_law_begin", "_law_moves", "_law_lists", "_law_handed_here", "_law_k", "_law_ys", "_law_take", "_law_put", "_law_parts", "_law_start", "_law_rows", "_law_found", "_law_row", "_law_anew", "_law_changed"] ["_law_script", "_law_xs", "_law_many", "_law_begin", "_law_moves", "_law_lists", "_law_handed_here", "#_law_k", "_law_ys", "_law_take", "_law_put", "_law_parts", "_law_start", "_law_rows", "_law_found", "_law_row", "_law_anew", "_law_changed", "_law_k"] from by trivial) rfl (q_rng1 (by rfl) (bl Y).range_ (q_acons (q_cb K_len b_len (by rfl) (bl Y).len_ PySem.boot_len (q_acons (qv .B 4) q_anil)) q_anil)) (fun _ _ _ _=>(@pg_name _ _ 18 _ (by decide +kernel:(["_law_script", "_law_xs", "_law_many", "_law_begin", "_law_moves", "_law_lists", "_law_handed_here", "#_law_k", "_law_ys", "_law_take", "_law_put", "_law_parts", "_law_start", "_law_rows", "_law_found", "_law_row", "_law_anew", "_law_changed", "_law_k"]:List Str).Nodup) rfl (Or.inl rfl) (.inr rfl))) gt_U (gk_name (show 18<=18 by decide)) (fun _ _ _ _=>q_pifN) (fun _ _ _ _=>(q_FV (q_tup (q_acons (q_ixV (qv .C 5) (q_op op_add xAdd q_int (q_op op_mul (o2_I (C:=CMul) (g:=gMul) (fun _ _=>rfl) (fun _ _ _=>.int)) q_int (qv .B 18)))) (q_acons (q_ixV (qv .C 5) (q_op op_add xAdd q_int (q_op op_mul (o2_I (C:=CMul) (g:=gMul) (fun _ _=>rfl) (fun _ _ _=>.int)) q_int (qv .B 18)))) q_anil)))))))) q_anil))) (by rfl) (by trivial)) (by first | exact .inl rfl | exact .inr rfl)) (q_consN (@q_n _ _ _ _ _ _ (q_setcn (i:=17) (show CompScope (defScope (top 20)) _ ["_law_script", "_law_xs", "_law_many", "_law_begin", "_law_moves", "_law_lists", "_law_handed_here", "_law_k", "_law_ys", "_law_take", "_law_put", "_law_parts", "_law_start", "_law_rows", "_law_found", "_law_row", "_law_anew", "_law_changed"] ["_law_script", "_law_xs", "_law_many", "_law_begin", "_law_moves", "_law_lists", "_law_handed_here", "#_law_k", "_law_ys", "_law_take", "_law_put", "_law_parts", "_law_start", "_law_rows", "_law_found", "_law_row", "_law_anew", "_law_changed", "_law_k"] from by trivial) rfl (q_rng1 (by rfl) (bl Y).range_ (q_acons (q_cb K_len b_len (by rfl) (bl Y).len_ PySem.boot_len (q_acons (qv .B 4) q_anil)) q_anil)) (fun _ _ _ _=>(@pg_name _ _ 18 _ (by decide +kernel:(["_law_script", "_law_xs", "_law_many", "_law_begin", "_law_moves", "_law_lists", "_law_handed_here", "#_law_k", "_law_ys", "_law_take", "_law_put", "_law_parts", "_law_start", "_law_rows", "_law_found", "_law_row", "_law_anew", "_law_changed", "_law_k"]:List Str).Nodup) rfl (Or.inl rfl) (.inr rfl))) gt_U (gk_name (show 18<=18 by decide)) (fun _ _ _ _=>q_pifN) (fun _ _ _ _=>(q_FV (q_tup (q_acons (q_FV (q_ct K_tup (b_tup (c:=false)) (by rfl) (bl Y).tuple_ bt_tuple (q_acons (q_UB (q_ixU (qv .B 5) (q_op op_add xAdd q_int (q_op op_mul (o2_I (C:=CMul) (g:=gMul) (fun _ _=>rfl) (fun _ _ _=>.int)) q_int (qv .B 18))))) q_anil))) (q_acons (q_FV (q_ct K_tup (b_tup (c:=false)) (by rfl) (bl Y).tuple_ bt_tuple (q_acons (q_UB (q_ixU (qv .B 5) (q_op op_add xAdd q_int (q_op op_mul (o2_I (C:=CMul) (g:=gMul) (fun _ _=>rfl) (fun _ _ _=>.int)) q_int (qv .B 18))))) q_anil))) q_anil))))) sclaw.nd rfl (by trivial)) (by first | exact .inl rfl | exact .inr rfl)) (q_lastN (@q_n _ _ _ _ _ _ (q_ret (q_and (q_CB (q_FC (qcD (ok_law_alike Y) (d_law_alike Y) (q_acons (qv .B 16) (q_acons (q_UB (q_ixU (qv .B 5) q_int)) (q_acons (qv .B 17) q_anil)))))) (q_one (qcD (ok_law_alike Y) (d_law_alike Y) (q_acons (qv .B 14) (q_acons (qv .B 3) (q_acons (qv .B 4) q_anil))))))) (by first | exact .inl rfl | exact .inr rfl))))))))))))))))))))
end
def spLaw (K:Frag):Sp:=fun vs H Q _=>∃ (a:Addr) (ns:List Int),vs = [.ref a]/\SqL K H a (ns.map V.int)/\ns.length<=63/\NoLst H/\∀ H',Q (.bl true) H'
theorem all_ {l:PySem.W.OpenLaw} {w:World} {mg:Str->Option Value} {fa:Addr} (Y:En w mg) (hp:∀ ns:List Int,ns.length<=63->f_law [.scr (ns.map W.int)]=.ok (.bl true)) (e:mg "law" = some (.ref fa)):∃ fd:FuncData,(∀ (s:Shared) (v:Value),BindsTo s fd ⟨[v],[]⟩ [("_law_script",v)])/\∀ base:Heap,(hk w).In base->base.Ns mainGlobals mg->FnOk l.prog w (hk w) mg base CX0 5 fa fd ["_law_script"] (spLaw (hk w)):=by
 cases e.symm.trans (dlaw Y).m
 exact ⟨FD "law" 20 hxM0 123,fun s v=>.of_eq rfl,fun base _ _=>law_ofN (oklaw Y) hp⟩
end K04
open PySem PySem.W PyProof.Rows
namespace K04
def hxas:List Addr:=[2,3,6,15,22,23,25,28,35,36,45,46,50,51,57,58,64,65,71,72,78,79,85,86,92,93,97,98,104,105,111,112,118,119,123,124]
def view:Program:={ PySem.Challenge.pw_tokenmoor_k04_a_moor with main:={ PySem.Challenge.pw_tokenmoor_k04_a_moor.main with body:=[1,2,4,5,6,7,8,9,10,11,13,14,15,16,17,18,19,20].map top } }
def hook:PySem.W.Hook:=PySem.W.kHook hxheap hxas (fun _=>by kernel_rfl)
end K04
set_option maxHeartbeats 0 in
theorem PySem.Challenge.cw_tokenmoor_k04_a_moor_holds : PySem.Challenge.rw_tokenmoor_k04_a_moor.Holds := by
 w_on; o_law
 refine holds_open (q:=K04.view) (loose:=[]) (Xt:=fun s=>xlAt K04.view [] s&&recOk [] s) (XP:=XL K04.view [])
  (Yf:=K04.hook.obs) (Ya:=K04.hook.val) (YP:=K04.hook.says) (N:=1812) ?hl K04.hook.of K04.hook.keeps
  (fun s e=>xl_of s (Bool.and_eq_true_iff.mp e).1) XL.keeps (by rfl) (by rfl) (by rfl)
  (fun s e=>recFacts_of (Bool.and_eq_true_iff.mp e).2) (by rfl) (by first | assumption | decide +kernel)
  (by decide +kernel) ⟨rfl,rfl,rfl,rfl,rfl,by decide +kernel⟩ ?hw ?hc
 (case hl=>intro w; kernel_rfl)
 (case hw=>w_witness2)
 refine L2.walk_ofK (l:=PySem.Challenge.rw_tokenmoor_k04_a_moor) (n:=63) (k:=5) (x := "_law_script") (CX:=L2.CX0) (sp:=K04.spLaw) rfl (by decide) rfl ⟨rfl,by decide,by decide⟩ (fun w h Y=>PySem.W.kIn_of Y)
  (fun w mg fa h X G e=>K04.all_ ⟨h,X,G⟩ K04.law_pure e)
  (fun K H a ns hl hO hS=>⟨a,ns,rfl,hS,hl,TP.noLst_of hO,fun _=>rfl⟩) fun _ _ _ _ z=>z
