import PyProof.Rows.All
import Wide.All
import OpenK.AllK
import Wide.FinOn
import Lean
import PyProof.EqAt
import PyProof.EqKinds
import PyProof.TupleCall
import PyProof.ZipIter
import PyProof.TupleIter
import PyProof.WalksMore
import PyProof.EnumMake
import PyProof.Draws
import PyProof.P3In
import KE.KSortTup
import PyProof.Rows.SortWalk
import KE.IntBitsLaws
import KE.KRevIter
import PyProof.TupleOfGen
import PySem.Challenge.RW_tokenmoor_k56_whole_each_balance_is_a_su
open PySem.W (Frag)
set_option Elab.async false
set_option linter.all false
set_option maxRecDepth 100000
theorem Z1 {p q:Prop} (a:p) (b:q):p/\q:=⟨a,b⟩
noncomputable section
local macro_rules | `(tactic| omega)=>`(tactic| first | with_reducible assumption | decide | lia)
set_option genSizeOf false
set_option genSizeOfSpec false
namespace L2
open PySem PySem.Spec PyProof.Rows
abbrev Key:=Sum Int Str
def keyIs:Key->Value->Bool
 | .inl k,v=>Value.isInt k v
 | .inr x,v=>Value.isStrOf x v
def keyH (w:World):Key->Int
 | .inl k=>hashInt k
 | .inr x=>hashStr w x
theorem keyIs_shape:∀ {k:Key} {v:Value},keyIs k v=true->(∃ i t,k=Sum.inl i/\v=Value.int i t)\/(∃ x t,k=Sum.inr x/\v=Value.str x t)
 | .inl i,v,h=>by
  obtain ⟨t,e⟩:=Value.isInt_shape (k:=i) (v:=v) h
  exact .inl ⟨i,t,rfl,e⟩
 | .inr x,v,h=>by
  obtain ⟨t,e⟩:=Value.isStrOf_shape (x:=x) (v:=v) h
  exact .inr ⟨x,t,rfl,e⟩
theorem key_ll (a b:Int):decide ((Sum.inl a:Key)=Sum.inl b)=(a == b):=by
 by_cases e:a=b
 ·subst e; simp
 ·have h:¬ (Sum.inl a:Key)=Sum.inl b:=fun q=>e (Sum.inl.inj q)
  rw [decide_eq_false h]
  exact (beq_eq_false_iff_ne.mpr e).symm
theorem key_rr (a b:Str):decide ((Sum.inr a:Key)=Sum.inr b)=decide (a=b):=by
 by_cases e:a=b
 ·subst e; simp
 ·have h:¬ (Sum.inr a:Key)=Sum.inr b:=fun q=>e (Sum.inr.inj q)
  rw [decide_eq_false h,decide_eq_false e]
theorem key_lr (a:Int) (b:Str):decide ((Sum.inl a:Key)=Sum.inr b)=false:=decide_eq_false (fun q=>nomatch q)
theorem key_rl (a:Str) (b:Int):decide ((Sum.inr a:Key)=Sum.inl b)=false:=decide_eq_false (fun q=>nomatch q)
def mixKind (prog:Program) (w:World):PySem.KeyKind prog w Key where
 is:=keyIs
 hash:=keyH w
 inj:=fun v a b ha hb=>by
  rcases keyIs_shape ha with ⟨i,t,rfl,rfl⟩ | ⟨x,t,rfl,rfl⟩
  ·rcases keyIs_shape hb with ⟨j,u,rfl,e⟩ | ⟨y,u,rfl,e⟩
   ·injection e with e1 _; rw [e1]
   ·exact nomatch e
  ·rcases keyIs_shape hb with ⟨j,u,rfl,e⟩ | ⟨y,u,rfl,e⟩
   ·exact nomatch e
   ·injection e with e1 _; rw [e1]
 byValue:=fun k v h=>by
  rcases keyIs_shape h with ⟨i,t,rfl,rfl⟩ | ⟨x,t,rfl,rfl⟩ <;> rfl
 pyHash:=fun hv h=>by
  rcases keyIs_shape hv with ⟨i,t,rfl,rfl⟩ | ⟨x,t,rfl,rfl⟩
  ·exact wpAny_pyHash_int h
  ·exact wpAny_pyHash_str h
 eqBool:=fun hu hv h=>by
  rcases keyIs_shape hu with ⟨i,t,rfl,rfl⟩ | ⟨x,t,rfl,rfl⟩
  ·rcases keyIs_shape hv with ⟨j,u,rfl,rfl⟩ | ⟨y,u,rfl,rfl⟩
   ·rw [key_ll] at h; exact wpAny_eqBool_int h
   ·rw [key_lr] at h; exact SeqAt.EqAt.int_str i t y u _ _ _ _ h
  ·rcases keyIs_shape hv with ⟨j,u,rfl,rfl⟩ | ⟨y,u,rfl,rfl⟩
   ·rw [key_rl] at h; exact SeqAt.EqAt.str_int x t j u _ _ _ _ h
   ·rw [key_rr] at h; exact wpAny_eqBool_str h
 «strs»:=fun k x t v h=>by
  rcases keyIs_shape h with ⟨i,u,rfl,e⟩ | ⟨y,u,rfl,e⟩
  ·exact nomatch e
  ·injection e with e1 _
   subst e1
   cases v <;> rfl
end L2
namespace L2
open PySem PySem.Spec PyProof.Rows
inductive V where
 | non | bl (b:Bool) | int (i:Int) | str (x:Str) | byt (b:Array UInt8) | flt (b:UInt64) | ref (a:Addr) | ty (n:String)
 deriving DecidableEq
def RelV:V->Value->Prop
 | .non,u=>u=Value.none
 | .bl b,u=>u=Value.bool b
 | .int i,u=>∃ t,u=Value.int i t
 | .str x,u=>∃ t,u=Value.str x t
 | .byt b,u=>∃ t,u=Value.bytes b t
 | .flt b,u=>∃ t,u=Value.float b t
 | .ref a,u=>u=Value.ref a
 | .ty n,u=>u=Value.type n
abbrev Vals:List V->List Value->Prop:=Paired RelV
theorem Vals.length {xs:List V} {us:List Value} (r:Vals xs us):xs.length=us.length:=Paired.length r
theorem Vals.get:∀ {xs:List V} {us:List Value} {i:Nat} {x:V},Vals xs us->xs[i]?=some x->∃ u,us[i]?=some u/\RelV x u:=by
 intro xs us i x a
 induction a generalizing i with
 | nil=>intro e; cases e
 | cons r t ih=>
  intro e
  cases i with
  | zero=>cases e; exact ⟨_,rfl,r⟩
  | succ i=>exact ih e
theorem Vals.set {x:V} {u:Value} (r:RelV x u):∀ {xs:List V} {us:List Value} (i:Nat),Vals xs us->Vals (xs.set i x) (us.set i u):=by
 intro xs us i h
 induction h generalizing i with
 | nil=>exact .nil
 | cons q t ih=>
  cases i with
  | zero=>exact .cons r t
  | succ i=>exact .cons q (ih i)
theorem Vals.append:∀ {xs ys:List V} {us ws:List Value},Vals xs us->Vals ys ws->Vals (xs++ys) (us++ws):=by
 intro xs ys us ws a s
 induction a with
 | nil=>exact s
 | cons r t ih=>exact .cons r ih
theorem Vals.take:∀ {xs:List V} {us:List Value} (n:Nat),Vals xs us->Vals (xs.take n) (us.take n):=by
 intro xs us n h
 induction h generalizing n with
 | nil=>cases n <;> exact .nil
 | cons r t ih=>
  cases n with
  | zero=>exact .nil
  | succ n=>exact .cons r (ih n)
theorem Vals.drop:∀ {xs:List V} {us:List Value} (n:Nat),Vals xs us->Vals (xs.drop n) (us.drop n)
 | _,_,0,r=>r
 | _,_,_+1,.nil=>.nil
 | _,_,n+1,.cons _ t=>Vals.drop n t
def RelO:Option V->Option Value->Prop
 | some v,some u=>RelV v u
 | none,none=>True
 | _,_=>False
def KV {κ:Type}:List (κ×V)->List (κ×Value)->Prop:=Paired fun (p:κ×V) (q:κ×Value)=>p.1=q.1/\RelV p.2 q.2
def kV:Key->V
 | .inl i=>.int i
 | .inr x=>.str x
inductive HO where
 | lst (xs:List V)
 | tup (xs:List V)
 | dK (kvs:List (Key×V)) | dT (kvs:List (List Key×V))
 | set (S:Int->Bool) (n:Nat)
 | ins (C dx:Addr) (fs:List (Str×V))
 | own (x:Addr)
 | xd (fs:List (Str×V))
 | met (f x:Addr)
 | rng (lo hi:Int)
 | frz (o:Obj) (u:HO)
 | tbl (ps:Array Value)
 | ext (φ:Heap->Prop)
abbrev Hp:=Addr->Option HO
def upd (H:Hp) (a:Addr) (o:HO):Hp:=fun b=>if b=a then some o else H b
theorem upd_same {H:Hp} {a:Addr} {o:HO}:upd H a o a=some o:=by unfold upd; rw [if_pos rfl]
theorem upd_ne {H:Hp} {a b:Addr} {o:HO} (h:b≠a):upd H a o b=H b:=by unfold upd; rw [if_neg h]
theorem ne_of_none {H:Hp} {a b:Addr} {o:HO} (h:H a=some o) (h':H b=none):a≠b:=by
 intro e; subst e; rw [h] at h'; cases h'
section
variable (P:Program) (w:World)
def ObjOk (H:Hp) (h:Heap) (a:Addr):HO->Prop
 | .lst xs=>xs.length<=sizeLine/\∃ (its:List Value) (n:Nat),Vals xs its/\h.get? a=some { cls:=.type "list",data:=.seq its.toArray n }
 | .tup xs=>xs.length<=sizeLine/\∃ its:List Value,Vals xs its/\IsTup h a its.toArray
 | .dK kvs=>kvs.length<=sizeLine/\(a == sysModules)=false/\∃ vs,KV kvs vs/\h.DictOf (mixKind P w) a vs
 | .dT kvs=>kvs.length<=sizeLine/\(a == sysModules)=false/\∃ xs:List (List Key×Addr×Value),
   Paired (fun (p:List Key×V) (q:List Key×Addr×Value)=>p.1=q.1/\H q.2.1=some (.tup (p.1.map kV))/\RelV p.2 q.2.2) kvs xs /\
   ∃ o es ep,h.get? a=some o/\o.ExactDict/\o.data=.dict es ep/\es.toList=xs.map (entryOfKey (tupleKind (mixKind P w)))/\(xs.map (·.1)).Nodup
 | .set S n=>h.SetOf (intKind P w) a S n
 | .ins C dx fs=>H dx=some (.own a)/\fs.length<=1000/\dx≠a/\h.get? a=some (PySem.W.instObj C dx) /\
   ∃ mA,h.Ns1 dx mA/\(∀ f,RelO (fs.lookup f) (mA f))/\PySem.Within mA (fs.map (·.1))
 | .own _=>∃ o,h.get? a=some o
 | .xd fs=>∃ mA,h.Ns1 a mA/\∀ f,RelO (fs.lookup f) (mA f)
 | .rng lo hi=>∃ t u v,h.get? a=some { cls:=.type "range",data:=.fields #[.int lo t,.int hi u,.int 1 v] }
 | .frz o u=>h.get? a=some o/\ObjOk H h a u
 | .tbl ps=>h.get? a=some { cls:=.none,data:=.fields ps }
 | .met f x=>h.get? a=some (PySem.W.methodObj (.ref f) (.ref x))
 | .ext φ=>φ h/\(∃ o,h.get? a=some o)/\∀ h1 h2:Heap,φ h1->(∀ o,h1.get? a=some o->h2.get? a=some o)->φ h2
def HOk (H:Hp) (h:Heap):Prop:=∀ a o,H a=some o->ObjOk P w H h a o
end
section
variable {P:Program} {w:World} {H H':Hp} {h h':Heap} {a:Addr} {o:HO}
theorem ObjOk.lt (x:ObjOk P w H h a o):a<h.objs.size:=by
 cases o with
 | lst xs=>obtain ⟨_,_,_,_,e⟩:=x; exact Heap.lt_size e
 | tup xs=>obtain ⟨_,_,_,p⟩:=x; exact p.lt
 | dK kvs=>obtain ⟨_,_,_,_,o,_,_,e,_⟩:=x; exact Heap.lt_size e
 | dT kvs=>obtain ⟨_,_,_,_,o,_,_,e,_⟩:=x; exact Heap.lt_size e
 | set S n=>obtain ⟨o,_,_,_,e,_⟩:=x; exact Heap.lt_size e
 | ins C dx fs=>obtain ⟨_,_,_,e,_⟩:=x; exact Heap.lt_size e
 | own y=>obtain ⟨_,e⟩:=x; exact Heap.lt_size e
 | xd fs=>obtain ⟨_,⟨_,_,_,e,_⟩,_⟩:=x; exact Heap.lt_size e
 | rng lo hi=>obtain ⟨_,_,_,e⟩:=x; exact Heap.lt_size e
 | frz ob u=>obtain ⟨e,_⟩:=x; exact Heap.lt_size e
 | tbl ps=>exact Heap.lt_size (show h.get? a=some _ from x)
 | met f y=>exact Heap.lt_size (show h.get? a=some _ from x)
 | ext φ=>obtain ⟨_,⟨_,e⟩,_⟩:=x; exact Heap.lt_size e
theorem Paired.mapP {α β:Type} {F G:α->β->Prop}:∀ {l₁:List α} {l₂:List β},Paired F l₁ l₂->(∀ a b,F a b->G a b)->Paired G l₁ l₂:=by
 intro l₁ l₂ h f
 induction h with
 | nil=>exact .nil
 | cons r t ih=>exact .cons (f _ _ r) ih
theorem ObjOk.stay (x:ObjOk P w H h a o) (k:∀ b u,(b=a\/H b=some (.own a))->h.get? b=some u->h'.get? b=some u)
  (ho:∀ b,H b=some (.own a)->H' b=some (.own a)) (ht:∀ b xs,H b=some (.tup xs)->H' b=some (.tup xs)):ObjOk P w H' h' a o:=by
 induction o with
 | lst xs=>obtain ⟨z,its,n,r,e⟩:=x; exact ⟨z,its,n,r,k _ _ (.inl rfl) e⟩
 | tup xs=>obtain ⟨z,its,r,ob,e,c⟩:=x; exact ⟨z,its,r,ob,k _ _ (.inl rfl) e,c⟩
 | dK kvs=>obtain ⟨z,y,vs,r,ob,es,ep,e,c⟩:=x; exact ⟨z,y,vs,r,ob,es,ep,k _ _ (.inl rfl) e,c⟩
 | dT kvs=>
  obtain ⟨z,y,xs,r,ob,es,ep,e,c⟩:=x
  exact ⟨z,y,xs,Paired.mapP r fun p q z=>⟨z.1,ht _ _ z.2.1,z.2.2⟩,ob,es,ep,k _ _ (.inl rfl) e,c⟩
 | set S n=>obtain ⟨ob,es,ep,t,e,c⟩:=x; exact ⟨ob,es,ep,t,k _ _ (.inl rfl) e,c⟩
 | ins C dx fs=>
  obtain ⟨d,z,ne,e,mA,⟨od,es,ep,e2,c⟩,r⟩:=x
  exact ⟨ho _ d,z,ne,k _ _ (.inl rfl) e,mA,⟨od,es,ep,k _ _ (.inr d) e2,c⟩,r⟩
 | own y=>obtain ⟨ob,e⟩:=x; exact ⟨ob,k _ _ (.inl rfl) e⟩
 | xd fs=>obtain ⟨mA,⟨od,es,ep,e,c⟩,r⟩:=x; exact ⟨mA,⟨od,es,ep,k _ _ (.inl rfl) e,c⟩,r⟩
 | rng lo hi=>obtain ⟨t,u,v,e⟩:=x; exact ⟨t,u,v,k _ _ (.inl rfl) e⟩
 | frz ob u ih=>obtain ⟨e,q⟩:=x; exact ⟨k _ _ (.inl rfl) e,ih q⟩
 | tbl ps=>
  have e:h.get? a=some { cls:=.none,data:=.fields ps }:=x
  show h'.get? a=some { cls:=.none,data:=.fields ps }
  exact k a _ (.inl rfl) e
 | met f y=>
  have e:h.get? a=some (PySem.W.methodObj (.ref f) (.ref y)):=x
  show h'.get? a=some (PySem.W.methodObj (.ref f) (.ref y))
  exact k a _ (.inl rfl) e
 | ext φ=>obtain ⟨p,⟨o,e⟩,st⟩:=x; exact ⟨st _ _ p fun o q=>k _ _ (.inl rfl) q,⟨o,k _ _ (.inl rfl) e⟩,st⟩
theorem HOk.lt (x:HOk P w H h) (e:H a=some o):a<h.objs.size:=(x a o e).lt
theorem HOk.fresh (x:HOk P w H h) (e:h.objs.size<=a):H a=none:=by
 cases q:H a with
 | none=>rfl
 | some u=>exact absurd (Nat.lt_of_lt_of_le (x.lt q) e) (Nat.lt_irrefl _)
theorem HOk.kept (x:HOk P w H h) (k:∀ b u,h.get? b=some u->h'.get? b=some u):HOk P w H h':=fun a o e=>
 (x a o e).stay (fun b u _ q=>k b u q) (fun _ q=>q) fun _ _ q=>q
theorem HOk.laid (x:HOk P w H h) (k:∀ b u,h.get? b=some u->h'.get? b=some u) (hp:h.objs.size<=a) (new:ObjOk P w (upd H a o) h' a o):HOk P w (upd H a o) h':=fun b u e=>by
 have hn:=x.fresh hp
 by_cases hb:b=a
 ·subst hb; rw [upd_same] at e; cases e; exact new
 ·rw [upd_ne hb] at e
  exact (x b u e).stay (fun c v _ q=>k c v q) (fun c q=>by rw [upd_ne (ne_of_none q hn)]; exact q) fun c xs q=>by rw [upd_ne (ne_of_none q hn)]; exact q
end
def Rd (H:Hp) (a:Addr) (u:HO):Prop:=H a=some u\/∃ o,H a=some (.frz o u)
theorem Rd.ok {P:Program} {w:World} {H:Hp} {h:Heap} {a:Addr} {u:HO} (r:Rd H a u) (x:HOk P w H h):ObjOk P w H h a u:=by
 rcases r with r | ⟨o,r⟩
 ·exact x a u r
 ·obtain ⟨_,q⟩:=x a _ r
  exact q
def Mut:Option HO->Prop
 | some (.lst _)=>True
 | some (.dK _)=>True
 | some (.dT _)=>True
 | some (.set _ _)=>True
 | some (.ins _ _ _)=>True
 | some (.ext _)=>True
 | _=>False
section
variable {P:Program} {w:World} {H:Hp} {h h':Heap} {x e:Addr} {o':HO}
theorem HOk.write (ok:HOk P w H h) (mu:Mut (H x)) (he:e=x\/H e=some (.own x)) (k:∀ b u,b≠e->h.get? b=some u->h'.get? b=some u) (heo:∃ u,h'.get? e=some u)
  (new:ObjOk P w (upd H x o') h' x o'):HOk P w (upd H x o') h':=fun b u q=>by
 have nown:∀ c y,H c=some (.own y)->c≠x:=fun c y r z=>by subst z; rw [r] at mu; exact mu
 have ntup:∀ c xs,H c=some (.tup xs)->c≠x:=fun c xs r z=>by subst z; rw [r] at mu; exact mu
 by_cases hb:b=x
 ·subst hb; rw [upd_same] at q; cases q; exact new
 ·rw [upd_ne hb] at q
  by_cases hbe:b=e
  ·have q':H b=some (.own x):=by
    rcases he with z | z
    ·exact absurd (hbe.trans z) hb
    ·rw [hbe]; exact z
   rw [q] at q'; cases q'
   obtain ⟨v,hv⟩:=heo
   exact ⟨v,by rw [hbe]; exact hv⟩
  ·refine (ok b u q).stay (fun c v hc r=>k c v ?_ r) (fun c r=>by rw [upd_ne (nown c b r)]; exact r) fun c xs r=>by rw [upd_ne (ntup c xs r)]; exact r
   rcases hc with rfl | hc
   ·exact hbe
   ·rintro rfl
    rcases he with z | z
    ·exact nown c b hc z
    ·rw [hc] at z; cases z; exact hb rfl
end
structure Un (fs ex:List Addr) (H H':Hp) (h h':Heap):Prop where
 keep:∀ b o,h.get? b=some o->H b=none->b∉fs->b∉ex->h'.get? b=some o
 slot:∀ b o,h.get? b=some o->H b=none->b∈fs->b∉ex->∃ sl,h'.get? b=some { o with slots:=sl }
 free:∀ b o,h.get? b=some o->H b=none->b∉ex->H' b=none
 there:∀ b o,h.get? b=some o->b∉ex->∃ o',h'.get? b=some o'
 tups:∀ b xs,H b=some (.tup xs)->H' b=some (.tup xs)
 frzs:∀ b o u,H b=some (.frz o u)->H' b=some (.frz o u)
 tbls:∀ b ps,H b=some (.tbl ps)->∃ more,H' b=some (.tbl (ps++more))
section
variable {fs fs' ex ex':List Addr} {H H1 H2:Hp} {h h1 h2 h':Heap} {a x e:Addr} {o:HO}
theorem Un.any (u:Un fs ex H H1 h h1) {b:Addr} {ob:Obj} (q:h.get? b=some ob) (n:H b=none) (hx:b∉ex):∃ sl,h1.get? b=some { ob with slots:=sl }:=by
 by_cases hb:b∈fs
 ·exact u.slot b ob q n hb hx
 ·exact ⟨ob.slots,u.keep b ob q n hb hx⟩
theorem Un.kept (k:∀ b u,h.get? b=some u->h'.get? b=some u):Un fs ex H H h h':=
 ⟨fun b ob q _ _ _=>k b ob q,fun b ob q _ _ _=>⟨ob.slots,k b ob q⟩,fun _ _ _ n _=>n,fun b ob q _=>⟨ob,k b ob q⟩,fun _ _ q=>q,fun _ _ _ q=>q,fun _ ps q=>⟨#[],by rw [q]; simp⟩⟩
theorem Un.refl:Un fs ex H H h h:=Un.kept fun _ _ q=>q
theorem Un.laid (k:∀ b u,h.get? b=some u->h'.get? b=some u) (hp:h.objs.size<=a) (hn:H a=none):Un fs ex H (upd H a o) h h' where
 keep:=fun b u q _ _ _=>k b u q
 slot:=fun b u q _ _ _=>⟨u.slots,k b u q⟩
 free:=fun b u q n _=>by rw [upd_ne (Nat.ne_of_lt (Nat.lt_of_lt_of_le (Heap.lt_size q) hp))]; exact n
 there:=fun b u q _=>⟨u,k b u q⟩
 tups:=fun b xs q=>by rw [upd_ne (ne_of_none q hn)]; exact q
 frzs:=fun b u xs q=>by rw [upd_ne (ne_of_none q hn)]; exact q
 tbls:=fun b ps q=>⟨#[],by rw [upd_ne (ne_of_none q hn),q]; simp⟩
theorem Un.write (mu:Mut (H x)) (he:e=x\/H e=some (.own x)) (k:∀ b u,b≠e->h.get? b=some u->h'.get? b=some u) (heo:∃ u,h'.get? e=some u):Un fs ex H (upd H x o) h h':=by
 have hx:∀ b,H b=none->b≠x:=fun b n z=>by subst z; rw [n] at mu; exact mu
 have hb:∀ b,H b=none->b≠e:=fun b n z=>by
  subst z
  rcases he with r | r
  ·exact hx b n r
  ·rw [n] at r; cases r
 have hm:∀ b u,H b=some u->¬ Mut (some u)->b≠x:=fun b u q nm z=>by subst z; rw [q] at mu; exact nm mu
 refine ⟨fun b u q n _ _=>k b u (hb b n) q,fun b u q n _ _=>⟨u.slots,k b u (hb b n) q⟩,fun b u q n _=>by rw [upd_ne (hx b n)]; exact n,fun b u q _=>?_,
  fun b xs q=>by rw [upd_ne (hm b _ q fun z=>z)]; exact q,fun b u xs q=>by rw [upd_ne (hm b _ q fun z=>z)]; exact q,fun b ps q=>⟨#[],by rw [upd_ne (hm b _ q fun z=>z),q]; simp⟩⟩
 by_cases hbe:b=e
 ·subst hbe; exact heo
 ·exact ⟨u,k b u hbe q⟩
end
def trk (h:Heap) (H:Hp):List Addr:=(List.range h.objs.size).filter fun a=>(H a).isSome
def hidT (h:Heap) (H:Hp):Heap:=PySem.W.hideAll h (trk h H)
theorem hidT_size (h:Heap) (H:Hp):(hidT h H).objs.size=h.objs.size:=PySem.W.hideAll_size _ _
theorem hidT_get {h:Heap} {H:Hp} {b:Addr} {o:Obj} (e:h.get? b=some o) (n:H b=none):(hidT h H).get? b=some o:=
 PySem.W.hideAll_get _ e fun hm=>by
  have q:(H b).isSome=true:=(List.mem_filter.mp hm).2
  rw [n] at q; simp at q
theorem of_hidT {h:Heap} {H:Hp} {b:Addr} {o:Obj} (e:(hidT h H).get? b=some o):h.get? b=some o/\H b=none:=by
 have e':h.get? b=some o:=PySem.W.of_hideAll (trk h H) e
 refine ⟨e',?_⟩
 cases q:H b with
 | none=>rfl
 | some x=>
  have hm:b∈trk h H:=List.mem_filter.mpr ⟨List.mem_range.mpr (Heap.lt_size e'),by simp [q]⟩
  have z:(hidT h H).get? b=none:=PySem.W.hideAll_none (trk h H) hm
  rw [z] at e; cases e
def allNews (g h:Heap) (L:Addr):List (Addr×Obj):=(List.range h.objs.size).filterMap fun a=>if a=L\/(g.get? a).isSome=true then none else (h.get? a).map fun o=>(a,o)
def rest (g h:Heap) (L d:Addr):List (Addr×Obj):=(allNews g h L).filter fun p=>decide (p.1≠d)
end L2
namespace L2
open PySem PySem.Spec PyProof.Rows
structure Mod (K:Frag) (mg:Str->Option Value) (base:Heap):Prop where
 kin:K.In base
 glob:base.Ns mainGlobals mg
 blt:∃ mb,base.Ns builtinsNs mb/\∀ x:Str,x ≠ "__name__" -> mb x=bootBuiltins x
 nolimit:base.NoLimit
structure Cx where
 prog:Program
 w:World
 K:Frag
 mg:Str->Option Value
 base:Heap
 A:Around
 N:List Str
 s₀:Shared
 H₀:Hp
 env:Env
 outer:List Env
 stack:List Env
 ex:List Addr
 fn:Str->Bool
 calm:Bool
 pn:List (Addr×Obj)
 xe:Value->Shared->Prop
def frs (l:List Env):List Addr:=l.filterMap (·.frame)
abbrev Cx.fs (X:Cx):List Addr:=frs X.outer
def Vis (sc:Scope) (x:Str):Prop:=sc.names.lookup x=some .local\/sc.names.lookup x=some .cell\/sc.names.lookup x=some .free
def Loc (sc:Scope) (x:Str):Prop:=sc.names.lookup x=some .local\/sc.names.lookup x=some .cell
def Look (env:Env) (h:Heap) (m:Str->Option Value) (x:Str) (u:Value):Prop:=
 (env.kindOf x=some .local/\m x=some u)\/((env.kindOf x=some .cell\/env.kindOf x=some .free)/\∃ c,env.cells.lookup x=some c/\h.IsCell c (some u))
structure Cx.Ok (X:Cx):Prop where
 mod:Mod X.K X.mg X.base
 kind:X.env.scope.kind=.function
 glob:X.env.globals=mainGlobals
 blt:X.env.builtins=builtinsNs
 above:X.s₀.heap.objs.size<=X.env.locals
 inj:∀ x y c,X.env.cells.lookup x=some c->X.env.cells.lookup y=some c->x=y
 has:∀ x,(X.env.kindOf x=some .cell\/X.env.kindOf x=some .free)->∃ c,X.env.cells.lookup x=some c
 cab:∀ x c,X.fn x=true->X.env.cells.lookup x=some c->X.s₀.heap.objs.size<=c
 hd:X.calm=true->X.A.handled=none
 frames:X.A.frames=some X.stack
 stk:X.stack=X.outer\/(X.stack=X.env::X.outer/\X.env.frame=some X.env.locals)
 exf:∀ b∈X.ex,b≠X.env.locals/\∀ x c,X.env.cells.lookup x=some c->c≠b
 bs:∀ b o,X.base.get? b=some o->X.s₀.heap.get? b=some o/\X.H₀ b=none
 bsz:X.base.objs.size<=X.s₀.heap.objs.size
 noex:∀ b o,X.base.get? b=some o->b∉X.ex
 exfs:∀ b∈X.ex,b∉X.fs
 funs:X.s₀.heap.FunFrames X.base X.outer
 frf:∀ b∈X.fs,X.H₀ b=none
structure Inv (X:Cx) (pins:List (Addr×Obj)) (σ:List (Option V)) (H:Hp) (s:Shared):Prop where
 ok:X.Ok
 os:s.os=X.s₀.os
 bare:AllBare s.gens
 base:Un X.fs X.ex X.H₀ H X.s₀.heap s.heap
 loc:∃ m,s.heap.Ns X.env.locals m/\∀ (i:Nat) (x:Str) (v:V),X.N[i]?=some x->σ[i]?=some (some v)->Vis X.env.scope x->∃ u,RelV v u/\Look X.env s.heap m x u
 cell:∀ x c,X.env.cells.lookup x=some c->∃ v,s.heap.IsCell c v
 free:H X.env.locals=none
 freeC:∀ x c,X.env.cells.lookup x=some c->H c=none
 pin:∀ p∈X.pn++pins,s.heap.get? p.1=some p.2/\H p.1=none/\p.1≠X.env.locals/\p.1∉X.fs/\∀ v,p.2.data≠.cell v
 hok:HOk X.prog X.w H s.heap
 len:σ.length=X.N.length
section
variable {X:Cx} {pins:List (Addr×Obj)} {σ:List (Option V)} {H H':Hp} {s:Shared} {h':Heap}
theorem Cx.Ok.nofr (ok:X.Ok) {b:Addr} {o:Obj} (e:X.base.get? b=some o):b∉X.fs:=fun hb=>by
 have:=(ok.funs.mem hb).1
 rw [e] at this; cases this
theorem Inv.bs (I:Inv X pins σ H s):∀ b o,X.base.get? b=some o->s.heap.get? b=some o/\H b=none:=fun b o e=>
 ⟨I.base.keep b o (I.ok.bs b o e).1 (I.ok.bs b o e).2 (I.ok.nofr e) (I.ok.noex b o e),I.base.free b o (I.ok.bs b o e).1 (I.ok.bs b o e).2 (I.ok.noex b o e)⟩
theorem Inv.bk (I:Inv X pins σ H s):∀ b o,X.base.get? b=some o->s.heap.get? b=some o:=fun b o e=>(I.bs b o e).1
theorem Inv.mod (I:Inv X pins σ H s):Mod X.K X.mg X.base:=I.ok.mod
theorem Inv.kIn (I:Inv X pins σ H s):X.K.In s.heap:=I.ok.mod.kin.keeps I.bk
theorem Inv.fr (I:Inv X pins σ H s):∃ m,Fr X.base X.env.locals s.heap m:=
 let ⟨m,hn,_⟩:=I.loc
 ⟨m,hn,I.bk,Nat.le_trans I.ok.bsz I.ok.above⟩
theorem Inv.lt (I:Inv X pins σ H s):X.env.locals<s.heap.objs.size:=let ⟨_,hn,_⟩:=I.loc; hn.lt
theorem Inv.sz (I:Inv X pins σ H s):X.s₀.heap.objs.size<=s.heap.objs.size:=Nat.le_trans I.ok.above (Nat.le_of_lt I.lt)
theorem Inv.nofs (I:Inv X pins σ H s) {a:Addr} (h:s.heap.objs.size<=a):a∉X.fs:=fun hb=>by
 obtain ⟨_,o,ho,_⟩:=I.ok.funs.mem hb
 exact absurd (Nat.lt_of_lt_of_le (Heap.lt_size ho) (Nat.le_trans I.sz h)) (Nat.lt_irrefl _)
theorem Inv.cne (I:Inv X pins σ H s):∀ x c,X.env.cells.lookup x=some c->c≠X.env.locals:=fun x c e z=>by
 obtain ⟨v,o,ho,hd⟩:=I.cell x c e
 obtain ⟨m,⟨o',es,ep,ho',hd',_⟩,_⟩:=I.loc
 rw [z,ho'] at ho; cases ho; rw [hd'] at hd; cases hd
theorem Inv.funs (I:Inv X pins σ H s):s.heap.FunFrames X.base X.outer:=by
 have all:∀ (l:List Env),(∀ b∈frs l,b∈X.fs)->X.s₀.heap.FunFrames X.base l->s.heap.FunFrames X.base l:=by
  intro l
  induction l with
  | nil=>intro _ _; trivial
  | cons env r ih=>
   intro hs hl
   obtain ⟨hk,⟨L,o,hf,hn,ho,hd⟩,hr⟩:=hl
   have hL:L∈X.fs:=hs L (by unfold frs; rw [List.filterMap_cons,hf]; exact List.mem_cons_self)
   obtain ⟨sl,e⟩:=I.base.slot L o ho (I.ok.frf L hL) hL fun z=>I.ok.exfs L z hL
   exact ⟨hk,⟨L,_,hf,hn,e,hd⟩,ih (fun b hb=>hs b (by unfold frs; rw [List.filterMap_cons,hf]; exact List.mem_cons_of_mem _ hb)) hr⟩
 exact all X.outer (fun _ hb=>hb) I.ok.funs
theorem Inv.stack (I:Inv X pins σ H s):s.heap.FunFrames X.base X.stack:=by
 rcases I.ok.stk with e | ⟨e,hf⟩
 ·rw [e]; exact I.funs
 ·rw [e]
  obtain ⟨m,hn,_⟩:=I.loc
  refine .cons (by rw [I.ok.kind]; decide) hf hn ?_ I.funs
  exact Heap.get?_none_of_le (Nat.le_trans I.ok.bsz I.ok.above)
theorem Inv.stkSub (I:Inv X pins σ H s):∀ b∈frs X.stack,b∈X.env.locals::X.fs:=fun b hb=>by
 rcases I.ok.stk with e | ⟨e,hf⟩
 ·rw [e] at hb; exact List.mem_cons_of_mem _ hb
 ·rw [e] at hb
  unfold frs at hb
  rw [List.filterMap_cons,hf] at hb
  exact hb
theorem Inv.stkFree (I:Inv X pins σ H s):∀ b∈frs X.stack,H b=none:=fun b hb=>by
 rcases List.mem_cons.mp (I.stkSub b hb) with e | hb
 ·rw [e]; exact I.free
 ·obtain ⟨_,o,ho,_⟩:=I.ok.funs.mem hb
  exact I.base.free b o ho (I.ok.frf b hb) fun z=>I.ok.exfs b z hb
theorem Inv.step {g':Array GenState} {t':Nat} {d':Drawn} {ch:List Addr} (I:Inv X pins σ H s)
  (hch:∀ b∈ch,(b∈X.ex\/X.s₀.heap.objs.size<=b)/\b≠X.env.locals/\(∀ x c,X.env.cells.lookup x=some c->c≠b)/\∀ p∈X.pn++pins,p.1≠b)
  (keep:∀ b o,b≠X.env.locals->b∉X.fs->b∉ch->s.heap.get? b=some o->H b=none->h'.get? b=some o)
  (slot:∀ b o,b≠X.env.locals->b∈X.fs->b∉ch->s.heap.get? b=some o->H b=none->∃ sl,h'.get? b=some { o with slots:=sl }) (free:∀ b o,b∉ch->s.heap.get? b=some o->H b=none->H' b=none)
  (there:∀ b o,b∉ch->s.heap.get? b=some o->∃ o',h'.get? b=some o')
  (tups:∀ b xs,H b=some (.tup xs)->H' b=some (.tup xs)) (frzs:∀ b o u,H b=some (.frz o u)->H' b=some (.frz o u)) (tbls:∀ b ps,H b=some (.tbl ps)->∃ more,H' b=some (.tbl (ps++more)))
  (ns:∀ m,s.heap.Ns X.env.locals m->h'.Ns X.env.locals m) (hok:HOk X.prog X.w H' h') (hg:AllBare g') :
  Inv X pins σ H' { s with heap:=h',gens:=g',drawn:=d',toks:=t' }:=by
 have neL:∀ b o,X.s₀.heap.get? b=some o->b≠X.env.locals:=fun b o e=>Nat.ne_of_lt (Nat.lt_of_lt_of_le (Heap.lt_size e) I.ok.above)
 have neC:∀ b o,X.s₀.heap.get? b=some o->b∉X.ex->b∉ch:=fun b o e hx hb=>by
  rcases (hch b hb).1 with z | z
  ·exact hx z
  ·exact absurd (Nat.lt_of_lt_of_le (Heap.lt_size e) z) (Nat.lt_irrefl _)
 have cellK:∀ x c,X.env.cells.lookup x=some c->∀ v,s.heap.IsCell c v->h'.IsCell c v:=fun x c e v zz1=>by
  obtain ⟨o,ho,hd⟩:=zz1
  have nch:c∉ch:=fun z=>(hch c z).2.2.1 x c e rfl
  by_cases hc:c∈X.fs
  ·obtain ⟨sl,q⟩:=slot c o (I.cne x c e) hc nch ho (I.freeC x c e)
   exact ⟨_,q,hd⟩
  ·exact ⟨o,keep c o (I.cne x c e) hc nch ho (I.freeC x c e),hd⟩
 refine ⟨I.ok,I.os,hg,⟨fun b o e n hb hx=>?_,fun b o e n hb hx=>?_,fun b o e n hx=>?_,fun b o e hx=>?_,fun b xs e=>tups b xs (I.base.tups b xs e),fun b o xs e=>frzs b o xs (I.base.frzs b o xs e),fun b ps e=>?_⟩,?_,fun x c e=>?_,?_,fun x c e=>?_,fun p hp=>?_,hok,I.len⟩
 ·exact keep b o (neL b o e) hb (neC b o e hx) (I.base.keep b o e n hb hx) (I.base.free b o e n hx)
 ·obtain ⟨sl,e1⟩:=I.base.slot b o e n hb hx
  obtain ⟨sl',e2⟩:=slot b _ (neL b o e) hb (neC b o e hx) e1 (I.base.free b o e n hx)
  exact ⟨sl',e2⟩
 ·obtain ⟨o',e1⟩:=I.base.there b o e hx
  exact free b o' (neC b o e hx) e1 (I.base.free b o e n hx)
 ·obtain ⟨o',e1⟩:=I.base.there b o e hx
  exact there b o' (neC b o e hx) e1
 ·obtain ⟨m1,e1⟩:=I.base.tbls b ps e
  obtain ⟨m2,e2⟩:=tbls b _ e1
  exact ⟨m1++m2,by rw [e2,Array.append_assoc]⟩
 ·obtain ⟨m,hn,hl⟩:=I.loc
  refine ⟨m,ns m hn,fun i x v e1 e2 e3=>?_⟩
  obtain ⟨u,r,l⟩:=hl i x v e1 e2 e3
  refine ⟨u,r,?_⟩
  rcases l with l | ⟨k,c,e,z⟩
  ·exact .inl l
  ·exact .inr ⟨k,c,e,cellK x c e _ z⟩
 ·obtain ⟨v,z⟩:=I.cell x c e
  exact ⟨v,cellK x c e v z⟩
 ·obtain ⟨m,⟨o,_,_,ho,_⟩,_⟩:=I.loc
  exact free _ o (fun z=>(hch _ z).2.1 rfl) ho I.free
 ·obtain ⟨v,o,ho,hd⟩:=I.cell x c e
  exact free c o (fun z=>(hch c z).2.2.1 x c e rfl) ho (I.freeC x c e)
 ·obtain ⟨e,n,ne,nf,d⟩:=I.pin p hp
  have nch:p.1∉ch:=fun z=>(hch p.1 z).2.2.2 p hp rfl
  exact ⟨keep p.1 p.2 ne nf nch e n,free p.1 p.2 nch e n,ne,nf,d⟩
theorem Inv.un {t':Nat} (I:Inv X pins σ H s) (u:Un X.fs [] H H' s.heap h') (hok:HOk X.prog X.w H' h'):Inv X pins σ H' { s with heap:=h',toks:=t' }:=by
 obtain ⟨m,⟨o,es,ep,ho,r⟩,_⟩:=id I.loc
 obtain ⟨sl,hL⟩:=u.any ho I.free (by simp)
 exact I.step (g':=s.gens) (d':=s.drawn) (ch:=[]) (fun _ z=>nomatch z) (fun b o _ hb _ e n=>u.keep b o e n hb (by simp)) (fun b o _ hb _ e n=>u.slot b o e n hb (by simp)) (fun b o _ e n=>u.free b o e n (by simp)) (fun b o _ e=>u.there b o e (by simp)) u.tups u.frzs u.tbls (fun m' hm=>by
  obtain ⟨o',es',ep',ho',r'⟩:=hm
  rw [ho] at ho'; cases ho'
  exact ⟨_,es',ep',hL,r'⟩) hok I.bare
theorem Inv.call {g':Array GenState} {t':Nat} {d':Drawn} {ch:List Addr} (I:Inv X pins σ H s) (u:Un (frs X.stack) ch H H' s.heap h') (hok:HOk X.prog X.w H' h') (hg:AllBare g')
  (hch:∀ b∈ch,(b∈X.ex\/X.s₀.heap.objs.size<=b)/\b≠X.env.locals/\(∀ x c,X.env.cells.lookup x=some c->c≠b)/\∀ p∈X.pn++pins,p.1≠b) :
  Inv X pins σ H' { s with heap:=h',gens:=g',drawn:=d',toks:=t' }:=by
 obtain ⟨m,⟨o,es,ep,ho,r⟩,_⟩:=id I.loc
 obtain ⟨sl,hL⟩:=u.any ho I.free fun z=>(hch _ z).2.1 rfl
 exact I.step (ch:=ch) hch (fun b o hL hb hc e n=>u.keep b o e n (fun z=>(List.mem_cons.mp (I.stkSub b z)).elim hL hb) hc) (fun b o _ _ hc e n=>u.any e n hc) (fun b o hc e n=>u.free b o e n hc) (fun b o hc e=>u.there b o e hc) u.tups u.frzs u.tbls (fun m' hm=>by
  obtain ⟨o',es',ep',ho',r'⟩:=hm
  rw [ho] at ho'; cases ho'
  exact ⟨_,es',ep',hL,r'⟩) hok hg
theorem Inv.turned {t':Nat} {it:Addr} (I:Inv X pins σ H s) (k:∀ b o,b≠it->s.heap.get? b=some o->h'.get? b=some o) (hn:H it=none) (hL:it≠X.env.locals)
  (h1:it∈X.ex\/X.s₀.heap.objs.size<=it) (h2:∀ x c,X.env.cells.lookup x=some c->c≠it) (h3:∀ p∈X.pn++pins,p.1≠it):Inv X pins σ H { s with heap:=h',toks:=t' }:=by
 have nit:∀ b u,H b=some u->b≠it:=fun b u e z=>by rw [z,hn] at e; cases e
 refine I.step (g':=s.gens) (d':=s.drawn) (ch:=[it]) (fun b hb=>?_) (fun b o _ _ hc e _=>k b o (fun z=>hc (by simp [z])) e) (fun b o _ _ hc e _=>⟨o.slots,k b o (fun z=>hc (by simp [z])) e⟩) (fun _ _ _ _ n=>n)
  (fun b o hc e=>⟨o,k b o (fun z=>hc (by simp [z])) e⟩) (fun _ _ e=>e) (fun _ _ _ e=>e) (fun b ps e=>⟨#[],by rw [e]; simp⟩) (fun m hm=>?_) (fun b u e=>?_) I.bare
 ·have e:b=it:=by simpa using hb
  subst e
  exact ⟨h1,hL,h2,h3⟩
 ·obtain ⟨o,es,ep,ho,r⟩:=hm
  exact ⟨o,es,ep,k _ o (Ne.symm hL) ho,r⟩
 ·refine (I.hok b u e).stay (fun c v hc q=>k c v ?_ q) (fun _ q=>q) fun _ _ q=>q
  rcases hc with z | z
  ·rw [z]; exact nit b u e
  ·exact nit c _ z
theorem Inv.tok (I:Inv X pins σ H s) (t:Nat):Inv X pins σ H { s with toks:=t }:=I.un (h':=s.heap) (t':=t) Un.refl I.hok
theorem Inv.kept {t':Nat} (I:Inv X pins σ H s) (k:∀ b u,s.heap.get? b=some u->h'.get? b=some u):Inv X pins σ H { s with heap:=h',toks:=t' }:=I.un (Un.kept k) (I.hok.kept k)
theorem Inv.laid {a:Addr} {o:HO} {t':Nat} (I:Inv X pins σ H s) (k:∀ b u,s.heap.get? b=some u->h'.get? b=some u) (hp:s.heap.objs.size<=a) (new:ObjOk X.prog X.w (upd H a o) h' a o) :
  Inv X pins σ (upd H a o) { s with heap:=h',toks:=t' }:=I.un (Un.laid k hp (I.hok.fresh hp)) (I.hok.laid k hp new)
theorem Inv.write {x e:Addr} {o:HO} {t':Nat} (I:Inv X pins σ H s) (mu:Mut (H x)) (he:e=x\/H e=some (.own x)) (k:∀ b u,b≠e->s.heap.get? b=some u->h'.get? b=some u) (heo:∃ u,h'.get? e=some u)
  (new:ObjOk X.prog X.w (upd H x o) h' x o):Inv X pins σ (upd H x o) { s with heap:=h',toks:=t' }:=I.un (Un.write mu he k heo) (I.hok.write mu he k heo new)
theorem Inv.weak {σ':List (Option V)} (I:Inv X pins σ H s) (hl:σ'.length=σ.length) (w:∀ (i:Nat) v,σ'[i]?=some (some v)->σ[i]?=some (some v)):Inv X pins σ' H s:=
 ⟨I.ok,I.os,I.bare,I.base,let ⟨m,hn,hl'⟩:=I.loc; ⟨m,hn,fun i x v e1 e2 e3=>hl' i x v e1 (w i v e2) e3⟩,I.cell,I.free,I.freeC,I.pin,I.hok,hl.trans I.len⟩
theorem Inv.pins_of {pins':List (Addr×Obj)} (I:Inv X pins σ H s) (h:∀ p∈pins',s.heap.get? p.1=some p.2/\H p.1=none/\p.1≠X.env.locals/\p.1∉X.fs/\∀ v,p.2.data≠.cell v):Inv X pins' σ H s:=
 ⟨I.ok,I.os,I.bare,I.base,I.loc,I.cell,I.free,I.freeC,fun p hp=>(List.mem_append.mp hp).elim (fun z=>I.pin p (List.mem_append_left _ z)) (h p),I.hok,I.len⟩
theorem nodup_ix {N:List Str} (hN:N.Nodup) {i j:Nat} {x:Str} (a:N[i]?=some x) (b:N[j]?=some x):i=j:=by
 obtain ⟨h1,e1⟩:=List.getElem?_eq_some_iff.mp a
 obtain ⟨h2,e2⟩:=List.getElem?_eq_some_iff.mp b
 exact (List.getElem_inj hN).mp (e1.trans e2.symm)
theorem store_ok2 {M:Model} {A:Around} {E:Value->Shared->Prop} {i:Nat} {x:Str} {v:V} {u:Value} {Q:Unit->Shared->Prop} (I:Inv X pins σ H s) (hN:X.N.Nodup) (hi:X.N[i]?=some x) (hx:Loc X.env.scope x) (r:RelV v u)
  (h:∀ s',Inv X pins (σ.set i (some v)) H s'->(∃ a,Heap.SameBut a s.heap s'.heap/\(a=X.env.locals\/X.env.cells.lookup x=some a))->Q () s') (hf:X.fn x=true\/X.env.scope.names.lookup x=some .local:=by first | exact .inl rfl | exact .inr rfl | assumption):wpAny M A (storeName X.env x u) Q E s:=by
 obtain ⟨m,hn,hl⟩:=id I.loc
 have hcls:(X.env.scope.kind == .class||(X.env.scope.kind == .module&&X.env.locals != X.env.globals))=false:=by rw [I.ok.kind]; rfl
 have hiσ:i<σ.length:=by rw [I.len]; exact (List.getElem?_eq_some_iff.mp hi).1
 have cne:=I.cne
 have tracked:∀ {a:Addr} {h':Heap},(∃ o,s.heap.get? a=some o/\H a=none)->Heap.SameBut a s.heap h'->HOk X.prog X.w H h':=fun {a h'} ha hs b ob e=>by
  obtain ⟨_,_,hfree⟩:=ha
  refine (I.hok b ob e).stay (fun c w' hc q=>(hs.2 c ?_).trans q) (fun _ q=>q) fun _ _ q=>q
  rintro rfl
  rcases hc with rfl | hc
  ·rw [hfree] at e; cases e
  ·rw [hfree] at hc; cases hc
 rcases hx with hk | hk
 ·refine wpAny_storeName_local hk hn (fun h' hn' hs=>?_) hcls
  obtain ⟨oL,_,_,hoL,_⟩:=id hn
  refine h _ ⟨I.ok,I.os,I.bare,⟨fun b o e n hb hx=>?_,fun b o e n hb hx=>?_,I.base.free,fun b o e hx=>?_,I.base.tups,I.base.frzs,I.base.tbls⟩,⟨_,hn',fun j y v' e1 e2 e3=>?_⟩,fun y c e=>?_,I.free,I.freeC,fun p hp=>?_,tracked ⟨oL,hoL,I.free⟩ hs,by simpa using I.len⟩ ⟨_,hs,.inl rfl⟩
  ·exact (hs.2 b (Nat.ne_of_lt (Nat.lt_of_lt_of_le (Heap.lt_size e) I.ok.above))).trans (I.base.keep b o e n hb hx)
  ·obtain ⟨sl,e1⟩:=I.base.slot b o e n hb hx
   exact ⟨sl,(hs.2 b (Nat.ne_of_lt (Nat.lt_of_lt_of_le (Heap.lt_size e) I.ok.above))).trans e1⟩
  ·obtain ⟨o',e1⟩:=I.base.there b o e hx
   exact ⟨o',(hs.2 b (Nat.ne_of_lt (Nat.lt_of_lt_of_le (Heap.lt_size e) I.ok.above))).trans e1⟩
  ·by_cases hj:j=i
   ·subst hj
    rw [hi] at e1; cases e1
    rw [List.getElem?_set_self hiσ] at e2
    cases e2
    exact ⟨u,r,.inl ⟨hk,by simp⟩⟩
   ·rw [List.getElem?_set_ne (Ne.symm hj)] at e2
    obtain ⟨u',r',q⟩:=hl j y v' e1 e2 e3
    refine ⟨u',r',?_⟩
    rcases q with ⟨k,e⟩ | ⟨k,c,e,z⟩
    ·refine .inl ⟨k,?_⟩
     have:y≠x:=fun e=>hj (nodup_ix hN e1 (e ▸ hi))
     simp [this,e]
    ·exact .inr ⟨k,c,e,z.sameBut hs (cne y c e)⟩
  ·obtain ⟨w',z⟩:=I.cell y c e
   exact ⟨w',z.sameBut hs (cne y c e)⟩
  ·obtain ⟨e,n,ne,nf,d⟩:=I.pin p hp
   exact ⟨(hs.2 p.1 ne).trans e,n,ne,nf,d⟩
 ·have hfn:X.fn x=true:=by
   rcases hf with z | z
   ·exact z
   ·rw [z] at hk; cases hk
  obtain ⟨c,hc⟩:=I.ok.has x (.inl hk)
  obtain ⟨w',z⟩:=I.cell x c hc
  refine wpAny_storeName_cell I.ok.kind hk hc z (fun h' hc' hs=>?_)
  obtain ⟨oc,hoc,hocd⟩:=id z
  refine h { s with heap:=h' } ⟨I.ok,I.os,I.bare,⟨fun b o e n hb hx=>?_,fun b o e n hb hx=>?_,I.base.free,fun b o e hx=>?_,I.base.tups,I.base.frzs,I.base.tbls⟩,⟨m,hn.sameBut hs (Ne.symm (cne x c hc)),fun j y v' e1 e2 e3=>?_⟩,fun y c' e=>?_,I.free,I.freeC,fun p hp=>?_,tracked ⟨oc,hoc,I.freeC x c hc⟩ hs,by simpa using I.len⟩ ⟨c,hs,.inr hc⟩
  ·exact (hs.2 b (Nat.ne_of_lt (Nat.lt_of_lt_of_le (Heap.lt_size e) (I.ok.cab x c hfn hc)))).trans (I.base.keep b o e n hb hx)
  ·obtain ⟨sl,e1⟩:=I.base.slot b o e n hb hx
   exact ⟨sl,(hs.2 b (Nat.ne_of_lt (Nat.lt_of_lt_of_le (Heap.lt_size e) (I.ok.cab x c hfn hc)))).trans e1⟩
  ·obtain ⟨o',e1⟩:=I.base.there b o e hx
   exact ⟨o',(hs.2 b (Nat.ne_of_lt (Nat.lt_of_lt_of_le (Heap.lt_size e) (I.ok.cab x c hfn hc)))).trans e1⟩
  ·by_cases hj:j=i
   ·subst hj
    rw [hi] at e1; cases e1
    rw [List.getElem?_set_self hiσ] at e2
    cases e2
    exact ⟨u,r,.inr ⟨.inl hk,c,hc,hc'⟩⟩
   ·rw [List.getElem?_set_ne (Ne.symm hj)] at e2
    obtain ⟨u',r',q⟩:=hl j y v' e1 e2 e3
    refine ⟨u',r',?_⟩
    rcases q with q | ⟨k,c',e,z'⟩
    ·exact .inl q
    ·refine .inr ⟨k,c',e,z'.sameBut hs ?_⟩
     rintro rfl
     exact hj (nodup_ix hN e1 (I.ok.inj _ _ _ e hc ▸ hi))
  ·by_cases hcc:c'=c
   ·subst hcc; exact ⟨_,hc'⟩
   ·obtain ⟨w2,z2⟩:=I.cell y c' e
    exact ⟨w2,z2.sameBut hs hcc⟩
  ·obtain ⟨e,n,ne,nf,d⟩:=I.pin p hp
   refine ⟨(hs.2 p.1 ?_).trans e,n,ne,nf,d⟩
   intro q
   rw [q,hoc] at e
   have q':oc=p.2:=Option.some.inj e
   exact d w' (by rw [<- q']; exact hocd)
theorem store_ok {M:Model} {A:Around} {E:Value->Shared->Prop} {i:Nat} {x:Str} {v:V} {u:Value} {Q:Unit->Shared->Prop} (I:Inv X pins σ H s) (hN:X.N.Nodup) (hi:X.N[i]?=some x) (hx:Loc X.env.scope x) (r:RelV v u)
  (h:∀ s',Inv X pins (σ.set i (some v)) H s'->Q () s') (hf:X.fn x=true\/X.env.scope.names.lookup x=some .local:=by first | exact .inl rfl | exact .inr rfl | assumption):wpAny M A (storeName X.env x u) Q E s:=
 store_ok2 I hN hi hx r (fun s' I' _=>h s' I') hf
theorem Inv.call' {s':Shared} {ch:List Addr} (I:Inv X pins σ H s) (ho:s'.os=s.os) (u:Un (frs X.stack) ch H H' s.heap s'.heap) (hok:HOk X.prog X.w H' s'.heap) (hg:AllBare s'.gens)
  (hch:∀ b∈ch,(b∈X.ex\/X.s₀.heap.objs.size<=b)/\b≠X.env.locals/\(∀ x c,X.env.cells.lookup x=some c->c≠b)/\∀ p∈X.pn++pins,p.1≠b):Inv X pins σ H' s':=by
 obtain ⟨h',g',d',t',o'⟩:=s'
 have e:o'=s.os:=ho
 subst e
 exact I.call (g':=g') (t':=t') (d':=d') u hok hg hch
end
abbrev XK:=Value->Option Addr->Hp->Prop
abbrev St:=List (Option V)
abbrev VK:=V->Hp->Prop
abbrev TE:=St->Hp->VK->Prop
abbrev TT:=St->Hp->(Bool->Hp->Prop)->Prop
abbrev TA:=St->Hp->(List V->Hp->Prop)->Prop
structure Ends where
 nx:St->Hp->Prop
 rt:VK
 bk:St->Hp->Prop:=fun _ _=>False
 ct:St->Hp->Prop:=fun _ _=>False
abbrev TS:=Ends->St->Hp->Prop
def EP (X:Cx) (pins:List (Addr×Obj)) (σ:St) (Q:VK) (u:Value) (s':Shared):Prop:=∃ v H',Inv X pins σ H' s'/\RelV v u/\Q v H'
def TP (X:Cx) (pins:List (Addr×Obj)) (σ:St) (Q:Bool->Hp->Prop) (b:Bool) (s':Shared):Prop:=∃ H',Inv X pins σ H' s'/\Q b H'
def AP (X:Cx) (pins:List (Addr×Obj)) (σ:St) (Q:List V->Hp->Prop) (us:List Value) (s':Shared):Prop:=∃ vs H',Inv X pins σ H' s'/\Vals vs us/\Q vs H'
def SP (X:Cx) (pins:List (Addr×Obj)) (D:Ends) (f:Flow) (s':Shared):Prop:=
 match f with
 | .next=>∃ σ' H',Inv X pins σ' H' s'/\D.nx σ' H'
 | .brk=>∃ σ' H',Inv X pins σ' H' s'/\D.bk σ' H'
 | .cont=>∃ σ' H',Inv X pins σ' H' s'/\D.ct σ' H'
 | .ret u=>∃ v σ' H',Inv X pins σ' H' s'/\RelV v u/\D.rt v H'
def PE (X:Cx) (e:Expr) (t:TE):Prop:=
 ∀ (pins:List (Addr×Obj)) (s:Shared) (σ:St) (H:Hp) (Q:VK),Inv X pins σ H s->t σ H Q->wpAny (model X.prog X.w) X.A (eval e X.env) (EP X pins σ Q) X.xe s
def PT (X:Cx) (e:Expr) (t:TT):Prop:=
 ∀ (pins:List (Addr×Obj)) (s:Shared) (σ:St) (H:Hp) (Q:Bool->Hp->Prop),Inv X pins σ H s->t σ H Q->wpAny (model X.prog X.w) X.A (isTrue e X.env (eval e X.env)) (TP X pins σ Q) X.xe s
def PW (X:Cx) (e:Expr) (t:TT):Prop:=
 ∀ (whole:Sem Value) (pins:List (Addr×Obj)) (s:Shared) (σ:St) (H:Hp) (Q:Bool->Hp->Prop),Inv X pins σ H s->t σ H Q->wpAny (model X.prog X.w) X.A (isTrue e X.env whole) (TP X pins σ Q) X.xe s
theorem PW.pt {X:Cx} {e:Expr} {t:TT} (h:PW X e t):PT X e t:=h _
def PA (X:Cx) (es:List Expr) (t:TA):Prop:=
 ∀ (pos:Pos) (pins:List (Addr×Obj)) (s:Shared) (σ:St) (H:Hp) (Q:List V->Hp->Prop),Inv X pins σ H s->t σ H Q->wpAny (model X.prog X.w) X.A (spliced (backTo pos (starEach es X.env))) (AP X pins σ Q) X.xe s
def PS (X:Cx) (st:Stmt) (t:TS):Prop:=
 ∀ (pins:List (Addr×Obj)) (s:Shared) (σ:St) (H:Hp) (D:Ends),Inv X pins σ H s->t D σ H->wpAny (model X.prog X.w) X.A (exec st X.env) (SP X pins D) X.xe s
def PSs (X:Cx) (st:List Stmt) (t:TS):Prop:=
 ∀ (pins:List (Addr×Obj)) (s:Shared) (σ:St) (H:Hp) (D:Ends),Inv X pins σ H s->t D σ H->wpAny (model X.prog X.w) X.A (execs st X.env) (SP X pins D) X.xe s
theorem thn {α:Type} {t:Sem α} {Q Q':α->Shared->Prop} {M:Model} {A:Around} {E:Value->Shared->Prop} {s:Shared} (h:wpAny M A t Q E s) (hQ:∀ a s,Q a s->Q' a s):wpAny M A t Q' E s:=wpAny_mono h hQ fun _ _ x=>x
end L2
namespace L2
open PySem PySem.Spec PyProof.Rows
section
variable {X:Cx}
def tVar (i:Nat):TE:=fun σ H Q=>∃ v,σ[i]?=some (some v)/\Q v H
def tC (v:V):TE:=fun _ H Q=>Q v H
theorem pe_var {i:Nat} {x:Str} {pos:Pos} (hN:X.N[i]?=some x) (hv:Vis X.env.scope x) (hd:(x == ("__debug__" : Str))=false:=by decide) (hcd:(x == ("__classdict__" : Str))=false:=by decide):PE X (.Name x pos) (tVar i):=by
 intro pins s σ H Q I h
 obtain ⟨v,e,h⟩:=h
 obtain ⟨m,hn,hl⟩:=I.loc
 obtain ⟨u,r,l⟩:=hl i x v hN e hv
 have fin:EP X pins σ Q u s:=⟨v,H,I,r,h⟩
 rcases l with ⟨hk,hm⟩ | ⟨hk,c,hc,hcell⟩
 ·exact wpAny_Name (wpAny_loadName_local I.ok.kind hk hn hm fin) hd
 ·rcases hk with hk | hk
  ·exact wpAny_Name (wpAny_loadName_cell I.ok.kind hk hc hcell fin) hd
  ·exact wpAny_Name (wpAny_loadName_free I.ok.kind hk hc hcell fin hcd) hd
theorem pe_int {i j pos}:PE X (.Constant (.int i) j pos) (tC (.int i)):=fun _ _ _ H _ I h=>wpAny_Constant_int ⟨.int i,H,I.tok _,⟨_,rfl⟩,h⟩
theorem pe_bl {b j pos}:PE X (.Constant (.bool b) j pos) (tC (.bl b)):=fun _ _ _ H _ I h=>Constant_bool ⟨.bl b,H,I,rfl,h⟩
theorem pe_non {j pos}:PE X (.Constant .none j pos) (tC .non):=fun _ _ _ H _ I h=>Constant_none ⟨.non,H,I,rfl,h⟩
def Gl (X:Cx) (x:Str):Prop:=X.env.kindOf x=some .globalImplicit
theorem ld_glob {E:Value->Shared->Prop} {pins:List (Addr×Obj)} {s:Shared} {σ:St} {H:Hp} {x:Str} {u:Value} {pos:Pos} {Q:Value->Shared->Prop} (I:Inv X pins σ H s) (hg:Gl X x) (hm:X.mg x=some u) (h:Q u s)
  (hd:(x == ("__debug__" : Str))=false:=by decide):wpAny (model X.prog X.w) X.A (eval (.Name x pos) X.env) Q E s:=
 Calls.Name_function_global I.ok.kind hg (Calls.loadGlobal_global (by rw [I.ok.glob]; exact I.mod.glob.keeps I.bk) hm h) hd
theorem ld_blt {E:Value->Shared->Prop} {pins:List (Addr×Obj)} {s:Shared} {σ:St} {H:Hp} {x:Str} {u:Value} {pos:Pos} {Q:Value->Shared->Prop} (I:Inv X pins σ H s) (hg:Gl X x) (hm:X.mg x=none) (hv:bootBuiltins x=some u) (h:Q u s)
  (hn:x ≠ "__name__" := by decide) (hd:(x == ("__debug__" : Str))=false:=by decide):wpAny (model X.prog X.w) X.A (eval (.Name x pos) X.env) Q E s:=by
 obtain ⟨mb,h1,h2⟩:=I.mod.blt
 exact Calls.Name_function_global I.ok.kind hg (Calls.loadGlobal_builtin (by rw [I.ok.glob]; exact I.mod.glob.keeps I.bk) hm (by rw [I.ok.blt]; exact h1.keeps I.bk) ((h2 x hn).trans hv) h) hd
theorem pe_bltn {x:Str} {v:V} {u:Value} {pos:Pos} (hg:Gl X x) (hm:X.mg x=none) (hv:bootBuiltins x=some u) (r:RelV v u) (hn:x ≠ "__name__" := by decide) (hd:(x == ("__debug__" : Str))=false:=by decide):PE X (.Name x pos) (tC v):=
 fun _ _ _ H _ I h=>ld_blt I hg hm hv ⟨v,H,I,r,h⟩ hn hd
variable {a b:Expr} {ta tb:TE} {pos:Pos}
def tB (t:TE):TT:=fun σ H Q=>t σ H fun x H1=>∃ c,x=.bl c/\Q c H1
theorem pt_val {e:Expr} {t:TE} (h:PE X e t) (he:∀ whole,isTrue e X.env whole=(do let v <- whole; standAt e.pos; holding [v] (truthy v)):=by intro _; rfl):PT X e (tB t):=by
 intro pins s σ H Q I hw
 refine isTrue_plain (thn (h pins s σ H _ I hw) fun v s1 zz2=>?_) (he _)
 obtain ⟨x,H1,I1,r1,q1⟩:=zz2
 obtain ⟨d,rfl,q⟩:=q1
 cases r1
 exact wpAny_truthy_bool ⟨H1,I1,q⟩
variable {tA tB':TT} {rest:List Expr}
def tOr (t u:TT):TT:=fun σ H Q=>t σ H fun c H1=>if c=true then Q true H1 else u σ H1 Q
def tNot (t:TT):TT:=fun σ H Q=>t σ H fun c H1=>Q (!c) H1
theorem pw_or1 (ha:PT X a tA):PW X (.BoolOp .Or [a] pos) tA:=by
 intro wh pins s σ H Q I h
 refine isTrue_or (thn (ha pins s σ H Q I h) fun c s1 e=>?_)
 cases c with
 | false=>exact isTrue_or_nil e
 | true=>exact e
theorem pw_or (ha:PT X a tA) (hb:PW X (.BoolOp .Or (b::rest) pos) tB'):PW X (.BoolOp .Or (a::b::rest) pos) (tOr tA tB'):=by
 intro wh pins s σ H Q I h
 refine isTrue_or (thn (ha pins s σ H _ I h) fun c s1 zz3=>?_)
 obtain ⟨H1,I1,q1⟩:=zz3
 cases c with
 | true=>exact ⟨H1,I1,q1⟩
 | false=>exact hb wh pins s1 σ H1 Q I1 q1
theorem pt_not (ha:PT X a tA):PT X (.UnaryOp .Not a pos) (tNot tA):=by
 intro pins s σ H Q I h
 exact isTrue_not (ha pins s σ H (fun c H1=>Q (!c) H1) I h)
def tIf (t:TT) (ta tb:TE):TE:=fun σ H Q=>t σ H fun c H1=>if c=true then ta σ H1 Q else tb σ H1 Q
theorem pe_ifExp {c:Expr} (hc:PT X c tA) (ha:PE X a ta) (hb:PE X b tb):PE X (.IfExp c a b pos) (tIf tA ta tb):=by
 intro pins s σ H Q I h
 refine wpAny_IfExp (thn (hc pins s σ H _ I h) fun d s1 zz4=>?_)
 obtain ⟨H1,I1,q1⟩:=zz4
 cases d with
 | true=>exact ha pins s1 σ H1 Q I1 q1
 | false=>exact hb pins s1 σ H1 Q I1 q1
end
end L2
namespace L2
open PySem PySem.Spec PyProof.Rows
def SqL (K:Frag) (H:Hp) (a:Addr) (xs:List V):Prop:=
 Rd H a (.lst xs) \/
  ∃ (o:Obj) (its:Array Value) (n:Nat),K.lookup a=some o/\o.cls=.type "list" /\ o.dict=none/\o.data=.seq its n/\its.size<=sizeLine/\Vals xs its.toList
def SqT (K:Frag) (H:Hp) (a:Addr) (xs:List V):Prop:=
 Rd H a (.tup xs) \/
  ∃ (o:Obj) (its:Array Value) (n:Nat),K.lookup a=some o/\o.cls=.type "tuple" /\ o.data=.seq its n/\its.size<=sizeLine/\Vals xs its.toList
def absV:Value->Option V
 | .none=>some .non
 | .bool b=>some (.bl b)
 | .int i _=>some (.int i)
 | .str x _=>some (.str x)
 | .bytes b _=>some (.byt b)
 | .float b _=>some (.flt b)
 | .ref a=>some (.ref a)
 | .type n=>some (.ty n)
 | _=>none
theorem RelV.abs {x:V} {u:Value} (r:RelV x u):absV u=some x:=by
 cases x with
 | non=>cases r; rfl
 | bl _=>cases r; rfl
 | int _=>obtain ⟨t,rfl⟩:=r; rfl
 | str _=>obtain ⟨t,rfl⟩:=r; rfl
 | byt _=>obtain ⟨t,rfl⟩:=r; rfl
 | flt _=>obtain ⟨t,rfl⟩:=r; rfl
 | ref _=>cases r; rfl
 | ty _=>cases r; rfl
theorem RelV.inj {x y:V} {u:Value} (r:RelV x u) (q:RelV y u):x=y:=Option.some.inj (r.abs.symm.trans q.abs)
theorem Vals.inj:∀ {xs ys:List V} {us:List Value},Vals xs us->Vals ys us->xs=ys:=by
 intro xs ys us a
 induction a generalizing ys with
 | nil=>intro b; cases b; rfl
 | cons r t ih=>
  intro b
  cases b with
  | cons r' t'=>rw [r.inj r',ih t']
section
variable {X:Cx} {pins:List (Addr×Obj)} {σ:St} {H:Hp} {s:Shared} {a:Addr} {xs ys:List V}
theorem SqL.of {K:Frag} (h:H a=some (.lst xs)):SqL K H a xs:=.inl (.inl h)
theorem SqT.of {K:Frag} (h:H a=some (.tup xs)):SqT K H a xs:=.inl (.inl h)
theorem Inv.list (I:Inv X pins σ H s) (h:SqL X.K H a xs):∃ its:List Value,Vals xs its/\PlainL s.heap a its.toArray/\xs.length<=sizeLine:=by
 rcases h with h | ⟨o,its,n,hk,hc,hd,hs,hz,r⟩
 ·obtain ⟨z,its,n,r,e⟩:=h.ok I.hok
  exact ⟨its,r,⟨_,n,e,rfl,rfl,rfl⟩,z⟩
 ·refine ⟨its.toList,r,⟨o,n,I.kIn a o hk,hc,hd,by simpa using hs⟩,?_⟩
  have e:=r.length
  simp only [Array.length_toList] at e
  omega
theorem Inv.tuple (I:Inv X pins σ H s) (h:SqT X.K H a xs):∃ its:List Value,Vals xs its/\IsTup s.heap a its.toArray/\xs.length<=sizeLine:=by
 rcases h with h | ⟨o,its,n,hk,hc,hs,hz,r⟩
 ·obtain ⟨z,its,r,p⟩:=h.ok I.hok
  exact ⟨its,r,p,z⟩
 ·refine ⟨its.toList,r,⟨o,I.kIn a o hk,hc,n,by simpa using hs⟩,?_⟩
  have e:=r.length
  simp only [Array.length_toList] at e
  omega
theorem Inv.list_inj (I:Inv X pins σ H s) (h:SqL X.K H a xs) (h':SqL X.K H a ys):xs=ys:=by
 obtain ⟨its,r,⟨o,n,e,_,_,d⟩,_⟩:=I.list h
 obtain ⟨its',r',⟨o',n',e',_,_,d'⟩,_⟩:=I.list h'
 rw [e] at e'; cases e'
 rw [d] at d'
 injection d' with d1 _
 have:its=its':=by simpa using congrArg Array.toList d1
 subst this
 exact r.inj r'
theorem Inv.tuple_inj (I:Inv X pins σ H s) (h:SqT X.K H a xs) (h':SqT X.K H a ys):xs=ys:=by
 obtain ⟨its,r,⟨o,e,_,n,d⟩,_⟩:=I.tuple h
 obtain ⟨its',r',⟨o',e',_,n',d'⟩,_⟩:=I.tuple h'
 rw [e] at e'; cases e'
 rw [d] at d'
 injection d' with d1 _
 have:its=its':=by simpa using congrArg Array.toList d1
 subst this
 exact r.inj r'
end
abbrev Cx.wish (X:Cx) (E:Value->Shared->Prop):Cx:={ X with xe:=E }
abbrev Cx.nox (X:Cx):Cx:=X.wish fun _ _=>False
theorem Cx.Ok.wish {X:Cx} (ok:X.Ok) (E:Value->Shared->Prop):(X.wish E).Ok:=
 ⟨ok.mod,ok.kind,ok.glob,ok.blt,ok.above,ok.inj,ok.has,ok.cab,ok.hd,ok.frames,ok.stk,ok.exf,ok.bs,ok.bsz,ok.noex,ok.exfs,ok.funs,ok.frf⟩
theorem Cx.Ok.unwish {X:Cx} {E:Value->Shared->Prop} (ok:(X.wish E).Ok):X.Ok:=
 ⟨ok.mod,ok.kind,ok.glob,ok.blt,ok.above,ok.inj,ok.has,ok.cab,ok.hd,ok.frames,ok.stk,ok.exf,ok.bs,ok.bsz,ok.noex,ok.exfs,ok.funs,ok.frf⟩
section
variable {X:Cx} {pins:List (Addr×Obj)} {σ:St} {H:Hp} {s:Shared} {E:Value->Shared->Prop}
theorem Inv.wish (I:Inv X pins σ H s) (E:Value->Shared->Prop):Inv (X.wish E) pins σ H s:=⟨I.ok.wish E,I.os,I.bare,I.base,I.loc,I.cell,I.free,I.freeC,I.pin,I.hok,I.len⟩
theorem Inv.unwish (I:Inv (X.wish E) pins σ H s):Inv X pins σ H s:=⟨I.ok.unwish,I.os,I.bare,I.base,I.loc,I.cell,I.free,I.freeC,I.pin,I.hok,I.len⟩
theorem SP.unwish {D:Ends} {f:Flow} {s':Shared} (h:SP (X.wish E) pins D f s'):SP X pins D f s':=by
 cases f with
 | next=>obtain ⟨σ',H',I,q⟩:=h; exact ⟨σ',H',I.unwish,q⟩
 | brk=>obtain ⟨σ',H',I,q⟩:=h; exact ⟨σ',H',I.unwish,q⟩
 | cont=>obtain ⟨σ',H',I,q⟩:=h; exact ⟨σ',H',I.unwish,q⟩
 | ret u=>obtain ⟨v,σ',H',I,r,q⟩:=h; exact ⟨v,σ',H',I.unwish,r,q⟩
theorem PSs.nox {st:List Stmt} {t:TS} (h:PSs X.nox st t):PSs X st t:=fun pins s σ H D I hw=>
 wpAny_mono (h pins s σ H D (I.wish _) hw) (fun _ _ q=>q.unwish) fun _ _ z=>False.elim z
end
section
variable {X:Cx} {st:Stmt} {rest:List Stmt} {t u:TS} {e:Expr} {te:TE} {pos:Pos}
def tNext:TS:=fun D σ H=>D.nx σ H
def tSeq (t u:TS):TS:=fun D σ H=>t { D with nx:=u D } σ H
theorem pss_nil:PSs X [] tNext:=fun _ _ σ H _ I h=>wpAny_execs_nil ⟨σ,H,I,h⟩
theorem pss_cons (h1:PS X st t) (h2:PSs X rest u):PSs X (st::rest) (tSeq t u):=by
 intro pins s σ H D I h
 refine wpAny_execs_cons (thn (h1 pins s σ H { D with nx:=u D } I h) fun f s1 q=>?_)
 cases f with
 | next=>
  obtain ⟨σ',H',I',q⟩:=q
  exact h2 pins s1 σ' H' D I' q
 | ret v=>exact q
 | brk=>exact q
 | cont=>exact q
theorem pss_one (h1:PS X st t):PSs X [st] t:=by
 intro pins s σ H D I h
 refine wpAny_execs_cons (thn (h1 pins s σ H D I h) fun f s1 q=>?_)
 cases f with
 | next=>exact wpAny_execs_nil q
 | ret v=>exact q
 | brk=>exact q
 | cont=>exact q
theorem Inv.quiet {pins:List (Addr×Obj)} {σ:St} {H:Hp} {s:Shared} (I:Inv X pins σ H s):interactive X.env=false:=by simp [interactive,I.ok.kind]
def tDrop (te:TE):TS:=fun D σ H=>te σ H fun _ H1=>D.nx σ H1
theorem ps_expr (he:PE X e te) (hs:swapsWith e none pos.line X.env=pure false:=by rfl):PS X (.Expr e pos) (tDrop te):=by
 intro pins s σ H D I h
 exact wpAny_Expr_any (thn (he pins s σ H _ I h) fun v s1 zz5=>by obtain ⟨x,H1,I1,r1,q1⟩:=zz5; exact ⟨σ,H1,I1,q1⟩) I.quiet hs
def tRet (te:TE):TS:=fun D σ H=>te σ H D.rt
theorem ps_ret (he:PE X e te):PS X (.Return (some e) pos) (tRet te):=by
 intro pins s σ H D I h
 exact wpAny_Return_some (thn (he pins s σ H _ I h) fun v s1 zz6=>by obtain ⟨x,H1,I1,r1,q1⟩:=zz6; exact ⟨x,σ,H1,I1,r1,q1⟩)
def tIfS (c:TT) (t u:TS):TS:=fun D σ H=>c σ H fun b H1=>if b=true then t D σ H1 else u D σ H1
theorem ps_if {c:Expr} {a b:List Stmt} {tc:TT} (hc:PT X c tc) (ha:PSs X a t) (hb:PSs X b u):PS X (.If c a b pos) (tIfS tc t u):=by
 intro pins s σ H D I h
 refine wpAny_If (thn (hc pins s σ H _ I h) fun d s1 zz7=>?_)
 obtain ⟨H1,I1,q1⟩:=zz7
 cases d with
 | true=>exact ha pins s1 σ H1 D I1 q1
 | false=>exact hb pins s1 σ H1 D I1 q1
end
abbrev TG:=V->St->Hp->(St->Hp->Prop)->Prop
abbrev TGs:=List V->St->Hp->(St->Hp->Prop)->Prop
def PG (X:Cx) (target:Expr) (t:TG):Prop:=
 ∀ (pins:List (Addr×Obj)) (s:Shared) (σ:St) (H:Hp) (v:V) (u:Value) (Q:St->Hp->Prop),Inv X pins σ H s->RelV v u->t v σ H Q ->
  wpAny (model X.prog X.w) X.A (assign target X.env u) (fun _ s'=>∃ σ' H',Inv X pins σ' H' s'/\Q σ' H') X.xe s
def PGs (X:Cx) (ts:List Expr) (t:TGs):Prop:=
 ∀ (pins:List (Addr×Obj)) (s:Shared) (σ:St) (H:Hp) (vs:List V) (us:List Value) (Q:St->Hp->Prop),Inv X pins σ H s->Vals vs us->t vs σ H Q ->
  wpAny (model X.prog X.w) X.A (assignInOrder ((assignEach ts X.env).map (·.2)) us) (fun _ s'=>∃ σ' H',Inv X pins σ' H' s'/\Q σ' H') X.xe s
abbrev TSet:=V->V->V->Hp->(Hp->Prop)->Prop
def PSet (X:Cx) (t:TSet):Prop:=
 ∀ (pins:List (Addr×Obj)) (s:Shared) (σ:St) (H:Hp) (o i v:V) (ov iv u:Value) (Q:Hp->Prop),Inv X pins σ H s->RelV o ov->RelV i iv->RelV v u->t o i v H Q ->
  wpAny (model X.prog X.w) X.A (setItem ov iv u) (fun _ s'=>∃ H',Inv X pins σ H' s'/\Q H') X.xe s
abbrev TIp:=V->V->Hp->VK->Prop
def PIp (X:Cx) (op:Operator) (t:TIp):Prop:=
 ∀ (pins:List (Addr×Obj)) (s:Shared) (σ:St) (H:Hp) (x y:V) (v u:Value) (Q:VK),Inv X pins σ H s->RelV x v->RelV y u->t x y H Q ->
  wpAny (model X.prog X.w) X.A (inplaceOp op v u) (EP X pins σ Q) X.xe s
section
variable {X:Cx} {pos:Pos}
def gName (i:Nat):TG:=fun v σ H Q=>Q (σ.set i (some v)) H
theorem pg_name {i:Nat} {x:Str} (hN:X.N.Nodup) (hi:X.N[i]?=some x) (hx:Loc X.env.scope x) (hf:X.fn x=true\/X.env.scope.names.lookup x=some .local:=by first | exact .inl rfl | exact .inr rfl | assumption):PG X (.Name x pos) (gName i):=by
 intro pins s σ H v u Q I r h
 exact wpAny_assign_Name (store_ok I hN hi hx r (fun s' I'=>⟨_,H,I',h⟩) hf)
def gNil:TGs:=fun vs σ H Q=>vs = []/\Q σ H
def gCons (t:TG) (u:TGs):TGs:=fun vs σ H Q=>∃ v r,vs=v::r/\t v σ H fun σ' H'=>u r σ' H' Q
theorem pgs_nil:PGs X [] gNil:=by
 intro pins s σ H vs us Q I r h
 obtain ⟨e,h⟩:=h
 subst e
 cases r
 exact assignInOrder_nil ⟨σ,H,I,h⟩
theorem pgs_cons {e:Expr} {es:List Expr} {t:TG} {u:TGs} (h1:PG X e t) (h2:PGs X es u)
  (hs:(assignEach (e::es) X.env).map (·.2)=assign e X.env::(assignEach es X.env).map (·.2):=by rfl):PGs X (e::es) (gCons t u):=by
 intro pins s σ H vs us Q I r h
 obtain ⟨v,vr,e1,h⟩:=h
 subst e1
 cases r with
 | cons r rr=>
  rw [hs]
  refine assignInOrder_cons (thn (h1 pins s σ H _ _ _ I r h) fun _ s1 zz8=>?_)
  obtain ⟨σ1,H1,I1,q1⟩:=zz8
  exact h2 pins s1 σ1 H1 _ _ Q I1 rr q1
def gTup (K:Frag) (n:Nat) (t:TGs):TG:=fun v σ H Q=>∃ a xs,v=.ref a/\SqT K H a xs/\xs.length=n/\t xs σ H Q
theorem pg_tup {es:List Expr} {k:Nat} {t:TGs} {n:Nat} (hc:X.calm=true) (h:PGs X es t)
  (hn:(assignEach es X.env).length=n:=by rfl) (hst:(assignEach es X.env).findIdx? (·.1)=none:=by rfl):PG X (.Tuple es k pos) (gTup X.K n t):=by
 intro pins s σ H v u Q I r hw
 obtain ⟨a,xs,e1,hq,hl,hw⟩:=hw
 subst e1
 cases r
 obtain ⟨its,rv,ht,hz⟩:=I.tuple hq
 refine assign_Tuple_tuple (I.ok.hd hc) ht (by simp [hn,<- hl,rv.length]) hst fun h' hx=>?_
 have I1:Inv X pins σ H { s with heap:=h' }:=I.kept (t':=s.toks) fun b o e=>hx b o (Nat.ne_of_lt (Heap.lt_size e)) e
 exact h pins _ σ H xs _ Q I1 (by simpa using rv) hw
def gSub (to ti:TE) (t:TSet):TG:=fun v σ H Q=>to σ H fun o H1=>ti σ H1 fun i H2=>t o i v H2 fun H3=>Q σ H3
theorem pg_sub {o i:Expr} {to ti:TE} {t:TSet} (ho:PE X o to) (hi:PE X i ti) (hs:PSet X t)
  (ha:∀ v,assign (.Subscript o i pos) X.env v=(do
   let ov <- holding [v] (eval o X.env)
   let iv <- holding [v,ov] (eval i X.env)
   standAt pos
   holding [v,ov,iv] (setItem ov iv v)
   release [v,ov,iv] []):=by intro _; rfl):PG X (.Subscript o i pos) (gSub to ti t):=by
 intro pins s σ H v u Q I r h
 rw [ha]
 refine wpAny_bind (wpAny_holding (thn (ho pins s σ H _ I h) fun ov s1 zz9=>?_))
 obtain ⟨x,H1,I1,r1,q1⟩:=zz9
 refine wpAny_bind (wpAny_holding (thn (hi pins s1 σ H1 _ I1 q1) fun iv s2 zz10=>?_))
 obtain ⟨y,H2,I2,r2,q2⟩:=zz10
 refine wpAny_bind (wpAny_standAt (wpAny_bind (wpAny_holding (thn (hs pins s2 σ H2 x y v ov iv u _ I2 r1 r2 r q2) fun _ s3 zz11=>?_))))
 obtain ⟨H3,I3,q3⟩:=zz11
 exact wpAny_release ⟨σ,H3,I3,q3⟩
def tAsg (te:TE) (g:TG):TS:=fun D σ H=>te σ H fun x H1=>g x σ H1 D.nx
theorem ps_asg {tg e:Expr} {te:TE} {g:TG} (he:PE X e te) (hg:PG X tg g) (hs:swapsWithSole [tg] e pos.line X.env=pure false:=by rfl) (hw:swappedStores [tg] e X.env=pure none:=by rfl)
  (h1:(assignEach [tg] X.env).map (·.2) = [assign tg X.env]:=by rfl):PS X (.Assign [tg] e pos) (tAsg te g):=by
 intro pins s σ H D I h
 refine wpAny_Assign_stores (thn (he pins s σ H _ I h) fun v s1 zz12=>?_) hs hw
 obtain ⟨x,H1,I1,r1,q1⟩:=zz12
 rw [h1]
 exact thn (hg pins s1 σ H1 x v _ I1 r1 q1) fun _ s2 q=>q
theorem ps_set {i:Nat} {x:Str} {e:Expr} {te:TE} {pos':Pos} (hN:X.N.Nodup) (hi:X.N[i]?=some x) (hx:Loc X.env.scope x) (he:PE X e te) (hs:swapsWith e (some (.Name x pos')) pos.line X.env=pure false:=by rfl) (hf:X.fn x=true\/X.env.scope.names.lookup x=some .local:=by first | exact .inl rfl | exact .inr rfl | assumption) :
  PS X (.Assign [.Name x pos'] e pos) (tAsg te (gName i)):=by
 intro pins s σ H D I h
 refine wpAny_Assign_Name (thn (he pins s σ H _ I h) fun v s1 zz13=>?_) hs
 obtain ⟨y,H1,I1,r1,q1⟩:=zz13
 exact store_ok I1 hN hi hx r1 (fun s2 I2=>⟨_,H1,I2,q1⟩) hf
def tPar (i j:Nat) (ta:TA):TS:=fun D σ H=>ta σ H fun vs H1=>∃ v w,vs = [v,w]/\D.nx ((σ.set i (some v)).set j (some w)) H1
theorem ps_par {i j:Nat} {x y:Str} {a b:Expr} {ta:TA} {px py pt:Pos} {kt k2 pt2} (hc:X.calm=true) (hN:X.N.Nodup) (hi:X.N[i]?=some x) (hj:X.N[j]?=some y) (hij:i≠j)
  (hx:X.env.scope.names.lookup x=some .local) (hy:X.env.scope.names.lookup y=some .local) (ha:PA X [a,b] ta)
  (hw:swappedStores [.Tuple [.Name x px,.Name y py] kt pt] (.Tuple [a,b] k2 pt2) X.env=pure (some [x,y]))
  (hs:swapsWithSole [.Tuple [.Name x px,.Name y py] kt pt] (.Tuple [a,b] k2 pt2) pos.line X.env=pure false:=by rfl) :
  PS X (.Assign [.Tuple [.Name x px,.Name y py] kt pt] (.Tuple [a,b] k2 pt2) pos) (tPar i j ta):=by
 intro pins s σ H D I h
 rw [exec_Assign_arm]
 refine wpAny_bind (wpAny_standAt ?_)
 rw [hs]
 refine wpAny_bind (wpAny_pure ?_)
 rw [if_neg (by decide)]
 refine wpAny_bind (Tuple_ (thn (ha _ pins s σ H _ I h) fun us s1 zz14=>?_))
 obtain ⟨vs,H1,I1,r1,q1⟩:=zz14
 obtain ⟨v,w,e1,q1⟩:=q1
 subst e1
 obtain ⟨u1,u2,rfl,rv,rw'⟩:∃ u1 u2,us = [u1,u2]/\RelV v u1/\RelV w u2:=by
  cases r1 with
  | cons p q=>
   cases q with
   | cons p' q'=>
    cases q'
    exact ⟨_,_,rfl,p,p'⟩
 refine wpAny_newObj_type ?_ (by show 2<=sizeLine; decide)
 have I2:Inv X pins σ H1 { s1 with heap:=s1.heap.push { cls:=.type "tuple",data:=.seq [u1,u2].toArray } }:=I1.kept (t':=s1.toks) fun b o e=>Heap.get?_push_of_some _ e
 rw [hw]
 refine wpAny_bind (wpAny_pure ?_)
 show wpAny (model X.prog X.w) X.A (do rule "assign.swapped-stores"; let items <- unpackItems (.ref s1.heap.objs.size) 2 none; assignInOrder [fun v=>bindName X.env y v,fun v=>bindName X.env x v] items.reverse; pure Flow.next) _ _ _
 refine wpAny_bind (wpAny_rule (wpAny_bind (unpackItems_tuple (items:=#[u1,u2]) (I.ok.hd hc) (IsTup.new s1.heap _) fun h' hx'=>?_)))
 have I3:=I2.kept (h':=h') (t':=s1.toks) fun b o e=>hx' b o (Nat.ne_of_lt (Heap.lt_size e)) e
 show wpAny _ _ (assignInOrder [fun v=>bindName X.env y v,fun v=>bindName X.env x v] [u2,u1]>>=fun _=>pure Flow.next) _ _ _
 refine wpAny_bind (assignInOrder_cons (wpAny_bindName (store_ok I3 hN hj (.inl hy) rw' (fun s2 I4=>?_) (.inr hy))))
 refine assignInOrder_cons (wpAny_bindName (store_ok I4 hN hi (.inl hx) rv (fun s3 I5=>assignInOrder_nil (wpAny_pure ?_)) (.inr hx)))
 rw [List.set_comm _ _ (Ne.symm hij)] at I5
 exact ⟨_,H1,I5,q1⟩
def tAug (i:Nat) (te:TE) (ti:TIp):TS:=fun D σ H=>∃ x,σ[i]?=some (some x)/\te σ H fun y H1=>ti x y H1 fun z H2=>D.nx (σ.set i (some z)) H2
theorem ps_aug {i:Nat} {x:Str} {e:Expr} {te:TE} {op:Operator} {ti:TIp} {pos':Pos} (hN:X.N.Nodup) (hi:X.N[i]?=some x) (hx:Loc X.env.scope x) (he:PE X e te) (ho:PIp X op ti) (hf:X.fn x=true\/X.env.scope.names.lookup x=some .local:=by first | exact .inl rfl | exact .inr rfl | assumption) :
  PS X (.AugAssign (.Name x pos') op e pos) (tAug i te ti):=by
 intro pins s σ H D I h
 obtain ⟨v,e1,h⟩:=h
 obtain ⟨m,hn,hl⟩:=I.loc
 have vis:Vis X.env.scope x:=by rcases hx with k | k; exact .inl k; exact .inr (.inl k)
 obtain ⟨u,r,l⟩:=hl i x v hi e1 vis
 refine wpAny_AugAssign_Name ?_
 have go:wpAny (model X.prog X.w) X.A (eval e X.env) (fun w s₂=>wpAny (model X.prog X.w) X.A (inplaceOp op u w) (fun r s₃=>wpAny (model X.prog X.w) X.A (storeName X.env x r) (fun _=>SP X pins D .next) X.xe s₃) X.xe s₂) X.xe s:=by
  refine thn (he pins s σ H _ I h) fun w s1 zz15=>?_
  obtain ⟨y,H1,I1,r1,q1⟩:=zz15
  refine thn (ho pins s1 σ H1 v y u w _ I1 r r1 q1) fun z s2 zz16=>?_
  obtain ⟨zv,H2,I2,r2,q2⟩:=zz16
  exact store_ok I2 hN hi hx r2 (fun s3 I3=>⟨_,H2,I3,q2⟩) hf
 rcases l with ⟨hk,hm⟩ | ⟨hk,c,hc,hcell⟩
 ·exact wpAny_loadName_local I.ok.kind hk hn hm go
 ·rcases hk with hk | hk
  ·exact wpAny_loadName_cell I.ok.kind hk hc hcell go
  ·rcases hx with k | k
   ·have:X.env.scope.names.lookup x=some .free:=hk
    rw [k] at this; cases this
   ·have:X.env.scope.names.lookup x=some .free:=hk
    rw [k] at this; cases this
def ipI (f:Int->Int->Int):TIp:=fun x y H Q=>∃ i j,x=.int i/\y=.int j/\Q (.int (f i j)) H
theorem ip_add:PIp X .Add (ipI fun i j=>i+j):=by
 intro pins s σ H x y v u Q I r1 r2 h
 obtain ⟨i,j,e1,e2,q⟩:=h
 subst e1; subst e2
 obtain ⟨t,rfl⟩:=r1
 obtain ⟨t',rfl⟩:=r2
 exact iadd_int ⟨.int _,H,I.tok _,⟨_,rfl⟩,q⟩
end
section
variable {X:Cx} {pos:Pos}
def tWhile (c:TT) (tb:TS):TS:=fun D σ H=>∃ W:Nat->St->Hp->Prop,(∃ m,W m σ H)/\∀ m σ H,W m σ H ->
 c σ H fun b H1=>if b=true then ∃ N:St->Hp->Prop,(∀ σ' H',N σ' H'->∃ m',m'<m/\W m' σ' H')/\tb { D with nx:=N,ct:=N,bk:=D.nx } σ H1 else D.nx σ H1
theorem ps_while {c:Expr} {body:List Stmt} {tc:TT} {tb:TS} (hp:PassesOwn (model X.prog X.w) X.A X.env X.xe) (hc:PT X c tc) (hb:PSs X body tb):PS X (.While c body [] pos) (tWhile tc tb):=by
 intro pins s σ H D I h
 obtain ⟨W,⟨m0,w0⟩,turn⟩:=h
 refine wpAny_While (codeAny_whileLoop (fun n s'=>∃ σ' H',Inv X pins σ' H' s'/\W n σ' H') ?_ m0 ⟨σ,H,I,w0⟩)
 rintro n s1 ⟨σ1,H1,I1,w1⟩
 refine wpAny_passesOwn hp (thn (hc pins s1 σ1 H1 _ I1 (turn n σ1 H1 w1)) fun b s2 zz17=>?_)
 obtain ⟨H2,I2,q2⟩:=zz17
 cases b with
 | true=>
  obtain ⟨N,hN,q2⟩:=q2
  rw [if_pos rfl]
  refine wpAny_passesOwn hp (thn (hb pins s2 σ1 H2 _ I2 q2) fun f s3 q3=>?_)
  cases f with
  | next=>
   obtain ⟨σ3,H3,I3,n3⟩:=q3
   obtain ⟨m',hm,w3⟩:=hN σ3 H3 n3
   exact ⟨m',hm,σ3,H3,I3,w3⟩
  | cont=>
   obtain ⟨σ3,H3,I3,n3⟩:=q3
   obtain ⟨m',hm,w3⟩:=hN σ3 H3 n3
   exact ⟨m',hm,σ3,H3,I3,w3⟩
  | brk=>exact q3
  | ret v=>exact q3
 | false=>
  rw [if_neg Bool.false_ne_true]
  exact wpAny_execs_nil ⟨σ1,H2,I2,q2⟩
end
structure It where
 go:Nat->Hp->Prop
 yld:Nat->Hp->V->Hp->Prop
 stop:Nat->Hp->Prop
def FpOk (X:Cx) (pins:List (Addr×Obj)) (H:Hp) (b:Addr):Prop:=
 H b=none/\b≠X.env.locals/\b∉X.fs/\(b∈X.ex\/X.s₀.heap.objs.size<=b)/\(∀ x c,X.env.cells.lookup x=some c->c≠b)/\∀ p∈X.pn++pins,p.1≠b
theorem Inv.fpOk {X:Cx} {pins:List (Addr×Obj)} {σ:St} {H H':Hp} {s:Shared} {b:Addr} (I:Inv X pins σ H s) (hb:s.heap.objs.size<=b) (hn:H' b=none):FpOk X pins H' b:=by
 refine ⟨hn,Nat.ne_of_gt (Nat.lt_of_lt_of_le I.lt hb),I.nofs hb,.inr (Nat.le_trans I.sz hb),fun x c e z=>?_,fun p hp z=>?_⟩
 ·obtain ⟨v,q⟩:=I.cell x c e
  exact absurd (Nat.lt_of_lt_of_le q.lt (by rw [z]; exact hb)) (Nat.lt_irrefl _)
 ·exact absurd (Nat.lt_of_lt_of_le (Heap.lt_size (I.pin p hp).1) (by rw [z]; exact hb)) (Nat.lt_irrefl _)
structure Turn (P:Program) (w:World) (K:Frag) (tg:Expr) (J:It) (fp:List Addr) (it:Addr) (tn:Nat->Heap->Prop):Prop where
 mem:it∈fp
 obj:∀ i h,tn i h->∀ b∈fp,∃ o,h.get? b=some o/\∀ v,o.data≠.cell v
 keep:∀ i h h',tn i h->(∀ b∈fp,∀ o,h.get? b=some o->h'.get? b=some o)->tn i h'
 item:∀ (X:Cx),X.prog=P->X.w=w->X.K=K->X.calm=true->∀ (i:Nat) (pins:List (Addr×Obj)) (s:Shared) (σ:St) (H:Hp) (E:Value->Shared->Prop),Inv X pins σ H s->(∀ b∈fp,FpOk X pins H b)->tn i s.heap->J.go i H ->
  wpAny (model P w) X.A (pyNext (.ref it)) (fun r s1=>∃ u,r=some u /\
   wpAny (model P w) X.A (letOwnedTupleGo tg (.ref it) u) (fun _ s2=>∃ x H',Inv X pins σ H' s2/\RelV x u/\J.yld i H x H'/\tn (i+1) s2.heap/\∀ b∈fp,H' b=none) E s1) E s
 done:∀ (X:Cx),X.prog=P->X.w=w->X.K=K->X.calm=true->∀ (i:Nat) (pins:List (Addr×Obj)) (s:Shared) (σ:St) (H:Hp) (E:Value->Shared->Prop),Inv X pins σ H s->(∀ b∈fp,FpOk X pins H b)->tn i s.heap->J.stop i H ->
  wpAny (model P w) X.A (pyNext (.ref it)) (fun r s1=>r=none/\Inv X pins σ H s1) E s
 self:∀ (A:Around) (i:Nat) (s:Shared) (Q:Value->Shared->Prop) (E:Value->Shared->Prop),tn i s.heap->Q (.ref it) s->wpAny (model P w) A (pyIter (.ref it)) Q E s
abbrev TI:=St->Hp->(It->Hp->Prop)->Prop
def PIE (X:Cx) (pins:List (Addr×Obj)) (σ:St) (tg:Expr) (R:It->Hp->Prop) (itv:Value) (s2:Shared):Prop:=
 ∃ (it:Addr) (fp:List Addr) (tn:Nat->Heap->Prop) (J:It) (H':Hp),itv=.ref it/\Inv X pins σ H' s2/\Turn X.prog X.w X.K tg J fp it tn/\tn 0 s2.heap/\(∀ b∈fp,FpOk X pins H' b)/\R J H'
def PI (X:Cx) (tg iter:Expr) (wi:TI):Prop:=
 ∀ (pins:List (Addr×Obj)) (s:Shared) (σ:St) (H:Hp) (R:It->Hp->Prop),Inv X pins σ H s->wi σ H R ->
  wpAny (model X.prog X.w) X.A (eval iter X.env) (fun v s1=>wpAny (model X.prog X.w) X.A (pyIter v) (PIE X pins σ tg R) X.xe s1) X.xe s
theorem go_of {M:Model} {A:Around} {E:Value->Shared->Prop} {s:Shared} {tg:Expr} {it:Addr} {u:Value} {o:Obj} {n:String} {vs:Array Value} {Q:Unit->Shared->Prop} (ho:s.heap.get? it=some o) (hc:o.cls=.type n) (hd:o.data=.fields vs)
    (hn:["enumerate", "zip", "dict_itemiterator", "dict_reverseitemiterator", "odict_iterator", "itertools.zip_longest", "itertools.pairwise"].contains n=false) (hQ:Q () s):wpAny M A (letOwnedTupleGo tg (.ref it) u) Q E s:=by
  unfold letOwnedTupleGo
  cases tg <;> first
    | exact wpAny_pure hQ
    | (cases u <;> first
        | exact wpAny_pure hQ
        | (refine wpAny_bind (wpAny_load ho ?_)
           rw [hc,hd]
           show wpAny M A (if (["enumerate", "zip", "dict_itemiterator", "dict_reverseitemiterator", "odict_iterator", "itertools.zip_longest", "itertools.pairwise"].contains n&&vs[0]? == some (rawInt _))=true then _ else _) Q E s
           rw [if_neg (by intro h; rw [hn,Bool.false_and] at h; cases h)]
           exact wpAny_pure hQ))
def Itl (K:Frag) (a:Addr):It:=
 ⟨fun i H=>∃ xs x,SqL K H a xs/\xs[i]?=some x,fun i H x H'=>H'=H/\∀ xs,SqL K H a xs->xs[i]?=some x,fun i H=>∃ xs,SqL K H a xs/\xs.length<=i⟩
def Itt (K:Frag) (a:Addr):It:=
 ⟨fun i H=>∃ xs x,SqT K H a xs/\xs[i]?=some x,fun i H x H'=>H'=H/\∀ xs,SqT K H a xs->xs[i]?=some x,fun i H=>∃ xs,SqT K H a xs/\xs.length<=i⟩
def Itr (lo:Int) (n:Nat):It:=⟨fun i _=>i<n,fun i H x H'=>H'=H/\x=.int (lo+i),fun i _=>n<=i⟩
theorem turn_list {P:Program} {w:World} {K:Frag} {tg:Expr} (a it:Addr):Turn P w K tg (Itl K a) [it] it (fun i h=>h.IsListIter it a i) where
 mem:=by simp
 obj:=fun i h st b hb=>by
  have e:b=it:=by simpa using hb
  subst e
  obtain ⟨o,e,c,d⟩:=st
  exact ⟨o,e,fun v z=>by rw [d] at z; cases z⟩
 keep:=fun i h h' st k=>st.at fun o e=>k it (by simp) o e
 item:=by
  intro X hP hw hK hc i pins s σ H E I hf st hg
  subst hP hw hK
  obtain ⟨xs,x,hq,hx⟩:=hg
  obtain ⟨its,rv,p,hz⟩:=I.list hq
  obtain ⟨u,hu,ru⟩:=rv.get hx
  obtain ⟨f0,f1,f2,f3,f4,f5⟩:=hf it (by simp)
  refine wpAny_pyNext_list_item st p.isList (x:=u) (by simpa using hu) fun h' st' sb=>?_
  have I1:Inv X pins σ H { s with heap:=h' }:=I.turned (t':=s.toks) (fun b o hb e=>(sb.2 b hb).trans e) f0 f1 f3 f4 f5
  obtain ⟨o,e,c,d⟩:=id st'
  exact ⟨u,rfl,go_of (s:={ s with heap:=h' }) e c d (by decide) ⟨x,H,I1,ru,⟨rfl,fun ys hy=>by rw [I.list_inj hy hq]; exact hx⟩,st',fun b hb=>(hf b hb).1⟩⟩
 done:=by
  intro X hP hw hK hc i pins s σ H E I hf st hg
  subst hP hw hK
  obtain ⟨xs,hq,hx⟩:=hg
  obtain ⟨its,rv,p,hz⟩:=I.list hq
  obtain ⟨f0,f1,f2,f3,f4,f5⟩:=hf it (by simp)
  have hl:=rv.length
  exact wpAny_pyNext_list_end (I.ok.hd hc) st p.isList (by simp; omega) fun h' eb=>⟨rfl,I.turned (t':=s.toks) (fun b o hb e=>eb b o hb e) f0 f1 f3 f4 f5⟩
 self:=fun _ _ _ _ _ st h=>wpAny_pyIter_listiter st h
theorem turn_tuple {P:Program} {w:World} {K:Frag} {tg:Expr} (a it:Addr):Turn P w K tg (Itt K a) [it] it (fun i h=>h.IsTupleIter it a i) where
 mem:=by simp
 obj:=fun i h st b hb=>by
  have e:b=it:=by simpa using hb
  subst e
  obtain ⟨o,e,c,d⟩:=st
  exact ⟨o,e,fun v z=>by rw [d] at z; cases z⟩
 keep:=fun i h h' st k=>st.at fun o e=>k it (by simp) o e
 item:=by
  intro X hP hw hK hc i pins s σ H E I hf st hg
  subst hP hw hK
  obtain ⟨xs,x,hq,hx⟩:=hg
  obtain ⟨its,rv,p,hz⟩:=I.tuple hq
  obtain ⟨u,hu,ru⟩:=rv.get hx
  obtain ⟨f0,f1,f2,f3,f4,f5⟩:=hf it (by simp)
  refine wpAny_pyNext_tuple_item st (show s.heap.IsTuple a its.toArray from p) (x:=u) (by simpa using hu) fun h' st' sb=>?_
  have I1:Inv X pins σ H { s with heap:=h' }:=I.turned (t':=s.toks) (fun b o hb e=>(sb.2 b hb).trans e) f0 f1 f3 f4 f5
  obtain ⟨o,e,c,d⟩:=id st'
  exact ⟨u,rfl,go_of (s:={ s with heap:=h' }) e c d (by decide) ⟨x,H,I1,ru,⟨rfl,fun ys hy=>by rw [I.tuple_inj hy hq]; exact hx⟩,st',fun b hb=>(hf b hb).1⟩⟩
 done:=by
  intro X hP hw hK hc i pins s σ H E I hf st hg
  subst hP hw hK
  obtain ⟨xs,hq,hx⟩:=hg
  obtain ⟨its,rv,p,hz⟩:=I.tuple hq
  obtain ⟨f0,f1,f2,f3,f4,f5⟩:=hf it (by simp)
  have hl:=rv.length
  exact wpAny_pyNext_tuple_end (I.ok.hd hc) st (show s.heap.IsTuple a its.toArray from p) (by simp; omega) fun h' eb=>⟨rfl,I.turned (t':=s.toks) (fun b o hb e=>eb b o hb e) f0 f1 f3 f4 f5⟩
 self:=fun _ _ _ _ _ st h=>wpAny_pyIter_tupleiter st h
theorem turn_range {P:Program} {w:World} {K:Frag} {tg:Expr} (it:Addr) (lo:Int) (n:Nat):Turn P w K tg (Itr lo n) [it] it (fun i h=>IsRangeIter h it (lo+(i:Nat)*1) ((n:Int)-(i:Nat)) 1) where
 mem:=by simp
 obj:=fun i h st b hb=>by
  have e:b=it:=by simpa using hb
  subst e
  exact ⟨_,st,fun v z=>by
   have z':Data.fields _=Data.cell v:=z
   cases z'⟩
 keep:=fun i h h' st k=>k it (by simp) _ st
 item:=by
  intro X hP hw hK hc i pins s σ H E I hf st hg
  subst hP hw hK
  obtain ⟨f0,f1,f2,f3,f4,f5⟩:=hf it (by simp)
  have W:=Walks.range (prog:=X.prog) (w:=X.w) (I.ok.hd hc) it lo 1 n
  refine W.item i s _ _ hg st fun v h' tk hv st' kk=>?_
  obtain ⟨t,rfl⟩:=hv
  have I1:Inv X pins σ H { s with heap:=h',toks:=tk }:=I.turned (fun b o hb e=>kk b o (by simpa using hb) e) f0 f1 f3 f4 f5
  refine ⟨_,rfl,go_of (s:={ s with heap:=h',toks:=tk }) (n := "range_iterator") st' rfl rfl (by decide) ⟨.int (lo+i),H,I1,⟨t,?_⟩,⟨rfl,rfl⟩,st',fun b hb=>(hf b hb).1⟩⟩
  rw [Int.mul_one]
 done:=by
  intro X hP hw hK hc i pins s σ H E I hf st hg
  subst hP hw hK
  obtain ⟨f0,f1,f2,f3,f4,f5⟩:=hf it (by simp)
  exact wpAny_pyNext_range_end (I.ok.hd hc) st (by have:n<=i:=hg; omega) fun h' eb=>⟨rfl,I.turned (t':=s.toks) (fun b o hb e=>eb b o hb e) f0 f1 f3 f4 f5⟩
 self:=fun _ _ _ _ _ st h=>wpAny_pyIter_rangeiter st h
end L2
namespace L2
open PySem PySem.Spec PyProof.Rows
section
variable {X:Cx} {tg:Expr}
theorem range_it {pins:List (Addr×Obj)} {σ:St} {H:Hp} {s:Shared} {R:It->Hp->Prop} {E:Value->Shared->Prop} {lo hi:Int} {t u v:Tok} {tk:Nat} (I:Inv X pins σ H s) (h1:-(2^62)<=lo) (h2:lo<2^62) (h3:-(2^62)<=hi) (h4:hi<2^62)
  (q:R (Itr lo (hi-lo).toNat) H):wpAny (model X.prog X.w) X.A (pyIter (.ref s.heap.objs.size)) (PIE X pins σ tg R) E { s with heap:=s.heap.push { cls:=.type "range",data:=.fields #[.int lo t,.int hi u,.int 1 v] },toks:=tk }:=by
 refine wpAny_pyIter_range (IsRange.new ..) (small_one h1 h2 h3 h4) ?_
 have I1:Inv X pins σ H { s with heap:=s.heap.push { cls:=.type "range",data:=.fields #[.int lo t,.int hi u,.int 1 v] },toks:=tk }:=I.kept fun b o e=>Heap.get?_push_of_some _ e
 refine ⟨(s.heap.push { cls:=.type "range",data:=.fields #[.int lo t,.int hi u,.int 1 v] }).objs.size,[(s.heap.push { cls:=.type "range",data:=.fields #[.int lo t,.int hi u,.int 1 v] }).objs.size],_,_,H,rfl,
  I1.kept (t':=tk) fun b o e=>Heap.get?_push_of_some _ e,turn_range _ lo (hi-lo).toNat,?_,fun b hb=>?_,q⟩
 ·have e1:lo+((0:Nat):Int)*1=lo:=by simp
  have e2:(((hi-lo).toNat:Nat):Int)-((0:Nat):Int)=Builtin.Range.rangeSize lo hi 1:=by rw [rangeSize_one]; split <;> omega
  show IsRangeIter _ _ (lo+((0:Nat):Int)*1) ((((hi-lo).toNat:Nat):Int)-((0:Nat):Int)) 1
  rw [e1,e2]
  exact Heap.get?_push_size _ rfl
 ·have e:b=(s.heap.push { cls:=.type "range",data:=.fields #[.int lo t,.int hi u,.int 1 v] }).objs.size:=by simpa using hb
  subst e
  exact I1.fpOk (Nat.le_refl _) (I1.hok.fresh (Nat.le_refl _))
def iRng1 (ta:TA):TI:=fun σ H R=>ta σ H fun vs H1=>∃ j:Int,vs = [.int j] /\ -(2^62)<=j/\j<2^62/\R (Itr 0 j.toNat) H1
def iRng2 (ta:TA):TI:=fun σ H R=>ta σ H fun vs H1=>∃ i j:Int,vs = [.int i,.int j]/\(-(2^62)<=i/\i<2^62 /\ -(2^62)<=j/\j<2^62)/\R (Itr i (j-i).toNat) H1
theorem pi_range1 {a:Expr} {ta:TA} {p pos:Pos} (hg:Gl X "range") (hm:X.mg "range" = none) (ha:PA X [a] ta) (hs:starEach [a] X.env = [(false,eval a X.env)]:=by rfl):PI X tg (.Call (.Name "range" p) [a] [] pos) (iRng1 ta):=by
 intro pins s σ H R I h
 refine Call_ (ld_blt I hg hm boot_range (PyProof.Rows.callWith_type1 (thn (ha pos pins s σ H _ I h) fun us s1 zz18=>?_) hs rfl))
 obtain ⟨vs,H1,I1,r1,q1⟩:=zz18
 obtain ⟨j,e,q1,q2,q⟩:=q1
 subst e
 cases r1 with
 | cons r rr=>
  cases rr
  obtain ⟨t,rfl⟩:=r
  exact call_range_1 (range_it I1 (by omega) (by omega) q1 q2 (by simpa using q))
theorem pi_range2 {a b:Expr} {ta:TA} {p pos:Pos} (hg:Gl X "range") (hm:X.mg "range" = none) (ha:PA X [a,b] ta) (hs:starEach [a,b] X.env = [(false,eval a X.env),(false,eval b X.env)]:=by rfl) (hs2:starEach [b] X.env = [(false,eval b X.env)]:=by rfl) :
  PI X tg (.Call (.Name "range" p) [a,b] [] pos) (iRng2 ta):=by
 intro pins s σ H R I h
 refine Call_ (ld_blt I hg hm boot_range (PyProof.Rows.callWith_type1 (thn (ha pos pins s σ H _ I h) fun us s1 zz19=>?_) (by rw [hs,hs2]) (by rw [hs2]; rfl)))
 obtain ⟨vs,H1,I1,r1,q1⟩:=zz19
 obtain ⟨i,j,e,⟨q1,q2,q3,q4⟩,q⟩:=q1
 subst e
 cases r1 with
 | cons r rr=>
  cases rr with
  | cons r' rr=>
   cases rr
   obtain ⟨t,rfl⟩:=r
   obtain ⟨t',rfl⟩:=r'
   exact call_range_2 (range_it I1 q1 q2 q3 q4 q)
def tFor (wi:TI) (g:TG) (tb:TS):TS:=fun D σ H=>wi σ H fun J H1=>∃ W:Nat->Nat->St->Hp->Prop,(∃ m,W 0 m σ H1)/\∀ i m σ H,W i m σ H ->
 (J.stop i H/\D.nx σ H)\/(J.go i H/\∃ N:St->Hp->Prop,(∀ σ' H',N σ' H'->∃ m',m'<m/\W (i+1) m' σ' H')/\∀ x H',J.yld i H x H'->g x σ H' fun σ2 H2=>tb { D with nx:=N,ct:=N,bk:=D.nx } σ2 H2)
def pinsAt (fp:List Addr) (h:Heap):List (Addr×Obj):=fp.filterMap fun b=>(h.get? b).map fun o=>(b,o)
theorem mem_pinsAt {fp:List Addr} {h:Heap} {b:Addr} {o:Obj} (hb:b∈fp) (e:h.get? b=some o):(b,o)∈pinsAt fp h:=List.mem_filterMap.mpr ⟨b,hb,by rw [e]; rfl⟩
theorem of_pinsAt {fp:List Addr} {h:Heap} {p:Addr×Obj} (hp:p∈pinsAt fp h):p.1∈fp/\h.get? p.1=some p.2:=by
 obtain ⟨b,hb,e⟩:=List.mem_filterMap.mp hp
 cases q:h.get? b with
 | none=>rw [q] at e; cases e
 | some o=>
  rw [q] at e
  have e':(b,o)=p:=Option.some.inj e
  subst e'
  exact ⟨hb,q⟩
theorem Inv.pinned {pins:List (Addr×Obj)} {σ:St} {H:Hp} {s:Shared} {fp:List Addr} (I:Inv X pins σ H s) (hf:∀ b∈fp,FpOk X pins H b) (ho:∀ b∈fp,∃ o,s.heap.get? b=some o/\∀ v,o.data≠.cell v):Inv X (pins++pinsAt fp s.heap) σ H s:=
 I.pins_of fun p hp=>(List.mem_append.mp hp).elim (fun z=>I.pin p (List.mem_append_right _ z)) fun z=>by
  obtain ⟨hb,e⟩:=of_pinsAt z
  obtain ⟨f0,f1,f2,_⟩:=hf p.1 hb
  obtain ⟨o,e',d⟩:=ho p.1 hb
  rw [e] at e'; cases e'
  exact ⟨e,f0,f1,f2,d⟩
theorem Inv.unpinned {pins pl:List (Addr×Obj)} {σ:St} {H:Hp} {s:Shared} (I:Inv X (pins++pl) σ H s):Inv X pins σ H s:=I.pins_of fun p hp=>I.pin p (List.mem_append_right _ (List.mem_append_left _ hp))
theorem ps_for {iter:Expr} {body:List Stmt} {wi:TI} {g:TG} {tb:TS} {pos:Pos} (hp:PassesOwn (model X.prog X.w) X.A X.env X.xe) (hc:X.calm=true) (hi:PI X tg iter wi) (hg:PG X tg g) (hb:PSs X body tb)
  (hs:∀ x,foldedSetIterable iter X.env x=pure x:=by intro _; rfl):PS X (.For tg iter body [] pos) (tFor wi g tb):=by
 intro pins s σ H D I h
 refine wpAny_For (thn (hi pins s σ H _ I h) fun v s1 h1=>thn h1 fun itv s2 h2=>?_) hs
 obtain ⟨it,fp,tn,J,H2,e,I2,T,st2,f2,W,⟨m0,w0⟩,turn⟩:=h2
 subst e
 -- what stays true of the iterator's objects through the loop
 have stat:∀ {H':Hp},(∀ b∈fp,H' b=none)->∀ b∈fp,FpOk X pins H' b:=fun hn b hb=>⟨hn b hb,(f2 b hb).2⟩
 refine codeAny_forLoop_any (fun n s'=>∃ i σ' H',Inv X pins σ' H' s'/\tn i s'.heap/\(∀ b∈fp,H' b=none)/\W i n σ' H') ?_ m0 ⟨0,σ,H2,I2,st2,fun b hb=>(f2 b hb).1,w0⟩
 rintro n s3 ⟨i,σ3,H3,I3,st3,fr3,w3⟩
 rcases turn i n σ3 H3 w3 with ⟨stop,qn⟩ | ⟨go,N,hN,step⟩
 ·refine wpAny_passesOwn hp (thn (T.done X rfl rfl rfl hc i pins s3 σ3 H3 X.xe I3 (stat fr3) st3 stop) fun r s4 ⟨hr,I4⟩=>?_)
  subst hr
  exact wpAny_execs_nil ⟨σ3,H3,I4,qn⟩
 ·refine wpAny_passesOwn hp (thn (T.item X rfl rfl rfl hc i pins s3 σ3 H3 X.xe I3 (stat fr3) st3 go) fun r s4 ⟨u,hr,h4⟩=>?_)
  subst hr
  refine wpAny_passesOwn hp (thn h4 fun _ s5 zz22=>?_)
  obtain ⟨x,H5,I5,r5,y5,st5,fr5⟩:=zz22
  have I5':=I5.pinned (stat fr5) (T.obj _ _ st5)
  refine wpAny_passesOwn hp (thn (hg _ s5 σ3 H5 x u _ I5' r5 (step x H5 y5)) fun _ s6 zz23=>?_)
  obtain ⟨σ6,H6,I6,q6⟩:=zz23
  refine wpAny_passesOwn hp (thn (hb _ s6 σ6 H6 _ I6 q6) fun f s7 q7=>?_)
  have again:∀ {σ7:St} {H7:Hp},Inv X (pins++pinsAt fp s5.heap) σ7 H7 s7->N σ7 H7->∃ m,m<n/\∃ i σ' H',Inv X pins σ' H' s7/\tn i s7.heap/\(∀ b∈fp,H' b=none)/\W i m σ' H':=fun {σ7 H7} I7 n7=>by
   obtain ⟨m',hm,w7⟩:=hN σ7 H7 n7
   refine ⟨m',hm,i+1,σ7,H7,I7.unpinned,T.keep _ _ _ st5 fun b hb o e=>(I7.pin (b,o) (List.mem_append_right _ (List.mem_append_right _ (mem_pinsAt hb e)))).1,fun b hb=>?_,w7⟩
   obtain ⟨o,e,d⟩:=T.obj _ _ st5 b hb
   exact (I7.pin (b,o) (List.mem_append_right _ (List.mem_append_right _ (mem_pinsAt hb e)))).2.1
  cases f with
  | next=>obtain ⟨σ7,H7,I7,n7⟩:=q7; exact again I7 n7
  | cont=>obtain ⟨σ7,H7,I7,n7⟩:=q7; exact again I7 n7
  | brk=>obtain ⟨σ7,H7,I7,q7⟩:=q7; exact ⟨σ7,H7,I7.unpinned,q7⟩
  | ret v=>obtain ⟨x7,σ7,H7,I7,r7,q7⟩:=q7; exact ⟨x7,σ7,H7,I7.unpinned,r7,q7⟩
end
end L2
namespace L2
open PySem PySem.Spec PyProof.Rows
abbrev R2:=V->V->Hp->VK->Prop
def OpR (X:Cx) (f:Value->Value->Sem Value) (r:R2):Prop:=
 ∀ (pins:List (Addr×Obj)) (s:Shared) (σ:St) (H:Hp) (x y:V) (v u:Value) (Q:VK),Inv X pins σ H s->RelV x v->RelV y u->r x y H Q ->
  wpAny (model X.prog X.w) X.A (f v u) (EP X pins σ Q) X.xe s
def UnR (X:Cx) (f:Value->Sem Value) (r:V->Hp->VK->Prop):Prop:=
 ∀ (pins:List (Addr×Obj)) (s:Shared) (σ:St) (H:Hp) (x:V) (v:Value) (Q:VK),Inv X pins σ H s->RelV x v->r x H Q ->
  wpAny (model X.prog X.w) X.A (f v) (EP X pins σ Q) X.xe s
def CallR (X:Cx) (f:Value) (r:List V->Hp->VK->Prop):Prop:=
 ∀ (pins:List (Addr×Obj)) (s:Shared) (σ:St) (H:Hp) (xs:List V) (us:List Value) (Q:VK),Inv X pins σ H s->Vals xs us->r xs H Q ->
  wpAny (model X.prog X.w) X.A (call f us) (EP X pins σ Q) X.xe s
def tOp (r:R2) (ta tb:TE):TE:=fun σ H Q=>ta σ H fun x H1=>tb σ H1 fun y H2=>r x y H2 Q
def tUn (r:V->Hp->VK->Prop) (ta:TE):TE:=fun σ H Q=>ta σ H fun x H1=>r x H1 Q
def rI (C:Int->Int->Prop) (g:Int->Int->V):R2:=fun x y H Q=>∃ i j,x=.int i/\y=.int j/\C i j/\Q (g i j) H
def rI0 (g:Int->Int->V):R2:=fun x y H Q=>∃ i j,x=.int i/\y=.int j/\Q (g i j) H
def rU (g:Int->V):V->Hp->VK->Prop:=fun x H Q=>∃ i,x=.int i/\Q (g i) H
section
variable {X:Cx} {a b c:Expr} {ta tb tc:TE} {pos:Pos}
theorem binT (ha:PE X a ta) (hb:PE X b tb) {pins:List (Addr×Obj)} {s:Shared} {σ:St} {H:Hp} {R:V->V->Hp->Prop} (I:Inv X pins σ H s)
  (h:ta σ H fun x H1=>tb σ H1 fun y H2=>R x y H2) {Q:Value->Shared->Prop} {f:Value->Value->Sem Value}
  (hf:∀ v u s2 x y H2,Inv X pins σ H2 s2->RelV x v->RelV y u->R x y H2->wpAny (model X.prog X.w) X.A (f v u) Q X.xe s2) :
  wpAny (model X.prog X.w) X.A (eval a X.env) (fun v s₁=>wpAny (model X.prog X.w) X.A (eval b X.env) (fun u s₂=>wpAny (model X.prog X.w) X.A (f v u) Q X.xe s₂) X.xe s₁) X.xe s:=by
 refine thn (ha pins s σ H _ I h) fun v s1 zz24=>?_
 obtain ⟨x,H1,I1,r1,q1⟩:=zz24
 refine thn (hb pins s1 σ H1 _ I1 q1) fun u s2 zz25=>?_
 obtain ⟨y,H2,I2,r2,q2⟩:=zz25
 exact hf v u s2 x y H2 I2 r1 r2 q2
theorem pe_op {op:Operator} {r:R2} (ho:OpR X (binaryOp op) r) (ha:PE X a ta) (hb:PE X b tb):PE X (.BinOp a op b pos) (tOp r ta tb):=by
 intro pins s σ H Q I h
 exact wpAny_BinOp (binT ha hb I h fun v u s2 x y H2 I2 rx ry q=>ho pins s2 σ H2 x y v u Q I2 rx ry q)
theorem pe_un {op:UnaryOp} {r:V->Hp->VK->Prop} (ho:UnR X (unaryOp op) r) (ha:PE X a ta):PE X (.UnaryOp op a pos) (tUn r ta):=by
 intro pins s σ H Q I h
 exact UnaryOp_ (thn (ha pins s σ H _ I h) fun v s1 zz26=>by obtain ⟨x,H1,I1,r1,q1⟩:=zz26; exact ho pins s1 σ H1 x v Q I1 r1 q1)
theorem opI {f:Value->Value->Sem Value} {C:Int->Int->Prop} {g:Int->Int->Int}
  (rule:∀ (i j:Int) (t u:Tok) (s:Shared) (Q:Value->Shared->Prop) (E:Value->Shared->Prop),C i j->Q (.int (g i j) s.toks) { s with toks:=s.toks+1 }->wpAny (model X.prog X.w) X.A (f (.int i t) (.int j u)) Q E s) :
  OpR X f (rI C fun i j=>.int (g i j)):=by
 intro pins s σ H x y v u Q I rx ry h
 obtain ⟨i,j,rfl,rfl,hc,q⟩:=h
 obtain ⟨t,rfl⟩:=rx
 obtain ⟨t',rfl⟩:=ry
 exact rule i j t t' s _ _ hc ⟨.int (g i j),H,I.tok _,⟨_,rfl⟩,q⟩
theorem opI0 {f:Value->Value->Sem Value} {g:Int->Int->Int}
  (rule:∀ (i j:Int) (t u:Tok) (s:Shared) (Q:Value->Shared->Prop) (E:Value->Shared->Prop),Q (.int (g i j) s.toks) { s with toks:=s.toks+1 }->wpAny (model X.prog X.w) X.A (f (.int i t) (.int j u)) Q E s) :
  OpR X f (rI0 fun i j=>.int (g i j)):=by
 intro pins s σ H x y v u Q I rx ry h
 obtain ⟨i,j,rfl,rfl,q⟩:=h
 obtain ⟨t,rfl⟩:=rx
 obtain ⟨t',rfl⟩:=ry
 exact rule i j t t' s _ _ ⟨.int (g i j),H,I.tok _,⟨_,rfl⟩,q⟩
theorem opB0 {f:Value->Value->Sem Value} {g:Int->Int->Bool}
  (rule:∀ (i j:Int) (t u:Tok) (s:Shared) (Q:Value->Shared->Prop) (E:Value->Shared->Prop),Q (.bool (g i j)) s->wpAny (model X.prog X.w) X.A (f (.int i t) (.int j u)) Q E s) :
  OpR X f (rI0 fun i j=>.bl (g i j)):=by
 intro pins s σ H x y v u Q I rx ry h
 obtain ⟨i,j,rfl,rfl,q⟩:=h
 obtain ⟨t,rfl⟩:=rx
 obtain ⟨t',rfl⟩:=ry
 exact rule i j t t' s _ _ ⟨.bl (g i j),H,I,rfl,q⟩
def CDiv (i j:Int):Prop:=0<j/\j<1073741824
def CPow (i j:Int):Prop:=0<=j/\j<=1000000/\i.natAbs<2^64
def CMul (i j:Int):Prop:=(-(2^64)<i/\i<2^64)\/(-(2^64)<j/\j<2^64)
theorem CMul.ok {i j:Int} (h:CMul i j):IntMulOk i j:=by
 rcases h with ⟨h1,h2⟩ | ⟨h1,h2⟩
 ·exact .of_left (intBits_le_64 h1 h2)
 ·exact .of_right (intBits_le_64 h1 h2)
theorem op_add:OpR X (binaryOp .Add) (rI0 fun i j=>.int (i+j)):=opI0 fun _ _ _ _ _ _ _ q=>add_int q
theorem op_sub:OpR X (binaryOp .Sub) (rI0 fun i j=>.int (i-j)):=opI0 fun _ _ _ _ _ _ _ q=>sub_int q
theorem op_fdiv:OpR X (binaryOp .FloorDiv) (rI CDiv fun i j=>.int (i/j)):=opI fun i j _ _ _ _ _ hc q=>by
 have h1:(0:Int)<j:=hc.1
 have h2:j<1073741824:=hc.2
 exact floordiv_int (by omega) (by rw [Int.fdiv_eq_ediv_of_nonneg i (by omega)]; exact q) (.inl (PyProof.noPylong_small (by omega)))
theorem op_mod:OpR X (binaryOp .Mod) (rI (fun _ j=>0<j) fun i j=>.int (i%j)):=opI fun i j _ _ _ _ _ hc q=>by
 have h1:(0:Int)<j:=hc
 exact mod_int' (by omega) (by rw [Int.fmod_eq_emod_of_nonneg i (by omega)]; exact q)
theorem op_modN:OpR X (binaryOp .Mod) (rI (fun _ j=>j≠0) fun i j=>.int (i.fmod j)):=opI fun _ _ _ _ _ _ _ hc q=>mod_int' hc q
theorem op_pow:OpR X (binaryOp .Pow) (rI CPow fun i j=>.int (i^j.toNat)):=opI fun _ _ _ _ _ _ _ hc q=>pow_int_small hc.1 hc.2.1 hc.2.2 q
theorem unI {f:Value->Sem Value} {g:Int->Int}
  (rule:∀ (i:Int) (t:Tok) (s:Shared) (Q:Value->Shared->Prop) (E:Value->Shared->Prop),Q (.int (g i) s.toks) { s with toks:=s.toks+1 }->wpAny (model X.prog X.w) X.A (f (.int i t)) Q E s) :
  UnR X f (rU fun i=>.int (g i)):=by
 intro pins s σ H x v Q I rx h
 obtain ⟨i,rfl,q⟩:=h
 obtain ⟨t,rfl⟩:=rx
 exact rule i t s _ _ ⟨.int (g i),H,I.tok _,⟨_,rfl⟩,q⟩
theorem un_neg:UnR X (unaryOp .USub) (rU fun i=>.int (-i)):=unI fun _ _ _ _ _ q=>neg_int q
end
def scal:V->V->Bool
 | .non,.non=>true | .non,.int _=>true | .int _,.non=>true | .non,.bl _=>true | .bl _,.non=>true | .non,.str _=>true | .str _,.non=>true
 | .int _,.int _=>true | .bl _,.bl _=>true | .str _,.str _=>true | .byt _,.byt _=>true
 | .int _,.str _=>true | .str _,.int _=>true | .bl _,.str _=>true | .str _,.bl _=>true
 | _,_=>false
def rEq:R2:=fun x y H Q=>scal x y=true/\Q (.bl (decide (x=y))) H
def rNe:R2:=fun x y H Q=>scal x y=true/\Q (.bl (!decide (x=y))) H
theorem dec_int {i j:Int}:decide (V.int i=V.int j)=(i == j):=by
 rw [Bool.eq_iff_iff]
 simp
theorem dec_bl {i j:Bool}:decide (V.bl i=V.bl j)=(i == j):=by
 rw [Bool.eq_iff_iff]
 simp
theorem dec_str {i j:Str}:decide (V.str i=V.str j)=(i == j):=by
 rw [Bool.eq_iff_iff]
 simp
theorem dec_byt {i j:Array UInt8}:decide (V.byt i=V.byt j)=(i.toList == j.toList):=by
 rw [Bool.eq_iff_iff]
 cases i
 cases j
 simp
section
variable {X:Cx} {a b c:Expr} {ta tb tc:TE} {pos:Pos}
theorem fin_bl {pins:List (Addr×Obj)} {σ:St} {H:Hp} {s:Shared} {Q:VK} {k k':Bool} (I:Inv X pins σ H s) (q:Q (.bl k) H) (e:k=k'):EP X pins σ Q (.bool k') s:=by
 subst e
 exact ⟨.bl k,H,I,rfl,q⟩
theorem op_eq:OpR X (compareOp .Eq) rEq:=by
 intro pins s σ H x y v u Q I rx ry h
 obtain ⟨hs,q⟩:=h
 cases x with
 | non=>
  cases rx
  cases y with
  | non=>cases ry; exact PySem.EqNone.eq_none_none (fin_bl I q (by simp))
  | bl j=>cases ry; exact PySem.EqNone.eq_none_bool (fin_bl I q (by simp))
  | int j=>obtain ⟨t',rfl⟩:=ry; exact PySem.EqNone.eq_none_int (fin_bl I q (by simp))
  | str j=>obtain ⟨t',rfl⟩:=ry; exact PySem.EqNone.eq_none_str (fin_bl I q (by simp))
  | _=>exact absurd (show false=true from hs) Bool.false_ne_true
 | bl i=>
  cases rx
  cases y with
  | non=>cases ry; exact PySem.EqNone.eq_bool_none (fin_bl I q (by simp))
  | bl j=>cases ry; exact eq_bool (fin_bl I q dec_bl)
  | str j=>obtain ⟨t',rfl⟩:=ry; exact PySem.EqMixed.eq_bool_str (fin_bl I q (by simp))
  | _=>exact absurd (show false=true from hs) Bool.false_ne_true
 | int i=>
  obtain ⟨t,rfl⟩:=rx
  cases y with
  | non=>cases ry; exact PySem.EqNone.eq_int_none (fin_bl I q (by simp))
  | int j=>obtain ⟨t',rfl⟩:=ry; exact eq_int (fin_bl I q dec_int)
  | str j=>obtain ⟨t',rfl⟩:=ry; exact PySem.EqMixed.eq_int_str (fin_bl I q (by simp))
  | _=>exact absurd (show false=true from hs) Bool.false_ne_true
 | str i=>
  obtain ⟨t,rfl⟩:=rx
  cases y with
  | non=>cases ry; exact PySem.EqNone.eq_str_none (fin_bl I q (by simp))
  | bl j=>cases ry; exact PySem.EqMixed.eq_str_bool (fin_bl I q (by simp))
  | int j=>obtain ⟨t',rfl⟩:=ry; exact PySem.EqMixed.eq_str_int (fin_bl I q (by simp))
  | str j=>obtain ⟨t',rfl⟩:=ry; exact eq_str (fin_bl I q dec_str)
  | _=>exact absurd (show false=true from hs) Bool.false_ne_true
 | byt i=>
  obtain ⟨t,rfl⟩:=rx
  cases y with
  | byt j=>obtain ⟨t',rfl⟩:=ry; exact PySem.W.eq_bytes (fin_bl I q dec_byt)
  | _=>exact absurd (show false=true from hs) Bool.false_ne_true
 | _=>cases y <;> exact absurd (show false=true from hs) Bool.false_ne_true
theorem op_ne:OpR X (compareOp .NotEq) rNe:=by
 intro pins s σ H x y v u Q I rx ry h
 obtain ⟨hs,q⟩:=h
 cases x with
 | non=>
  cases rx
  cases y with
  | non=>cases ry; exact PySem.EqNone.ne_none_none (fin_bl I q (by simp))
  | bl j=>cases ry; exact PySem.EqNone.ne_none_bool (fin_bl I q (by simp))
  | int j=>obtain ⟨t',rfl⟩:=ry; exact PySem.EqNone.ne_none_int (fin_bl I q (by simp))
  | str j=>obtain ⟨t',rfl⟩:=ry; exact PySem.EqNone.ne_none_str (fin_bl I q (by simp))
  | _=>exact absurd (show false=true from hs) Bool.false_ne_true
 | bl i=>
  cases rx
  cases y with
  | non=>cases ry; exact PySem.EqNone.ne_bool_none (fin_bl I q (by simp))
  | bl j=>cases ry; exact ne_bool (fin_bl I q (congrArg not dec_bl))
  | str j=>obtain ⟨t',rfl⟩:=ry; exact PySem.EqMixed.ne_bool_str (fin_bl I q (by simp))
  | _=>exact absurd (show false=true from hs) Bool.false_ne_true
 | int i=>
  obtain ⟨t,rfl⟩:=rx
  cases y with
  | non=>cases ry; exact PySem.EqNone.ne_int_none (fin_bl I q (by simp))
  | int j=>obtain ⟨t',rfl⟩:=ry; exact ne_int (fin_bl I q (congrArg not dec_int))
  | str j=>obtain ⟨t',rfl⟩:=ry; exact PySem.EqMixed.ne_int_str (fin_bl I q (by simp))
  | _=>exact absurd (show false=true from hs) Bool.false_ne_true
 | str i=>
  obtain ⟨t,rfl⟩:=rx
  cases y with
  | non=>cases ry; exact PySem.EqNone.ne_str_none (fin_bl I q (by simp))
  | bl j=>cases ry; exact PySem.EqMixed.ne_str_bool (fin_bl I q (by simp))
  | int j=>obtain ⟨t',rfl⟩:=ry; exact PySem.EqMixed.ne_str_int (fin_bl I q (by simp))
  | str j=>obtain ⟨t',rfl⟩:=ry; exact ne_str (fin_bl I q (congrArg not dec_str))
  | _=>exact absurd (show false=true from hs) Bool.false_ne_true
 | byt i=>
  obtain ⟨t,rfl⟩:=rx
  cases y with
  | byt j=>obtain ⟨t',rfl⟩:=ry; exact PySem.W.ne_bytes (fin_bl I q (congrArg not dec_byt))
  | _=>exact absurd (show false=true from hs) Bool.false_ne_true
 | _=>cases y <;> exact absurd (show false=true from hs) Bool.false_ne_true
theorem op_lt:OpR X (compareOp .Lt) (rI0 fun i j=>.bl (decide (i<j))):=opB0 fun _ _ _ _ _ _ _ q=>lt_int q
theorem op_gt:OpR X (compareOp .Gt) (rI0 fun i j=>.bl (decide (j<i))):=opB0 fun _ _ _ _ _ _ _ q=>gt_int q
theorem op_isN:OpR X (compareOp .Is) (fun x y H Q=>y=.non/\Q (.bl (decide (x=.non))) H):=by
 intro pins s σ H x y v u Q I rx ry h
 obtain ⟨rfl,q⟩:=h
 cases ry
 refine is_none_gen (fin_bl I q ?_)
 cases x <;> first
  | (cases rx; rfl)
  | (obtain ⟨t,rfl⟩:=rx; rfl)
theorem nomark (b:Expr) {op:CmpOp} (h:op≠.In:=by decide) (h2:op≠.NotIn:=by decide):behindInMarks op b=false:=by
 have e1:(op == CmpOp.In)=false:=by cases op <;> first | rfl | exact absurd rfl h
 have e2:(op == CmpOp.NotIn)=false:=by cases op <;> first | rfl | exact absurd rfl h2
 cases b <;> simp [behindInMarks,e1,e2]
theorem pe_cmpR {op:CmpOp} {r:R2} (ho:OpR X (compareOp op) r) (ha:PE X a ta) (hb:PE X b tb) (hm:behindInMarks op b=false):PE X (.Compare a [op] [b] pos) (tOp r ta tb):=by
 intro pins s σ H Q I h
 exact wpAny_Compare1 (binT ha hb I h fun v u s2 x y H2 I2 rx ry q=>ho pins s2 σ H2 x y v u Q I2 rx ry q) hm
def tTest (t:TE):TT:=fun σ H Q=>t σ H fun x H'=>∃ k,x=.bl k/\Q k H'
theorem pt_cmpR {op:CmpOp} {r:R2} (ho:OpR X (compareOp op) r) (ha:PE X a ta) (hb:PE X b tb) (hm:behindInMarks op b=false):PT X (.Compare a [op] [b] pos) (tTest (tOp r ta tb)):=by
 intro pins s σ H Q I h
 refine wpAny_isTrue_Compare1 (thn (ha pins s σ H _ I h) fun v s1 ⟨x,H1,I1,r1,q1⟩=>thn (hb pins s1 σ H1 _ I1 q1) fun u s2 ⟨y,H2,I2,r2,q2⟩=>
  thn (ho pins s2 σ H2 x y v u _ I2 r1 r2 q2) fun c s3 ⟨z,H3,I3,r3,k,e,q3⟩=>?_) hm
 subst e
 cases r3
 exact wpAny_truthy_bool ⟨H3,I3,q3⟩
theorem line63:(sizeLine:Nat)<2^63:=by rw [sizeLine_eq]; decide
theorem vals1 {x:V} {us:List Value} (r:Vals [x] us):∃ u,us = [u]/\RelV x u:=by
 cases r with
 | cons r1 r2=>cases r2; exact ⟨_,rfl,r1⟩
theorem vals2 {x y:V} {us:List Value} (r:Vals [x,y] us):∃ u w',us = [u,w']/\RelV x u/\RelV y w':=by
 cases r with
 | cons r1 r2=>
  cases r2 with
  | cons r3 r4=>cases r4; exact ⟨_,_,rfl,r1,r3⟩
theorem call_abs:CallR X (.builtin "abs") (fun xs H Q=>∃ i,xs = [.int i]/\Q (.int (if i<0 then -i else i)) H):=by
 intro pins s σ H xs us Q I r h
 obtain ⟨i,rfl,q⟩:=h
 obtain ⟨u,rfl,t,rfl⟩:=vals1 r
 exact call_abs_int fun u tk=>⟨.int (if i<0 then -i else i),H,I.tok _,⟨_,rfl⟩,q⟩
theorem call_max2 (hc:X.calm=true):CallR X (.builtin "max") (fun xs H Q=>∃ i j,xs = [.int i,.int j]/\Q (.int (if j>i then j else i)) H):=by
 intro pins s σ H xs us Q I r h
 obtain ⟨i,j,rfl,q⟩:=h
 obtain ⟨u,w',rfl,⟨t,rfl⟩,⟨t',rfl⟩⟩:=vals2 r
 refine max_two_ints (I.ok.hd hc) fun h' tk k=>⟨_,H,I.kept k,?_,q⟩
 by_cases hj:j>i
 ·rw [if_pos hj,if_pos hj]; exact ⟨_,rfl⟩
 ·rw [if_neg hj,if_neg hj]; exact ⟨_,rfl⟩
theorem call_int1:CallR X (.type "int") (fun xs H Q=>(∃ i,xs = [.int i]/\Q (.int i) H)\/∃ k,xs = [.bl k]/\Q (.int (if k then 1 else 0)) H):=by
 intro pins s σ H xs us Q I r h
 rcases h with ⟨i,rfl,q⟩ | ⟨k,rfl,q⟩
 ·obtain ⟨u,rfl,t,rfl⟩:=vals1 r
  exact call_int_int ⟨.int i,H,I,⟨_,rfl⟩,q⟩
 ·obtain ⟨u,rfl,r1⟩:=vals1 r
  cases r1
  exact call_int_bool ⟨.int (if k then 1 else 0),H,I.tok _,⟨_,rfl⟩,q⟩
end
end L2
namespace L2
open PySem PySem.Spec PyProof.Rows
structure ObjM (h:Heap) (x dx C:Addr) (mA:Str->Option Value):Prop where
 obj:h.get? x=some (PySem.W.instObj C dx)
 ns:h.Ns1 dx mA
 ne:dx≠x
theorem lookIn_ns {h:Heap} {dx:Addr} {mA:Str->Option Value} (n:h.Ns1 dx mA):∃ od,h.get? dx=some od/\∀ name,PySem.W.lookIn name od=some (mA name):=by
 obtain ⟨o,es,ep,ho,hd,hk,_,hm⟩:=n
 refine ⟨o,ho,fun name=>?_⟩
 have e:=hm name
 unfold nsFind findBy at e
 rw [<- Array.find?_toList] at e
 unfold PySem.W.lookIn
 rw [hd]
 dsimp only
 split
 ·rename_i y q
  rw [q] at e
  exact congrArg some e
 ·rename_i q
  rw [q] at e
  have a:es.toList.any (·.refKey)=false:=by
   rw [List.any_eq_false]
   intro y hy
   obtain ⟨z,t,hkey⟩:=hk y (Array.mem_toList_iff.mp hy)
   simp [DictEntry.refKey,hkey]
  have a':¬ es.toList.any (·.refKey)=true:=by rw [a]; exact Bool.false_ne_true
  rw [if_neg a']
  exact congrArg some e
theorem ObjM.look {h:Heap} {x dx C:Addr} {mA:Str->Option Value} (I:ObjM h x dx C mA):∃ od,PySem.W.InstAt h x (PySem.W.instObj C dx) C (some od)/\∀ name,PySem.W.lookIn name od=some (mA name):=
 let ⟨od,ho,hl⟩:=lookIn_ns I.ns
 ⟨od,⟨I.obj,rfl,rfl,ho⟩,hl⟩
section
variable {prog:Program} {w:World} {A:Around} {E:Value->Shared->Prop} {s:Shared} {K:Frag} {x dx C f:Addr} {mA:Str->Option Value} {name:Str} {v:Value}
end
section
variable {P:Program} {w:World} {H H':Hp} {h h':Heap} {a C dx:Addr} {fs fs':List (Str×V)}
theorem ins_get (hok:HOk P w H h) (e:H a=some (.ins C dx fs)):∃ mA,ObjM h a dx C mA/\(∀ f,RelO (fs.lookup f) (mA f))/\PySem.Within mA (fs.map (·.1))/\fs.length<=1000/\H dx=some (.own a):=by
 obtain ⟨d,z,ne,ob,mA,n,r,q⟩:=(show ObjOk P w H h a (.ins C dx fs) from hok a _ e)
 exact ⟨mA,⟨ob,n,ne⟩,r,q,z,d⟩
end
structure Cls (K:Frag) (C:Addr):Prop where
 pg:PySem.W.plainGet K C Str.empty=true
 hd:PySem.W.hasDictIn K C=true
 po:PySem.W.plainOver K C=true
 sa:PySem.W.findIn K (.ref C) "__setattr__" = some (some (.builtin "object.__setattr__"))
theorem Cls.get {K:Frag} {C:Addr} (c:Cls K C) (f:Str):PySem.W.plainGet K C f=true:=c.pg
section
variable {X:Cx} {pins:List (Addr×Obj)} {σ:St} {H:Hp} {s:Shared} {a C dx:Addr} {fs:List (Str×V)} {f:Str} {v:V} {A:Around} {E:Value->Shared->Prop}
end
section
variable {X:Cx} {o e value:Expr} {f:Str} {pos pos' tpos:Pos} {ta tv:TE}
end
section
variable {X:Cx} {pins:List (Addr×Obj)} {σ:St} {H:Hp} {s:Shared} {A:Around} {E:Value->Shared->Prop} {Q:Value->Shared->Prop} {c:Value} {b:Bool}
inductive TyOf (K:Frag) (H:Hp):V->Value->Prop where
 | non:TyOf K H .non (.type "NoneType")
 | bl (x:Bool):TyOf K H (.bl x) (.type "bool")
 | int (i:Int):TyOf K H (.int i) (.type "int")
 | str (x:Str):TyOf K H (.str x) (.type "str")
 | flt (x:UInt64):TyOf K H (.flt x) (.type "float")
 | lst {a:Addr} {xs:List V} (e:H a=some (.lst xs)):TyOf K H (.ref a) (.type "list")
 | frz {a:Addr} {o:Obj} {xs:List V} (e:H a=some (.frz o (.lst xs))):TyOf K H (.ref a) (.type "list")
 | tup {a:Addr} {xs:List V} (e:H a=some (.tup xs)):TyOf K H (.ref a) (.type "tuple")
 | dK {a:Addr} {kvs:List (Key×V)} (e:H a=some (.dK kvs)):TyOf K H (.ref a) (.type "dict")
 | dT {a:Addr} {kvs:List (List Key×V)} (e:H a=some (.dT kvs)):TyOf K H (.ref a) (.type "dict")
 | ins {a C dx:Addr} {fs:List (Str×V)} (e:H a=some (.ins C dx fs)) (cl:Cls K C) (ha:PySem.W.findIn K (.ref C) "__class__" = some (some (.builtin "object.__class__")))
   (hn:PySem.W.specialIn K (.builtin "object.__class__") "__get__" = some (some (.builtin "getset_descriptor.__get__"))) (htk:PySem.W.takesIn K (.builtin "object.__class__")=some true)
   (hm:PySem.W.mroIn K C (.type "object")=some true):TyOf K H (.ref a) (.ref C)
theorem isinst_ok {x:V} {u t:Value} (I:Inv X pins σ H s) (rx:RelV x u) (ty:TyOf X.K H x t) (e:PySem.W.kitOne X.K t c=some b) (h:∀ tk,Q (.bool b) { s with toks:=tk }) :
  wpAny (model X.prog X.w) A (call (.builtin "isinstance") [u,c]) Q E s:=by
 cases ty with
 | non=>cases (show u=Value.none from rx); exact PySem.W.kia_one PySem.W.kitx_none I.kIn True.intro e (fun z=>nomatch z) h
 | bl y=>cases (show u=Value.bool y from rx); exact PySem.W.kia_one PySem.W.kitx_bool I.kIn True.intro e (fun z=>nomatch z) h
 | int i=>obtain ⟨t,q⟩:=(show ∃ t,u=Value.int i t from rx); cases q; exact PySem.W.kia_one PySem.W.kitx_int I.kIn True.intro e (fun z=>nomatch z) h
 | str y=>obtain ⟨t,q⟩:=(show ∃ t,u=Value.str y t from rx); cases q; exact PySem.W.kia_one PySem.W.kitx_str I.kIn True.intro e (fun z=>nomatch z) h
 | flt y=>obtain ⟨t,q⟩:=(show ∃ t,u=Value.float y t from rx); cases q; exact PySem.W.kia_one PySem.W.kitx_float I.kIn True.intro e (fun z=>nomatch z) h
 | @lst a xs ea=>
  cases (show u=Value.ref a from rx)
  obtain ⟨_,_,n,_,h1⟩:=(show ObjOk X.prog X.w H s.heap a (.lst xs) from I.hok a _ ea)
  exact PySem.W.kia_one PySem.W.kitx_list I.kIn ⟨_,h1,rfl⟩ e (fun z=>nomatch z) h
 | @frz a ob xs ea=>
  cases (show u=Value.ref a from rx)
  obtain ⟨_,_,_,n,_,h1⟩:=(show ObjOk X.prog X.w H s.heap a (.frz ob (.lst xs)) from I.hok a _ ea)
  exact PySem.W.kia_one PySem.W.kitx_list I.kIn ⟨_,h1,rfl⟩ e (fun z=>nomatch z) h
 | @tup a xs ea=>
  cases (show u=Value.ref a from rx)
  obtain ⟨_,_,_,p⟩:=(show ObjOk X.prog X.w H s.heap a (.tup xs) from I.hok a _ ea)
  obtain ⟨o,h1,h2,_⟩:=p
  exact PySem.W.kia_one PySem.W.kitx_tuple I.kIn ⟨o,h1,h2⟩ e (fun z=>nomatch z) h
 | @dK a kvs ea=>
  cases (show u=Value.ref a from rx)
  obtain ⟨_,_,vs,_,p⟩:=(show ObjOk X.prog X.w H s.heap a (.dK kvs) from I.hok a _ ea)
  obtain ⟨o,es,ep,h1,h2,_⟩:=p
  exact PySem.W.kia_one PySem.W.kitx_dict I.kIn ⟨o,h1,h2.1⟩ e (fun z=>nomatch z) h
 | @dT a kvs ea=>
  cases (show u=Value.ref a from rx)
  obtain ⟨_,_,xs,_,o,es,ep,h1,h2,_⟩:=(show ObjOk X.prog X.w H s.heap a (.dT kvs) from I.hok a _ ea)
  exact PySem.W.kia_one PySem.W.kitx_dict I.kIn ⟨o,h1,h2.1⟩ e (fun z=>nomatch z) h
 | @ins a C dx fs ea cl ha hn htk hm=>
  cases (show u=Value.ref a from rx)
  obtain ⟨mA,O,_⟩:=ins_get I.hok ea
  obtain ⟨od,J,_⟩:=O.look
  exact PySem.W.kia_one (PySem.W.kitx_own (cl.get _) cl.hd ha hn htk hm) I.kIn J e (fun z=>nomatch z) h
end
end L2
namespace L2
open PySem PySem.Spec PyProof.Rows
structure Room (k:Nat) (A:Around):Prop where
 hd:A.handled=none
 dp:A.depth+3*k+5<recursionLimit
 un:A.units+16*k+200<cLine
theorem Room.mono {j k:Nat} {A:Around} (r:Room k A) (h:j<=k):Room j A:=⟨r.hd,by have:=r.dp; omega,by have:=r.un; omega⟩
theorem Room.deeper {k:Nat} {A:Around} (r:Room (k+1) A) (env:Env):Room k (A.deeper env):=
 ⟨r.hd,by have:=r.dp; show A.depth+1+3*k+5<_; omega,by have:=r.un; show A.units+3+16*k+200<_; omega⟩
theorem Room.depth {k:Nat} {A:Around} (r:Room k A):A.depth<recursionLimit:=by have:=r.dp; omega
theorem Room.units {k:Nat} {A:Around} (r:Room k A):A.units+64<cLine:=by have:=r.un; omega
def tNil:TA:=fun _ H Q=>Q [] H
def tCons (ta:TE) (tr:TA):TA:=fun σ H Q=>ta σ H fun x H1=>tr σ H1 fun xs H2=>Q (x::xs) H2
section
variable {X:Cx} {e:Expr} {es:List Expr} {te:TE} {t:TA} {pos:Pos}
theorem pa_nil:PA X [] tNil:=fun _ _ _ _ H Q I h=>Calls.spliced_nil ⟨[],H,I,.nil,h⟩
theorem pa_cons (ha:PE X e te) (hr:PA X es t) (hs:starEach (e::es) X.env=(false,eval e X.env)::starEach es X.env:=by rfl):PA X (e::es) (tCons te t):=by
 intro pos pins s σ H Q I h
 rw [hs]
 show wpAny _ _ (spliced ((false,eval e X.env)::backTo pos (starEach es X.env))) _ _ s
 refine Calls.spliced_cons (thn (ha pins s σ H _ I h) fun u s1 zz30=>?_)
 obtain ⟨x,H1,I1,r1,q1⟩:=zz30
 exact thn (hr pos pins s1 σ H1 _ I1 q1) fun us s2 zz31=>by obtain ⟨xs,H2,I2,r2,q2⟩:=zz31; exact ⟨x::xs,H2,I2,.cons r1 r2,q2⟩
def tTup (t:TA):TE:=fun σ H Q=>t σ H fun xs H1=>xs.length<=sizeLine/\∀ p,H1 p=none->Q (.ref p) (upd H1 p (.tup xs))
def tLst (t:TA):TE:=fun σ H Q=>t σ H fun xs H1=>xs.length<=sizeLine/\∀ p,H1 p=none->Q (.ref p) (upd H1 p (.lst xs))
theorem pe_tup {x1} (h:PA X es t):PE X (.Tuple es x1 pos) (tTup t):=by
 intro pins s σ H Q I hq
 refine wpAny_Tuple_spliced (thn (h pos pins s σ H _ I hq) fun us s1 ⟨xs,H1,I1,r,z,q⟩=>⟨by rw [<- r.length]; exact z,?_⟩)
 have hf:H1 s1.heap.objs.size=none:=I1.hok.fresh (Nat.le_refl _)
 refine ⟨.ref s1.heap.objs.size,upd H1 s1.heap.objs.size (.tup xs),I1.laid (t':=s1.toks) (fun b u e=>Heap.get?_push_of_some _ e) (Nat.le_refl _) ?_,rfl,q _ hf⟩
 exact ⟨z,us,r,⟨_,Heap.get?_push_size _ rfl,rfl,_,rfl⟩⟩
theorem pe_lst (h:PA X es t):PE X (.List es pos) (tLst t):=by
 intro pins s σ H Q I hq
 refine wpAny_List_spliced (thn (h pos pins s σ H _ I hq) fun us s1 ⟨xs,H1,I1,r,z,q⟩=>⟨by rw [<- r.length]; exact z,?_⟩)
 have hf:H1 s1.heap.objs.size=none:=I1.hok.fresh (Nat.le_refl _)
 refine ⟨.ref s1.heap.objs.size,upd H1 s1.heap.objs.size (.lst xs),I1.laid (t':=s1.toks) (fun b u e=>Heap.get?_push_of_some _ e) (Nat.le_refl _) ?_,rfl,q _ hf⟩
 exact ⟨z,us,0,r,Heap.get?_push_size _ rfl⟩
end
abbrev Sp:=List V->Hp->VK->XK->Prop
abbrev CXT:=List Env->Hp->Shared->XK->Value->Shared->Prop
structure Env0 (P:Program) (w:World) (K:Frag) (mg:Str->Option Value) (base:Heap) (A:Around) (outer:List Env) (s:Shared) (H:Hp):Prop where
 frames:A.frames=some outer
 mod:Mod K mg base
 bs:∀ b o,base.get? b=some o->s.heap.get? b=some o/\H b=none
 bsz:base.objs.size<=s.heap.objs.size
 funs:s.heap.FunFrames base outer
 frf:∀ b∈frs outer,H b=none
 hok:HOk P w H s.heap
 bare:AllBare s.gens
def CE (outer:List Env) (P:Program) (w:World) (H:Hp) (s:Shared) (Q:VK) (u:Value) (s':Shared):Prop:=
 ∃ v H',s'.os=s.os/\AllBare s'.gens/\Un (frs outer) [] H H' s.heap s'.heap/\HOk P w H' s'.heap/\RelV v u/\Q v H'
def CR (CX:CXT) (outer:List Env) (P:Program) (w:World) (H:Hp) (s:Shared) (Q:VK) (E:XK) (r:Result) (s':Shared):Prop:=
 match r with
 | .ok (.ret u)=>CE outer P w H s Q u s'
 | .ok _=>False
 | .error e=>CX outer H s E e s'
structure FnOk (P:Program) (w:World) (K:Frag) (mg:Str->Option Value) (base:Heap) (CX:CXT) (k:Nat) (f:Addr) (fd:FuncData) (ps:List Str) (sp:Sp):Prop where
 len:∀ vs H Q E,sp vs H Q E->vs.length=ps.length
 run:∀ (A:Around) (outer:List Env) (s:Shared) (H:Hp) (args:Args) (us:List Value) (vs:List V) (Q:VK) (E:XK),Room k A->Env0 P w K mg base A outer s H->BindsTo s fd args (ps.zip us)->Vals vs us->sp vs H Q E ->
  codeAny (model P w) A (.call (.ref f) args) (CR CX outer P w H s Q E) s
theorem FnOk.imp {P:Program} {w:World} {K:Frag} {mg:Str->Option Value} {base:Heap} {CX:CXT} {k:Nat} {f:Addr} {fd:FuncData} {ps:List Str} {sp sp':Sp} (F:FnOk P w K mg base CX k f fd ps sp)
  (h:∀ vs H Q E,sp' vs H Q E->sp vs H Q E):FnOk P w K mg base CX k f fd ps sp':=
 ⟨fun vs H Q E q=>F.len vs H Q E (h _ _ _ _ q),fun A outer s H args us vs Q E hr he hb hv hs=>F.run A outer s H args us vs Q E hr he hb hv (h _ _ _ _ hs)⟩
section
variable {X:Cx} {pins:List (Addr×Obj)} {σ:St} {H:Hp} {s s':Shared}
theorem Inv.env0 (I:Inv X pins σ H s):Env0 X.prog X.w X.K X.mg X.base X.A X.stack s H:=
 ⟨I.ok.frames,I.ok.mod,I.bs,Nat.le_trans I.ok.bsz I.sz,I.stack,I.stkFree,I.hok,I.bare⟩
theorem Inv.after {Q:VK} {u:Value} (I:Inv X pins σ H s) (h:CE X.stack X.prog X.w H s Q u s'):EP X pins σ Q u s':=by
 obtain ⟨v,H',os,bare,un,hok,r,q⟩:=h
 obtain ⟨hh,g,d,t,os'⟩:=s'
 obtain rfl:os'=s.os:=os
 exact ⟨v,H',I.call (h':=hh) (g':=g) (d':=d) (t':=t) (ch:=[]) un hok bare (fun b z=>absurd z (by simp)),r,q⟩
end
def tCall (sp:Sp) (dvs:List V) (E:XK) (t:TA):TE:=fun σ H Q=>t σ H fun vs H1=>sp (vs++dvs) H1 Q E
def Binds (K:Frag) (fd:FuncData) (ps:List Str) (ds:List Value):Prop:=
 ∀ (s:Shared) (us:List Value),K.In s.heap->(us++ds).length=ps.length->BindsTo s fd ⟨us,[]⟩ (ps.zip (us++ds))
theorem Binds.all {K:Frag} {fd:FuncData} {ps:List Str} (h:∀ us:List Value,us.length=ps.length->bindArgs fd ⟨us,[]⟩=pure (ps.zip us)):Binds K fd ps []:=fun s us _ hl=>by
 rw [List.append_nil] at hl ⊢
 exact .of_eq (h us hl)
def Passes (CX:CXT) (X:Cx) (E:XK):Prop:=∀ (pins:List (Addr×Obj)) (σ:St) (H:Hp) (s:Shared) (e:Value) (s':Shared),Inv X pins σ H s->CX X.stack H s E e s'->X.xe e s'
section
variable {X:Cx} {CX:CXT} {k:Nat} {f C:Addr} {fd:FuncData} {ps:List Str} {sp:Sp} {dvs:List V} {ds:List Value} {E:XK} {x m:Str} {p pos apos:Pos} {e o:Expr} {es:List Expr} {ta:TE} {t:TA}
theorem run_fn {pins:List (Addr×Obj)} {σ:St} {H:Hp} {s:Shared} {Q:VK} {us:List Value} {vs:List V} (F:FnOk X.prog X.w X.K X.mg X.base CX k f fd ps sp) (hr:Room k X.A) (hb:Binds X.K fd ps ds) (hd:Vals dvs ds) (hx:Passes CX X E)
  (I:Inv X pins σ H s) (r:Vals vs us) (h:sp (vs++dvs) H Q E):wpAny (model X.prog X.w) X.A (call (.ref f) us) (EP X pins σ Q) X.xe s:=by
 have r2:Vals (vs++dvs) (us++ds):=r.append hd
 have hl:(us++ds).length=ps.length:=by rw [<- r2.length]; exact F.len _ _ _ _ h
 refine wpAny_call (codeAny_mono (F.run X.A X.stack s H ⟨us,[]⟩ (us++ds) (vs++dvs) Q E hr I.env0 (hb s us I.kIn hl) r2 h) fun r s' hq=>?_)
 cases r with
 | error e=>exact hx pins σ H s e s' I hq
 | ok fl=>
  cases fl with
  | ret u=>exact I.after hq
  | next=>exact False.elim hq
  | brk=>exact False.elim hq
  | cont=>exact False.elim hq
theorem pe_call (F:FnOk X.prog X.w X.K X.mg X.base CX k f fd ps sp) (hr:Room k X.A) (hg:Gl X x) (hm:X.mg x=some (.ref f)) (hk:PySem.W.keepIn X.K (.ref f)=true) (hb:Binds X.K fd ps ds) (hd:Vals dvs ds) (hx:Passes CX X E)
  (ha:PA X (e::es) t) (hdb:(x == ("__debug__" : Str))=false:=by decide) (he:starEach (e::es) X.env=(false,eval e X.env)::starEach es X.env:=by rfl) (hpl:(backTo pos (starEach es X.env)).any (·.1)=false:=by rfl) :
  PE X (.Call (.Name x p) (e::es) [] pos) (tCall sp dvs E t):=by
 intro pins s σ H Q I h
 refine wpAny_Call_Name_kw (ld_glob I hg hm ?_ hdb)
 refine PySem.W.callWith_K (h₀:=X.base) I.ok.mod.kin hk (thn (ha pos pins s σ H _ I h) fun us s1 ⟨vs,H1,I1,r,q⟩=>⟨I1.kIn,?_⟩) he hpl
 exact run_fn F hr hb hd hx I1 r q
end
section
variable {X:Cx} {CX:CXT} {k:Nat} {f C:Addr} {fd:FuncData} {ps ks:List Str} {sp:Sp} {E:XK} {x m:Str} {p pos apos kpos:Pos} {e o:Expr} {es:List Expr} {kws:List Keyword} {te ta:TE} {t tk:TA} {nm:Option Str}
variable {g:List Value->List Value->List Value} {gV:List V->List V->List V}
end
structure FnScope (N P:List Str) (sc:Scope):Prop where
 kind:sc.kind=.function
 co:sc.isCoroutine=false
 gen:sc.isGenerator=false
 nd:N.Nodup
 pre:N.take P.length=P
 par:∀ x∈P,sc.names.lookup x=some .local\/sc.names.lookup x=some .cell
 nofree:∀ y∈sc.names,y.2≠.free
theorem bindL_out {kindOf:Str->Option NameKind} {x:Str}:∀ {binds:List (Str×Value)} {m:Str->Option Value},(∀ v,(x,v)∉binds)->bindL kindOf binds m x=m x:=by
 intro binds
 induction binds with
 | nil=>intro m _; rfl
 | cons p r ih=>
  intro m h
  unfold bindL
  rw [ih fun w hw=>h w (List.mem_cons_of_mem _ hw)]
  split
  ·have:x≠p.1:=by rintro rfl; exact h p.2 List.mem_cons_self
   simp [this]
  ·rfl
theorem bindC_out {kindOf:Str->Option NameKind} {x:Str}:∀ {binds:List (Str×Value)} {m:Str->Option Value},(∀ v,(x,v)∉binds)->bindC kindOf binds m x=m x:=by
 intro binds
 induction binds with
 | nil=>intro m _; rfl
 | cons p r ih=>
  intro m h
  unfold bindC
  rw [ih fun w hw=>h w (List.mem_cons_of_mem _ hw)]
  split
  ·rfl
  ·have:x≠p.1:=by rintro rfl; exact h p.2 List.mem_cons_self
   simp [this]
theorem bindL_get {kindOf:Str->Option NameKind} {x:Str} {v:Value}:∀ {P:List Str} {vs:List Value} {i:Nat} {m:Str->Option Value},P.Nodup->P[i]?=some x->vs[i]?=some v->kindOf x=some .local ->
  bindL kindOf (P.zip vs) m x=some v:=by
 intro P
 induction P with
 | nil=>intro vs i m _ h _ _; cases h
 | cons p P ih=>
  intro vs i m nd h1 h2 hk
  cases vs with
  | nil=>cases h2
  | cons w vs=>
   show bindL kindOf ((p,w)::P.zip vs) m x=_
   unfold bindL
   cases i with
   | zero=>
    cases h1
    cases h2
    rw [bindL_out fun v hv=>(List.nodup_cons.mp nd).1 (List.of_mem_zip hv).1,if_pos hk]
    simp
   | succ i=>exact ih (List.nodup_cons.mp nd).2 h1 h2 hk
theorem bindC_get {kindOf:Str->Option NameKind} {x:Str} {v:Value}:∀ {P:List Str} {vs:List Value} {i:Nat} {m:Str->Option Value},P.Nodup->P[i]?=some x->vs[i]?=some v->kindOf x≠some .local ->
  bindC kindOf (P.zip vs) m x=some v:=by
 intro P
 induction P with
 | nil=>intro vs i m _ h _ _; cases h
 | cons p P ih=>
  intro vs i m nd h1 h2 hk
  cases vs with
  | nil=>cases h2
  | cons w vs=>
   show bindC kindOf ((p,w)::P.zip vs) m x=_
   unfold bindC
   cases i with
   | zero=>
    cases h1
    cases h2
    rw [bindC_out fun v hv=>(List.nodup_cons.mp nd).1 (List.of_mem_zip hv).1,if_neg hk]
    simp
   | succ i=>exact ih (List.nodup_cons.mp nd).2 h1 h2 hk
def start (N:List Str) (vs:List V):St:=vs.map some++List.replicate (N.length-vs.length) none
def cxOf (CX:CXT) (P:Program) (w:World) (K:Frag) (mg:Str->Option Value) (base:Heap) (N:List Str) (qual:Str) (scope:Scope) (f:Addr) (cd:Value) (A:Around) (outer:List Env) (s:Shared) (H:Hp) (E:XK):Cx where
 prog:=P
 w:=w
 K:=K
 mg:=mg
 base:=base
 A:=A.deeper (envOfC qual scope s.heap.objs.size f cd)
 N:=N
 s₀:=s
 H₀:=H
 env:=envOfC qual scope s.heap.objs.size f cd
 outer:=outer
 stack:=envOfC qual scope s.heap.objs.size f cd::outer
 ex:=[]
 calm:=true
 fn:=fun _=>true
 pn:=[]
 xe:=fun e s'=>wpAny (model P w) (A.deeper (envOfC qual scope s.heap.objs.size f cd)) (leaving (envOfC qual scope s.heap.objs.size f cd) e) (fun _ s''=>CX outer H s E e s'') (fun e' s''=>CX outer H s E e' s'') s'
theorem cell_has {sc:Scope} {n:Nat} {x:Str} (h:sc.names.lookup x=some .cell):∃ c,(cellsFrom n sc.names []).lookup x=some c:=by
 have q:=PySem.W.cellsFrom_some sc.names n [] (.inl h)
 exact Option.isSome_iff_exists.mp q
theorem inv_start {CX:CXT} {P:Program} {w:World} {K:Frag} {mg:Str->Option Value} {base:Heap} {N ps:List Str} {qual:Str} {scope:Scope} {f:Addr} {cd:Value} {A:Around} {outer:List Env} {s s1:Shared} {H:Hp} {E:XK} {us:List Value} {vs:List V}
  (S:FnScope N ps scope) (hd:A.handled=none) (e0:Env0 P w K mg base A outer s H) (hl:vs.length=ps.length) (r:Vals vs us)
  (x:InCallC s s.heap.objs.size (bindL (envOfC qual scope s.heap.objs.size f cd).kindOf (ps.zip us) fun _=>none) (cellsFrom (s.heap.objs.size+1) scope.names []) (bindC (envOfC qual scope s.heap.objs.size f cd).kindOf (ps.zip us) fun _=>none) s1) :
  Inv (cxOf CX P w K mg base N qual scope f cd A outer s H E) [] (start N vs) H s1:=by
 have hpl:ps.length<=N.length:=by have:=congrArg List.length S.pre; rw [List.length_take] at this; omega
 obtain ⟨h1,tk,rfl,hk⟩:=x.done
 have noA:∀ b:Addr,b∉(cxOf CX P w K mg base N qual scope f cd A outer s H E).ex:=fun b z=>absurd (show b∈([]:List Addr) from z) (by simp)
 refine ⟨⟨e0.mod,S.kind,rfl,rfl,Nat.le_refl _,fun y z c h1 h2=>?_,fun y hy=>?_,fun y c _ h=>?_,fun _=>hd,Around.frames_deeper e0.frames,.inr ⟨rfl,rfl⟩,fun b z=>absurd z (noA b),e0.bs,e0.bsz,fun b _ _=>noA b,fun b z=>absurd z (noA b),e0.funs,e0.frf⟩,
  rfl,e0.bare,Un.kept hk,⟨_,x.toInCall.ns,fun i y v h1 h2 h3=>?_⟩,fun y c h=>⟨_,x.cell y c h⟩,e0.hok.fresh (Nat.le_refl _),fun y c h=>?_,fun p hp=>absurd (show p∈([]:List (Addr×Obj)) from hp) (by simp),e0.hok.kept hk,?_⟩
 ·exact name_of_addr x.apart (PySem.mem_of_lookup h1) (PySem.mem_of_lookup h2)
 ·have hy:scope.names.lookup y=some .cell\/scope.names.lookup y=some .free:=hy
  rcases hy with hy | hy
  ·exact cell_has hy
  ·exact absurd rfl (S.nofree _ (PySem.mem_of_lookup hy))
 ·exact Nat.le_of_lt (x.above y c (PySem.mem_of_lookup h))
 ·have hi:i<vs.length:=by
   unfold start at h2
   by_cases hi:i<vs.length
   ·exact hi
   ·rw [List.getElem?_append_right (by simpa using hi)] at h2
    rw [List.getElem?_replicate] at h2
    split at h2 <;> cases h2
  have ha:vs[i]?=some v:=by
   unfold start at h2
   rw [List.getElem?_append_left (by simpa using hi),List.getElem?_map] at h2
   cases e:vs[i]? with
   | none=>rw [e] at h2; cases h2
   | some a=>rw [e] at h2; cases h2; rfl
  obtain ⟨u,hu,rv⟩:=r.get ha
  have hp:ps[i]?=some y:=by
   rw [<- S.pre,List.getElem?_take_of_lt (by omega)]; exact h1
  have ndP:ps.Nodup:=by rw [<- S.pre]; exact S.nd.sublist (List.take_sublist _ _)
  refine ⟨u,rv,?_⟩
  rcases S.par y (List.mem_of_getElem? hp) with k | k
  ·exact .inl ⟨k,bindL_get ndP hp hu k⟩
  ·obtain ⟨c,e⟩:=cell_has (n:=s.heap.objs.size+1) k
   refine .inr ⟨.inl k,c,e,?_⟩
   have q:=x.cell y c e
   rw [bindC_get ndP hp hu (by show scope.names.lookup y≠_; rw [k]; decide)] at q
   exact q
 ·exact e0.hok.fresh (Nat.le_of_lt (x.above y c (PySem.mem_of_lookup h)))
 ·unfold start
  show _=N.length
  rw [List.length_append,List.length_map,List.length_replicate]
  omega
theorem fn_of {CX:CXT} {P:Program} {w:World} {K:Frag} {mg:Str->Option Value} {base:Heap} {k:Nat} {f:Addr} {name qual:Str} {params:Arguments} {body:List Stmt} {scope:Scope} {dV kV doc pm cdv ct oc:Value} {an od:Option Addr}
  {osl:Array (Option Value)} {N ps:List Str} {sp:Sp} (lk:K.lookup f=some ⟨oc,od,.func (PySem.W.fnOf name qual params body scope dV kV doc pm an cdv ct),osl⟩) (hcd:PySem.W.codeIn K cdv qual=true) (S:FnScope N ps scope)
  (len:∀ vs H Q E,sp vs H Q E->vs.length=ps.length)
  (hbody:∀ (A:Around) (outer:List Env) (s:Shared) (H:Hp) (vs:List V) (Q:VK) (E:XK),Room k (A.deeper (envOfC qual scope s.heap.objs.size f cdv))->sp vs H Q E ->
   ∃ t,PSs (cxOf CX P w K mg base N qual scope f cdv A outer s H E) body t/\t { nx:=fun _ H'=>Q .non H',rt:=Q } (start N vs) H) :
  FnOk P w K mg base CX (k+1) f (PySem.W.fnOf name qual params body scope dV kV doc pm an cdv ct) ps sp:=by
 refine ⟨len,fun A outer s H args us vs Q E hr e0 hb r hsp=>?_⟩
 have hl:=len _ _ _ _ hsp
 have KX:K.In s.heap:=e0.mod.kin.keeps fun b o e=>(e0.bs b o e).1
 have lim:s.heap.NoLimit:=e0.mod.nolimit.keeps fun b o e=>(e0.bs b o e).1
 have hkind:∀ y∈ps.zip us,scope.names.lookup y.1=some .local\/(scope.names.lookup y.1=some .cell/\((cellsFrom (s.heap.objs.size+1) scope.names []).lookup y.1).isSome=true):=fun zz35 hy=>by
  obtain ⟨n,v⟩:=zz35
  rcases S.par n (List.of_mem_zip hy).1 with q | q
  ·exact .inl q
  ·exact .inr ⟨q,PySem.W.cellsFrom_some _ _ _ (.inl q)⟩
 refine codeAny_call_function hr.depth (KX _ _ lk) rfl S.co S.gen rfl (PySem.W.codeRec_of KX hcd) (hb _ _ _ _ ?_)
 refine wpAny_newFunctionEnv_cells S.kind hkind fun env he s1 x=>?_
 subst he
 refine ⟨lim.keeps x.toInCall.keep,codeAny_func ?_⟩
 obtain ⟨t,ht,hq⟩:=hbody A outer s H vs Q E (hr.deeper _) hsp
 have I:Inv (cxOf CX P w K mg base N qual scope f cdv A outer s H E) [] (start N vs) H s1:=inv_start S hr.hd e0 hl r x
 refine wpAny_mono (ht [] s1 (start N vs) H _ I hq) (fun fl s' hs=>?_) fun e s' hs=>hs
 have fin:∀ {σ':St} {H':Hp} {v:V} {u:Value},Inv (cxOf CX P w K mg base N qual scope f cdv A outer s H E) [] σ' H' s'->RelV v u->Q v H'->CE outer P w H s Q u s':=
  fun {σ' H' v u} J rv q=>⟨v,H',J.os,J.bare,J.base,J.hok,rv,q⟩
 cases fl with
 | ret u=>
  obtain ⟨v,σ',H',J,rv,q⟩:=hs
  exact fin J rv q
 | next=>
  obtain ⟨σ',H',J,q⟩:=hs
  exact fin (v:=V.non) (u:=Value.none) J rfl q
 | brk=>
  obtain ⟨_,_,_,q⟩:=hs
  exact False.elim q
 | cont=>
  obtain ⟨_,_,_,q⟩:=hs
  exact False.elim q
end L2
namespace L2
open PySem PySem.Spec PyProof.Rows
section
variable {X:Cx} {x:Str} {p pos:Pos} {e:Expr} {es:List Expr} {t:TA} {id T:String} {r:List V->Hp->VK->Prop}
def tCB (r:List V->Hp->VK->Prop) (t:TA):TE:=fun σ H Q=>t σ H fun vs H1=>r vs H1 Q
theorem pe_callB (hc:CallR X (.builtin id) r) (hg:Gl X x) (hm:X.mg x=none) (hv:bootBuiltins x=some (.builtin id)) (ha:PA X (e::es) t) (hn:x ≠ "__name__" := by decide) (hdb:(x == ("__debug__" : Str))=false:=by decide)
  (he:starEach (e::es) X.env=(false,eval e X.env)::starEach es X.env:=by rfl) (hpl:(backTo pos (starEach es X.env)).any (·.1)=false:=by rfl):PE X (.Call (.Name x p) (e::es) [] pos) (tCB r t):=by
 intro pins s σ H Q I h
 refine wpAny_Call_Name_kw (ld_blt I hg hm hv ?_ hn hdb)
 exact PyProof.Rows.callWith_builtin1 (thn (ha pos pins s σ H _ I h) fun us s1 zz36=>by obtain ⟨vs,H1,I1,r1,q1⟩:=zz36; exact hc pins s1 σ H1 vs us Q I1 r1 q1) he hpl
theorem pe_callTy (hc:CallR X (.type T) r) (hg:Gl X x) (hm:X.mg x=none) (hv:bootBuiltins x=some (.type T)) (ha:PA X (e::es) t) (hn:x ≠ "__name__" := by decide) (hdb:(x == ("__debug__" : Str))=false:=by decide)
  (he:starEach (e::es) X.env=(false,eval e X.env)::starEach es X.env:=by rfl) (hpl:(backTo pos (starEach es X.env)).any (·.1)=false:=by rfl):PE X (.Call (.Name x p) (e::es) [] pos) (tCB r t):=by
 intro pins s σ H Q I h
 refine wpAny_Call_Name_kw (ld_blt I hg hm hv ?_ hn hdb)
 exact PyProof.Rows.callWith_type1 (thn (ha pos pins s σ H _ I h) fun us s1 zz37=>by obtain ⟨vs,H1,I1,r1,q1⟩:=zz37; exact hc pins s1 σ H1 vs us Q I1 r1 q1) he hpl
end
end L2
namespace HT
open PySem PyProof.Rows
def lexLt:List Int->List Int->Bool
 | [],[]=>false
 | [],_::_=>true
 | _::_,[]=>false
 | x::xs,y::ys=>if x=y then lexLt xs ys else decide (x<y)
section
open PySem.SeqAt
open PySem.AutoSeq1 (wpAny_loadPart')
open PySem.MeetsSeq PySem.MeetsSeq2 PySem.MeetsSeq3
end
section
variable {prog:Program} {w:World} {A:Around} {E:Value->Shared->Prop} {s:Shared}
theorem cat_tup {t b:Addr} {vs ws:List Value} {Q:Value->Shared->Prop} (ht:IsTup s.heap t vs.toArray) (hb:IsTup s.heap b ws.toArray) (hv:vs ≠ [])
  (h1:ws = []->Q (.ref t) s) (h2:ws ≠ []->Q (.ref s.heap.objs.size) { s with heap:=s.heap.push { cls:=.type "tuple",data:=.seq (vs++ws).toArray } })
  (hsz:vs.length+ws.length<=sizeLine):wpAny (model prog w) A (binaryOp .Add (.ref t) (.ref b)) Q E s:=by
 obtain ⟨⟨cls,dd,data,sl⟩,ho,hc,n,hd⟩:=id ht
 obtain ⟨⟨cls2,dd2,data2,sl2⟩,ho2,hc2,n2,hd2⟩:=id hb
 simp only at hc hd hc2 hd2
 subst hc hd hc2 hd2
 have e:vs.toArray++ws.toArray=(vs++ws).toArray:=by simp
 by_cases hw:ws = []
 ·exact concat_meets ⟨_,ho,rfl⟩ ⟨_,ho2,rfl⟩ noFill_tuple_add seq_tuple_add PySem.F.slot_tuple_add PySem.F.entry_tuple_add (PySem.F.args_tuple_add_2 _ _)
   (tuple_addW1 t b vs.toArray ws.toArray n n2 dd dd2 sl sl2 (by simpa using hv) (by simp [hw])) ⟨ho,ho2,h1 hw⟩
 ·refine concat_meets ⟨_,ho,rfl⟩ ⟨_,ho2,rfl⟩ noFill_tuple_add seq_tuple_add PySem.F.slot_tuple_add PySem.F.entry_tuple_add (PySem.F.args_tuple_add_2 _ _)
   (tuple_addW2 t b vs.toArray ws.toArray n n2 dd dd2 sl sl2 (by simpa using hv) (by simpa using hw) (by rw [List.size_toArray,List.size_toArray]; exact hsz)) ⟨ho,ho2,?_⟩
  rw [e]
  exact h2 hw
def sIx (n d:Nat):Option Int->Nat
 | none=>d
 | some v=>if v<0 then (v+(n:Int)).toNat else min v.toNat n
theorem sIx_none (n d:Nat):sIx n d none=d:=rfl
theorem sIx_nat (n d k:Nat):sIx n d (some (k:Int))=min k n:=by
 show (if (k:Int)<0 then ((k:Int)+(n:Int)).toNat else min (k:Int).toNat n)=min k n
 rw [if_neg (by omega),Int.toNat_natCast]
theorem sIx_le (n d:Nat) (hd:d<=n) (o:Option Int):sIx n d o<=n:=by
 cases o with
 | none=>exact hd
 | some v=>
  show (if v<0 then (v+(n:Int)).toNat else min v.toNat n)<=n
  by_cases hv:v<0
  ·rw [if_pos hv]; omega
  ·rw [if_neg hv]; exact Nat.min_le_right _ _
theorem clip_eq (v:Int) (n d:Nat):(if v<0 then max (v+(n:Int)) 0 else min v (n:Int))=((sIx n d (some v):Nat):Int):=by
 show (if v<0 then max (v+(n:Int)) 0 else min v (n:Int))=(((if v<0 then (v+(n:Int)).toNat else min v.toNat n):Nat):Int)
 by_cases hv:v<0
 ·simp only [if_pos hv]; omega
 ·simp only [if_neg hv]; omega
theorem adjust_gen (lo hi:Option Int) (n:Nat):Builtin.Slice.sliceAdjust lo hi 1 (n:Int)=(((sIx n 0 lo:Nat):Int),((sIx n n hi:Nat):Int)):=by
 have h1:¬ ((1:Int)<0):=by omega
 unfold Builtin.Slice.sliceAdjust
 simp only [h1,if_false]
 refine Prod.ext ?_ ?_
 ·cases lo with
  | none=>rfl
  | some v=>exact clip_eq v n 0
 ·cases hi with
  | none=>rfl
  | some v=>exact clip_eq v n n
theorem places_gen (i j:Nat):Builtin.Slice.slicePlaces (i:Int) (j:Int) 1=j-i:=by
 unfold Builtin.Slice.slicePlaces
 have h1:(1:Int)>0:=by omega
 simp only [h1,if_true,Int.ediv_one]
 split <;> omega
theorem slicePart_ {v:Value} {o:Option Int} {Q:Option Int->Shared->Prop} (p:IsPart v o) (h:Q o s):wpAny (model prog w) A (Builtin.Slice.slicePartIndex v) Q E s:=by
 cases p with
 | none=>exact slicePart_none h
 | int i t=>exact slicePart_int h
theorem sliceApplied_gen {sl:Addr} {vl vu:Value} {lo hi:Option Int} {n:Nat} {Q:Int×Int×Nat->Shared->Prop} (hs:s.heap.IsSliceOf sl vl vu .none) (pl:IsPart vl lo) (pu:IsPart vu hi)
  (h:Q (((sIx n 0 lo:Nat):Int),1,sIx n n hi-sIx n 0 lo) s):wpAny (model prog w) A (Builtin.Slice.sliceApplied (.ref sl) (pure (n:Int))) Q E s:=by
 obtain ⟨os,hos,hcs,hds⟩:=id hs
 unfold Builtin.Slice.sliceApplied Builtin.Slice.sliceFields
 refine wpAny_bind (wpAny_bind (wpAny_field hos hds (x:=vl) rfl (wpAny_bind (wpAny_field hos hds (x:=vu) rfl (wpAny_bind (wpAny_field hos hds (x:=.none) rfl (wpAny_pure ?_)))))))
 refine wpAny_bind (slicePart_none ?_)
 show wpAny _ _ (if ((1:Int) == 0)=true then _ else _) _ _ s
 rw [if_neg (by decide)]
 refine wpAny_bind (slicePart_ pl (wpAny_bind (slicePart_ pu (wpAny_bind (wpAny_pure ?_)))))
 show wpAny _ _ (match Builtin.Slice.sliceAdjust lo hi 1 (n:Int) with | (lo,hi)=>pure (lo,(1:Int),Builtin.Slice.slicePlaces lo hi 1)) _ _ s
 rw [adjust_gen lo hi n]
 show wpAny _ _ (pure (((sIx n 0 lo:Nat):Int),(1:Int),Builtin.Slice.slicePlaces ((sIx n 0 lo:Nat):Int) ((sIx n n hi:Nat):Int) 1)) _ _ s
 rw [places_gen]
 exact wpAny_pure h
theorem pick_gen (xs:Array Value) (i k:Nat):((List.range k).filterMap fun (m:Nat)=>xs[((i:Int)+(m:Int)*1).toNat]?).toArray=((xs.toList.drop i).take k).toArray:=by
 have e:(fun (m:Nat)=>xs[((i:Int)+(m:Int)*1).toNat]?)=fun m=>xs[i+m]?:=by
  funext m
  have:((i:Int)+(m:Int)*1).toNat=i+m:=by omega
  rw [this]
 rw [e]
 have:=pick_run xs i k
 rw [List.filterMap_map] at this
 have e2:((fun x=>xs[x]?)∘fun x=>i+x)=fun m=>xs[i+m]?:=rfl
 rw [e2] at this
 rw [this]
theorem getItem_tuple_cut {t sl:Addr} {items:Array Value} {vl vu:Value} {lo hi:Option Int} {Q:Value->Shared->Prop} (ht:IsTup s.heap t items) (hs:s.heap.IsSliceOf sl vl vu .none) (pl:IsPart vl lo) (pu:IsPart vu hi)
  (hw:¬ (sIx items.size 0 lo=0/\sIx items.size items.size hi=items.size))
  (h:Q (.ref s.heap.objs.size) { s with heap:=s.heap.push { cls:=.type "tuple",data:=.seq ((items.toList.drop (sIx items.size 0 lo)).take (sIx items.size items.size hi-sIx items.size 0 lo)).toArray } })
  (hsz:items.size<=sizeLine):wpAny (model prog w) A (getItem (.ref t) (.ref sl)) Q E s:=by
 have htake:sizeOk (.seq ((items.toList.drop (sIx items.size 0 lo)).take (sIx items.size items.size hi-sIx items.size 0 lo)).toArray):=by
  show ((items.toList.drop (sIx items.size 0 lo)).take (sIx items.size items.size hi-sIx items.size 0 lo)).toArray.size<=sizeLine
  rw [List.size_toArray,List.length_take,List.length_drop,Array.length_toList]
  omega
 have hj:sIx items.size items.size hi<=items.size:=sIx_le _ _ (Nat.le_refl _) hi
 obtain ⟨os,hos,hcs,hds⟩:=id hs
 have hTs:s.TypeIs (.ref sl) "slice" := ⟨os,hos,hcs⟩
 unfold getItem
 try with_reducible refine wpAny_holding ?_
 first | refine wpAny_bind (wpAny_pure ?_) | skip
 refine wpAny_bind (wpAny_sequenceKey ht.typeIs (by decide) ?_)
 refine wpAny_bind (wpAny_callSpecial?_slot (name:=Str.ofString "__getitem__") ht.typeIs PyProof.Rows.slot_tuple_getitem
  (wpAny_call_entry PyProof.Rows.slot_tuple_getitem ht.typeIs entry_tuple_getitem ?_ (args_tuple_getitem _ _)))
 show wpAny _ _ (Builtin.Tuple.tupleItemsOf (.ref t)>>=_) _ _ s
 refine wpAny_bind (tupleItemsOf_ ht ?_)
 refine wpAny_bind (wpAny_typeOf hTs ?_)
 rw [if_pos (by decide)]
 refine wpAny_bind (sliceApplied_gen hs pl pu ?_)
 have hno:¬ ((((sIx items.size 0 lo:Nat):Int) == 0&&(1:Int) == 1&&(sIx items.size items.size hi-sIx items.size 0 lo) == items.size)=true):=by
  intro q
  rw [Bool.and_eq_true,Bool.and_eq_true] at q
  have q1:((sIx items.size 0 lo:Nat):Int)=0:=eq_of_beq q.1.1
  have q2:sIx items.size items.size hi-sIx items.size 0 lo=items.size:=eq_of_beq q.2
  exact hw ⟨by omega,by omega⟩
 show wpAny _ _ (if (((sIx items.size 0 lo:Nat):Int) == 0&&(1:Int) == 1&&(sIx items.size items.size hi-sIx items.size 0 lo) == items.size)=true then _ else _) _ _ s
 rw [if_neg hno,pick_gen]
 first
  | exact wpAny_bind (m:=Builtin.Tuple.tupleExact _) (wpAny_newObj_type (wpAny_pure ⟨_,rfl,wpAny_pure h⟩) htake)
  | exact wpAny_bind (m:=Builtin.Tuple.tupleExact _) (wpAny_newObj_type (wpAny_bind (wpAny_pure (wpAny_pure ⟨_,rfl,wpAny_pure h⟩))) htake)
  | exact wpAny_bind (wpAny_bind (m:=Builtin.Tuple.tupleExact _) (wpAny_newObj_type (wpAny_pure (wpAny_pure ⟨_,rfl,wpAny_pure h⟩)) htake))
  | exact wpAny_bind (wpAny_bind (m:=Builtin.Tuple.tupleExact _) (wpAny_newObj_type (wpAny_pure ⟨_,rfl,wpAny_pure h⟩) htake))
end
end HT
namespace L2
open PySem PySem.Spec PyProof.Rows
abbrev TO:=St->Hp->(Option Int->Hp->Prop)->Prop
def PO (X:Cx) (e:Option Expr) (t:TO):Prop:=
 ∀ (pins:List (Addr×Obj)) (s:Shared) (σ:St) (H:Hp) (Q:Option Int->Hp->Prop),Inv X pins σ H s->t σ H Q ->
  wpAny (model X.prog X.w) X.A (evalPart e X.env) (fun u s'=>∃ o H',Inv X pins σ H' s'/\IsPart u o/\Q o H') X.xe s
def tNoPart:TO:=fun _ H Q=>Q none H
def tPart (t:TE):TO:=fun σ H Q=>t σ H fun x H1=>∃ i,x=.int i/\Q (some i) H1
section
variable {X:Cx} {e:Expr} {te:TE} {lo hi:Option Expr} {tl th:TO} {pos p2:Pos}
theorem po_none:PO X none tNoPart:=by
 intro pins s σ H Q I h
 rw [evalPart_none]
 exact wpAny_pure ⟨none,H,I,.none,h⟩
theorem po_some (h:PE X e te):PO X (some e) (tPart te):=by
 intro pins s σ H Q I hw
 rw [evalPart_some]
 refine thn (h pins s σ H _ I hw) fun u s1 zz38=>?_
 obtain ⟨x,H1,I1,r1,q1⟩:=zz38
 obtain ⟨i,rfl,q⟩:=q1
 obtain ⟨t,rfl⟩:=r1
 exact ⟨some i,H1,I1,.int i t,q⟩
def SlR (X:Cx) (r:V->Option Int->Option Int->Hp->VK->Prop):Prop:=
 ∀ (pins:List (Addr×Obj)) (s:Shared) (σ:St) (H:Hp) (x:V) (v vl vu:Value) (lo hi:Option Int) (sl:Addr) (Q:VK),Inv X pins σ H s->RelV x v->s.heap.IsSliceOf sl vl vu .none->IsPart vl lo->IsPart vu hi->r x lo hi H Q ->
  ∃ T id,typeLookup (.type T) "__getitem__" = pure (some (.builtin id))/\s.TypeIs v T/\wpAny (model X.prog X.w) X.A (getItem v (.ref sl)) (EP X pins σ Q) X.xe s
theorem SlR.or {r r':V->Option Int->Option Int->Hp->VK->Prop} (h:SlR X r) (h':SlR X r'):SlR X (fun x lo hi H Q=>r x lo hi H Q\/r' x lo hi H Q):=by
 intro pins s σ H x v vl vu lo hi sl Q I rx hs pl pu q
 rcases q with q | q
 ·exact h pins s σ H x v vl vu lo hi sl Q I rx hs pl pu q
 ·exact h' pins s σ H x v vl vu lo hi sl Q I rx hs pl pu q
def tSl (r:V->Option Int->Option Int->Hp->VK->Prop) (te:TE) (tl th:TO):TE:=fun σ H Q=>te σ H fun x H1=>tl σ H1 fun l H2=>th σ H2 fun u H3=>r x l u H3 Q
theorem pe_slice {r:V->Option Int->Option Int->Hp->VK->Prop} (hr:SlR X r) (he:PE X e te) (hl:PO X lo tl) (hu:PO X hi th):PE X (.Subscript e (.Slice lo hi none p2) pos) (tSl r te tl th):=by
 intro pins s σ H Q I h
 refine Subscript_ (thn (he pins s σ H _ I h) fun v s1 zz39=>?_)
 obtain ⟨x,H1,I1,r1,q1⟩:=zz39
 refine wpAny_Slice (thn (hl pins s1 σ H1 _ I1 q1) fun vl s2 ⟨l,H2,I2,pl,q2⟩=>thn (hu pins s2 σ H2 _ I2 q2) fun vu s3 zz41=>?_)
 obtain ⟨u,H3,I3,pu,q3⟩:=zz41
 rw [evalPart_none]
 refine wpAny_pure ?_
 have I4:Inv X pins σ H3 { s3 with heap:=s3.heap.push { cls:=.type "slice",data:=.fields #[vl,vu,.none] } }:=I3.kept (t':=s3.toks) fun b ob q=>Heap.get?_push_of_some _ q
 obtain ⟨T,id,hT,ht,hg⟩:=hr pins { s3 with heap:=s3.heap.push { cls:=.type "slice",data:=.fields #[vl,vu,.none] } } σ H3 x v vl vu l u s3.heap.objs.size Q I4 r1 (Heap.IsSliceOf.new ..) pl pu q3
 show wpAny (model X.prog X.w) X.A (subscriptTail e (.Slice lo hi none p2) v (.ref s3.heap.objs.size)) (EP X pins σ Q) X.xe { s3 with heap:=s3.heap.push { cls:=.type "slice",data:=.fields #[vl,vu,.none] } }
 exact tail_any (ops:=[.ref s3.heap.objs.size,v]) ht hT hg (by with_unfolding_all rfl)
def cutV (xs:List V) (lo hi:Option Int):List V:=(xs.drop (HT.sIx xs.length 0 lo)).take (HT.sIx xs.length xs.length hi-HT.sIx xs.length 0 lo)
theorem cutV_length (xs:List V) (lo hi:Option Int):(cutV xs lo hi).length<=xs.length:=by
 unfold cutV
 rw [List.length_take,List.length_drop]
 omega
def rSlT (K:Frag):V->Option Int->Option Int->Hp->VK->Prop:=fun x lo hi H Q=>∃ a xs,x=.ref a/\SqT K H a xs /\
 ¬ (HT.sIx xs.length 0 lo=0/\HT.sIx xs.length xs.length hi=xs.length)/\∀ p,H p=none->Q (.ref p) (upd H p (.tup (cutV xs lo hi)))
theorem sl_tup:SlR X (rSlT X.K):=by
 intro pins s σ H x v vl vu lo hi sl Q I rx hs pl pu h
 obtain ⟨a,xs,rfl,hx,hw,q⟩:=h
 cases rx
 obtain ⟨its,r,ht,hz⟩:=I.tuple hx
 have hlen:its.toArray.size=xs.length:=by rw [List.size_toArray]; exact r.length.symm
 refine ⟨"tuple",_,PyProof.Rows.slot_tuple_getitem.lookup,ht.typeIs,?_⟩
 refine HT.getItem_tuple_cut ht hs pl pu (by rw [hlen]; exact hw) ?_ (by rw [hlen]; exact hz)
 rw [hlen]
 refine ⟨.ref s.heap.objs.size,_,I.laid (t':=s.toks) (o:=.tup (cutV xs lo hi)) (fun b ob q=>Heap.get?_push_of_some _ q) (Nat.le_refl _) ?_,rfl,q _ (I.hok.fresh (Nat.le_refl _))⟩
 exact ⟨Nat.le_trans (cutV_length xs lo hi) hz,_,(r.drop (HT.sIx xs.length 0 lo)).take (HT.sIx xs.length xs.length hi-HT.sIx xs.length 0 lo),IsTup.new _ _⟩
def rCatT (K:Frag):R2:=fun x y H Q=>∃ a b xs ys,x=.ref a/\y=.ref b/\SqT K H a xs/\SqT K H b ys/\xs ≠ []/\xs.length+ys.length<=sizeLine /\
 (ys = []->Q (.ref a) H)/\(ys ≠ []->∀ p,H p=none->Q (.ref p) (upd H p (.tup (xs++ys))))
theorem Vals.nil_iff {xs:List V} {us:List Value} (r:Vals xs us):us = []↔xs = []:=by
 cases r with
 | nil=>simp
 | cons _ _=>simp
theorem op_catT:OpR X (binaryOp .Add) (rCatT X.K):=by
 intro pins s σ H x y v u Q I rx ry h
 obtain ⟨a,b,xs,ys,rfl,rfl,ha,hb,hx,hz,q1,q2⟩:=h
 cases rx
 cases ry
 obtain ⟨its,r1,p1,_⟩:=I.tuple ha
 obtain ⟨its2,r2,p2,_⟩:=I.tuple hb
 refine HT.cat_tup p1 p2 (fun z=>hx (r1.nil_iff.mp z)) (fun z=>⟨.ref a,H,I,rfl,q1 (r2.nil_iff.mp z)⟩) (fun z=>?_) (by rw [<- r1.length,<- r2.length]; exact hz)
 refine ⟨.ref s.heap.objs.size,_,I.laid (t':=s.toks) (o:=.tup (xs++ys)) (fun b ob q=>Heap.get?_push_of_some _ q) (Nat.le_refl _) ?_,rfl,q2 (fun w=>z (r2.nil_iff.mpr w)) _ (I.hok.fresh (Nat.le_refl _))⟩
 exact ⟨by rw [List.length_append]; exact hz,_,r1.append r2,IsTup.new _ _⟩
end
end L2
namespace L2
open PySem PySem.Spec PyProof.Rows
def ixN (n:Nat) (i:Int):Option Nat:=if 0<=i then (if i<n then some i.toNat else none) else if -(n:Int)<=i then some (i+n).toNat else none
def atI {α:Type} (xs:List α) (i:Int):Option α:=(ixN xs.length i).bind fun j=>xs[j]?
theorem ixN_seq {n:Nat} {i:Int} {j:Nat} (h:ixN n i=some j):seqIndex? i n=some j/\j<n /\ -(n:Int)<=i/\i<n:=by
 unfold ixN at h
 by_cases h0:0<=i
 ·rw [if_pos h0] at h
  by_cases h1:i<n
  ·rw [if_pos h1] at h
   have e:i.toNat=j:=Option.some.inj h
   exact ⟨by rw [seqIndex_of h0 h1,e],by omega,by omega,h1⟩
  ·rw [if_neg h1] at h; cases h
 ·rw [if_neg h0] at h
  by_cases h1:-(n:Int)<=i
  ·rw [if_pos h1] at h
   have e:(i+n).toNat=j:=Option.some.inj h
   exact ⟨by rw [seqIndex_neg (by omega) h1,e],by omega,h1,by omega⟩
  ·rw [if_neg h1] at h; cases h
theorem atI_get {α:Type} {xs:List α} {i:Int} {v:α} (h:atI xs i=some v):∃ j,seqIndex? i xs.length=some j/\xs[j]?=some v/\j<xs.length /\ -(xs.length:Int)<=i/\i<xs.length:=by
 unfold atI at h
 cases e:ixN xs.length i with
 | none=>rw [e] at h; cases h
 | some j=>
  rw [e] at h
  obtain ⟨h1,h2,h3,h4⟩:=ixN_seq e
  exact ⟨j,h1,h,h2,h3,h4⟩
def PlainIx (b:Expr):Prop:=∀ o i,subscripted b false o i=operate [o,i] (getItem o i)
def IxR (X:Cx) (r:R2):Prop:=
 ∀ (value slice:Expr) (pins:List (Addr×Obj)) (s:Shared) (σ:St) (H:Hp) (x y:V) (v u:Value) (Q:VK),Inv X pins σ H s->RelV x v->RelV y u->r x y H Q ->
  subscripted slice false v u=operate [v,u] (getItem v u)->wpAny (model X.prog X.w) X.A (subscriptTail value slice v u) (EP X pins σ Q) X.xe s
def MtR (X:Cx) (id:String) (r:V->List V->Hp->VK->Prop):Prop:=
 ∀ (pins:List (Addr×Obj)) (s:Shared) (σ:St) (H:Hp) (x:V) (xs:List V) (v:Value) (us:List Value) (Q:VK),Inv X pins σ H s->RelV x v->Vals xs us->r x xs H Q ->
  wpAny (model X.prog X.w) X.A (call (.builtin id) (v::us)) (EP X pins σ Q) X.xe s
section
variable {X:Cx} {a b:Expr} {ta tb:TE} {pos:Pos}
theorem IxR.or {r r':R2} (h:IxR X r) (h':IxR X r'):IxR X (fun x y H Q=>r x y H Q\/r' x y H Q):=by
 intro value slice pins s σ H x y v u Q I rx ry q hs
 rcases q with q | q
 ·exact h value slice pins s σ H x y v u Q I rx ry q hs
 ·exact h' value slice pins s σ H x y v u Q I rx ry q hs
theorem pe_ix {r:R2} (hr:IxR X r) (ha:PE X a ta) (hb:PE X b tb) (hs:PlainIx b):PE X (.Subscript a b pos) (tOp r ta tb):=by
 intro pins s σ H Q I h
 exact Subscript_ (binT ha hb I h fun v u s2 x y H2 I2 rx ry q=>hr a b pins s2 σ H2 x y v u Q I2 rx ry q (hs _ _))
def rIxL (K:Frag):R2:=fun x y H Q=>∃ p xs i v,x=.ref p/\y=.int i/\SqL K H p xs/\atI xs i=some v/\Q v H
def rIxT (K:Frag):R2:=fun x y H Q=>∃ p xs i v,x=.ref p/\y=.int i/\SqT K H p xs/\atI xs i=some v/\Q v H
def rIxS:R2:=fun x y H Q=>∃ z i c,x=.str z/\y=.int i/\z.length<=sizeLine/\atI z.cps.toList i=some c/\Q (.str ⟨#[c]⟩) H
theorem ix_list:IxR X (rIxL X.K):=by
 intro value slice pins s σ H x y v u Q I rx ry h hs
 obtain ⟨p,xs,i,z,rfl,rfl,hq,he,q⟩:=h
 cases rx
 obtain ⟨t,rfl⟩:=ry
 obtain ⟨its,r,pl,hz⟩:=I.list hq
 obtain ⟨j,h1,h2,h3,h4,h5⟩:=atI_get he
 obtain ⟨w,ew,rw'⟩:=r.get h2
 have hl:=r.length
 have hn:=line63
 have fin:EP X pins σ Q w s:=⟨z,H,I,rw',q⟩
 by_cases h0:0<=i
 ·have hj:i.toNat=j:=by
   rw [seqIndex_of h0 h5] at h1
   exact Option.some.inj h1
  exact item_listR pl.isList h0 (by omega) (by rw [hj]; simpa using ew) fin hs
 ·have hj:(i+(its.toArray.size:Int)).toNat=j:=by
   rw [seqIndex_neg (by omega) h4] at h1
   rw [List.size_toArray,<- hl]
   exact Option.some.inj h1
  exact subscriptTail_builtinR (x:=w) pl.isList.typeIs slot_list_getitem.lookup
   (wpAny_getItem_list_neg (Q:=fun r s'=>r=w/\EP X pins σ Q r s') pl.isList (by omega) (by rw [List.size_toArray] <;> omega) (by omega) (by rw [hj]; simpa using ew) ⟨rfl,fin⟩) hs
theorem ix_tup:IxR X (rIxT X.K):=by
 intro value slice pins s σ H x y v u Q I rx ry h hs
 obtain ⟨p,xs,i,z,rfl,rfl,hq,he,q⟩:=h
 cases rx
 obtain ⟨t,rfl⟩:=ry
 obtain ⟨its,r,pl,hz⟩:=I.tuple hq
 obtain ⟨j,h1,h2,h3,h4,h5⟩:=atI_get he
 obtain ⟨w,ew,rw'⟩:=r.get h2
 have hl:=r.length
 have hn:=line63
 have fin:EP X pins σ Q w s:=⟨z,H,I,rw',q⟩
 exact subscriptTail_builtinR (x:=w) pl.typeIs slot_tuple_getitem.lookup
  (getItem_tuple (j:=j) (Q:=fun r s'=>r=w/\EP X pins σ Q r s') pl (by omega) (by omega) (by rw [List.size_toArray,<- hl]; exact h1) (by simpa using ew) ⟨rfl,fin⟩) hs
theorem ix_str:IxR X rIxS:=by
 intro value slice pins s σ H x y v u Q I rx ry h hs
 obtain ⟨z,i,c,rfl,rfl,hz,he,q⟩:=h
 obtain ⟨t,rfl⟩:=rx
 obtain ⟨t',rfl⟩:=ry
 obtain ⟨j,h1,h2,h3,h4,h5⟩:=atI_get he
 have hl:z.cps.toList.length=z.length:=by simp [Str.length]
 rw [hl] at h1 h4 h5
 have hn:=line63
 exact tail_any (typeIs_str s z t) slot_str_getitem.lookup (getItem_str (c:=c) (by
  have e1:decide (i < -(2^63:Int))=false:=decide_eq_false (by omega)
  have e2:decide (i≥2^63)=false:=decide_eq_false (by omega)
  rw [e1,e2,Bool.or_false]) (by rw [h1]; simpa using h2) ⟨.str ⟨#[c]⟩,H,I.tok _,⟨_,rfl⟩,q⟩) hs
def rIx (K:Frag):R2:=fun x y H Q=>rIxL K x y H Q\/rIxT K x y H Q\/rIxS x y H Q
theorem ix_seq:IxR X (rIx X.K):=ix_list.or (ix_tup.or ix_str)
theorem mapSeq_set (its:List Value) (n j:Nat) (u:Value):Obj.mapSeq (·.setIfInBounds j u) { cls:=.type "list",data:=.seq its.toArray n }={ cls:=.type "list",data:=.seq (its.set j u).toArray n }:=by
 simp [Obj.mapSeq]
theorem Inv.lst {pins:List (Addr×Obj)} {σ:St} {H:Hp} {s:Shared} {p:Addr} {xs:List V} (I:Inv X pins σ H s) (h:H p=some (.lst xs)) :
  ∃ (its:List Value) (n:Nat),Vals xs its/\s.heap.get? p=some { cls:=.type "list",data:=.seq its.toArray n }/\xs.length<=sizeLine:=by
 obtain ⟨z,its,n,r,e⟩:=I.hok p _ h
 exact ⟨its,n,r,e,z⟩
theorem Inv.lstUpd {pins:List (Addr×Obj)} {σ:St} {H:Hp} {s:Shared} {p:Addr} {xs ys:List V} {its its':List Value} {n n':Nat} {f:Obj->Obj} (I:Inv X pins σ H s) (h:H p=some (.lst xs))
  (ho:s.heap.get? p=some { cls:=.type "list",data:=.seq its.toArray n }) (hf:f { cls:=.type "list",data:=.seq its.toArray n }={ cls:=.type "list",data:=.seq its'.toArray n' }) (r:Vals ys its') (hz:ys.length<=sizeLine) (t:Nat) :
  Inv X pins σ (upd H p (.lst ys)) { s with heap:=s.heap.update p f,toks:=t }:=by
 have e:(s.heap.update p f).get? p=some { cls:=.type "list",data:=.seq its'.toArray n' }:=by
  rw [Heap.get?_update_self f ho (by rw [hf] <;> rfl),hf]
 refine I.write (x:=p) (e:=p) (by rw [h]; trivial) (.inl rfl) (fun b u hb q=>(Heap.get?_update_other _ _ (Ne.symm hb)).trans q) ⟨_,e⟩ ?_
 exact ⟨hz,its',n',r,e⟩
def rSetL:V->V->V->Hp->(Hp->Prop)->Prop:=fun o i v H Q=>∃ p xs k j,o=.ref p/\i=.int k/\H p=some (.lst xs)/\ixN xs.length k=some j/\Q (upd H p (.lst (xs.set j v)))
theorem set_list:PSet X rSetL:=by
 intro pins s σ H o i v ov iv u Q I ro ri rv h
 obtain ⟨p,xs,k,j,rfl,rfl,hp,hj,q⟩:=h
 cases ro
 obtain ⟨t,rfl⟩:=ri
 obtain ⟨its,n,r,ho,hz⟩:=I.lst hp
 obtain ⟨h1,h2,h3,h4⟩:=ixN_seq hj
 have hl:=r.length
 have hn:=line63
 have I':Inv X pins σ (upd H p (.lst (xs.set j v))) { s with heap:=s.heap.update p (Obj.mapSeq (·.setIfInBounds j u)) }:=
  I.lstUpd hp ho (mapSeq_set its n j u) (r.set rv j) (by rw [List.length_set]; exact hz) s.toks
 by_cases h0:0<=k
 ·have hk:k.toNat=j:=by
   rw [seqIndex_of h0 h4] at h1
   exact Option.some.inj h1
  exact PySem.W.ki_setAt ho h0 (by omega) (by rw [List.size_toArray,<- hl]; exact h4) (by rw [hk]; exact ⟨_,I',q⟩)
 ·have hk:(k+(its.toArray.size:Int)).toNat=j:=by
   rw [seqIndex_neg (by omega) h3] at h1
   rw [List.size_toArray,<- hl]
   exact Option.some.inj h1
  exact PySem.W.ki_setBack ho (by omega) (by rw [List.size_toArray,<- hl]; exact h3) (by omega) (by rw [hk]; exact ⟨_,I',q⟩)
theorem slice_bounds (lo hi:Option Int) (n:Nat):(sliceBounds lo hi none n).1=((HT.sIx n 0 lo:Nat):Int)/\(sliceBounds lo hi none n).2.1=((HT.sIx n n hi:Nat):Int)/\(sliceBounds lo hi none n).2.2=1:=by
 refine ⟨?_,?_,rfl⟩
 ·cases lo with
  | none=>simp [sliceBounds,HT.sIx]
  | some i=>
   simp only [sliceBounds,HT.sIx,Option.getD_none,show (1:Int)>0 by decide,if_true]
   by_cases h:i<0
   ·simp only [h,if_true] <;> omega
   ·simp only [h,if_false] <;> omega
 ·cases hi with
  | none=>simp [sliceBounds,HT.sIx]
  | some i=>
   simp only [sliceBounds,HT.sIx,Option.getD_none,show (1:Int)>0 by decide,if_true]
   by_cases h:i<0
   ·simp only [h,if_true] <;> omega
   ·simp only [h,if_false] <;> omega
theorem slicePick_cut (its:List Value) (lo hi:Option Int):slicePick its.toArray lo hi none=((its.drop (HT.sIx its.length 0 lo)).take (HT.sIx its.length its.length hi-HT.sIx its.length 0 lo)).toArray:=by
 obtain ⟨h1,h2,h3⟩:=slice_bounds lo hi its.toArray.size
 unfold slicePick
 rw [h1,h2,h3]
 simp only [sliceRange_one,pick_run,List.size_toArray] <;> rfl
def rSlL (K:Frag):V->Option Int->Option Int->Hp->VK->Prop:=fun x lo hi H Q=>∃ a xs,x=.ref a/\SqL K H a xs/\∀ p,H p=none->Q (.ref p) (upd H p (.lst (cutV xs lo hi)))
theorem sl_list:SlR X (rSlL X.K):=by
 intro pins s σ H x v vl vu lo hi sl Q I rx hs pl pu h
 obtain ⟨a,xs,rfl,hx,q⟩:=h
 cases rx
 obtain ⟨its,r,ht,hz⟩:=I.list hx
 have hlen:=r.length
 refine ⟨"list",_,slot_list_getitem.lookup,ht.isList.typeIs,?_⟩
 refine wpAny_getItem_list_slice ht.isList hs pl pu .none (by simp) ?_ (by rw [List.size_toArray] <;> omega)
 rw [slicePick_cut,<- hlen]
 refine ⟨.ref s.heap.objs.size,_,I.laid (t':=s.toks) (o:=.lst (cutV xs lo hi)) (fun b ob q=>Heap.get?_push_of_some _ q) (Nat.le_refl _) ?_,rfl,q _ (I.hok.fresh (Nat.le_refl _))⟩
 exact ⟨Nat.le_trans (cutV_length xs lo hi) hz,_,0,(r.drop (HT.sIx xs.length 0 lo)).take (HT.sIx xs.length xs.length hi-HT.sIx xs.length 0 lo),Heap.get?_push_size _ rfl⟩
theorem call_len_seq:CallR X (.builtin "len") (fun xs H Q=>∃ p ys,xs = [.ref p]/\(SqL X.K H p ys\/SqT X.K H p ys)/\Q (.int ys.length) H):=by
 intro pins s σ H xs us Q I r h
 obtain ⟨p,ys,rfl,hq,q⟩:=h
 obtain ⟨u,rfl,rx⟩:=vals1 r
 cases rx
 have hn:=line63
 rcases hq with hq | hq
 ·obtain ⟨its,r',pl,hz⟩:=I.list hq
  have hlen:=r'.length
  exact Calls.call_len_list pl.isList (by simp only [List.size_toArray] <;> omega) ⟨.int ys.length,H,I.tok _,⟨s.toks+1,by rw [List.size_toArray,hlen]⟩,q⟩
 ·obtain ⟨its,r',pl,hz⟩:=I.tuple hq
  have hlen:=r'.length
  exact len_tuple pl (by simp only [List.size_toArray] <;> omega) ⟨.int ys.length,H,I.tok _,⟨s.toks+1,by rw [List.size_toArray,hlen]⟩,q⟩
theorem call_tuple_of:CallR X (.type "tuple") (fun xs H Q=>∃ p ys,xs = [.ref p]/\((SqL X.K H p ys/\∀ l,H l=none->Q (.ref l) (upd H l (.tup ys)))\/(SqT X.K H p ys/\Q (.ref p) H))):=by
 intro pins s σ H xs us Q I r h
 obtain ⟨p,ys,rfl,h⟩:=h
 obtain ⟨u,rfl,rx⟩:=vals1 r
 cases rx
 rcases h with ⟨hq,q⟩ | ⟨hq,q⟩
 ·obtain ⟨its,r',pl,hz⟩:=I.list hq
  have hlen:=r'.length
  refine call_tuple_list pl.isList (fun h' kp=>?_) (by simp only [List.size_toArray] <;> omega)
  have I1:Inv X pins σ H { s with heap:=h' }:=I.kept (t':=s.toks) kp
  have I2:Inv X pins σ (upd H h'.objs.size (.tup ys)) { s with heap:=h'.push { cls:=.type "tuple",data:=.seq its.toArray } }:=
   I1.laid (t':=s.toks) (fun b o e=>Heap.get?_push_of_some _ e) (Nat.le_refl _) (show ObjOk X.prog X.w _ _ _ (.tup ys) from ⟨hz,its,r',IsTup.new _ _⟩)
  exact ⟨.ref h'.objs.size,_,I2,rfl,q _ (I1.hok.fresh (Nat.le_refl _))⟩
 ·obtain ⟨its,r',pl,hz⟩:=I.tuple hq
  exact call_tuple_same pl ⟨.ref p,H,I,rfl,q⟩
def tyV (K:Frag) (T:String) (x:V) (H:Hp):Prop:=match x with
 | .str _=>T = "str"
 | .int _=>T = "int"
 | .ref p=>(T = "list" /\ ∃ xs,SqL K H p xs)\/(T = "tuple" /\ ∃ o,K.lookup p=some o/\o.cls=.type "tuple" /\ o.dict=none) \/
   (T = "dict" /\ ((∃ kvs,H p=some (.dK kvs))\/∃ kvs,H p=some (.dT kvs)))\/(T = "set" /\ ∃ S n,H p=some (.set S n))
 | _=>False
theorem tyV_is {pins:List (Addr×Obj)} {σ:St} {H:Hp} {s:Shared} {T:String} {x:V} {v:Value} (I:Inv X pins σ H s) (r:RelV x v) (ty:tyV X.K T x H) :
  s.TypeIs v T/\∀ a,v=.ref a->∃ ob,s.heap.get? a=some ob/\ob.dict=none:=by
 cases x with
 | str z=>
  obtain ⟨t,rfl⟩:=r
  cases (show T = "str" from ty)
  exact ⟨typeIs_str s z t,fun _ e=>nomatch e⟩
 | int i=>
  obtain ⟨t,rfl⟩:=r
  cases (show T = "int" from ty)
  exact ⟨typeIs_int s i t,fun _ e=>nomatch e⟩
 | ref p=>
  cases r
  rcases ty with ⟨rfl,xs,hq⟩ | ⟨rfl,o,hk,hc,hd⟩ | ⟨rfl,hk⟩ | ⟨rfl,S,n,hk⟩
  ·obtain ⟨its,_,pl,_⟩:=I.list hq
   refine ⟨pl.isList.typeIs,fun a e=>?_⟩
   cases e
   obtain ⟨o,n,e,c,hd,_⟩:=pl
   exact ⟨o,e,hd⟩
  ·refine ⟨⟨o,I.kIn p o hk,hc⟩,fun a e=>?_⟩
   cases e
   exact ⟨o,I.kIn _ o hk,hd⟩
  ·have z:∃ o,s.heap.get? p=some o/\o.ExactDict:=by
    rcases hk with ⟨kvs,hk⟩ | ⟨kvs,hk⟩
    ·obtain ⟨_,_,_,_,o,_,_,e,ex,_⟩:=I.hok p _ hk
     exact ⟨o,e,ex⟩
    ·obtain ⟨_,_,_,_,o,_,_,e,ex,_⟩:=I.hok p _ hk
     exact ⟨o,e,ex⟩
   obtain ⟨o,e,ex⟩:=z
   refine ⟨⟨o,e,ex.1⟩,fun a e2=>?_⟩
   cases e2
   exact ⟨o,e,ex.2.1⟩
  ·obtain ⟨o,_,_,_,e,ex,_⟩:=I.hok p _ hk
   refine ⟨⟨o,e,ex.1⟩,fun a e2=>?_⟩
   cases e2
   exact ⟨o,e,ex.2.1⟩
 | _=>exact False.elim ty
variable {o e:Expr} {es:List Expr} {to:TE} {t:TA} {name:Str} {apos cpos:Pos} {T id:String} {r:V->List V->Hp->VK->Prop}
end
end L2
namespace L2
open PySem PySem.Spec PyProof.Rows
def MtM (X:Cx) (id:String) (r:V->List V->Hp->VK->Prop):Prop:=
 ∀ (pins:List (Addr×Obj)) (s:Shared) (σ:St) (H:Hp) (x:V) (xs:List V) (v:Value) (us:List Value) (Q:VK),Inv X pins σ H s->RelV x v->Vals xs us->r x xs H Q ->
  wpAny (model X.prog X.w) X.A (call (.builtin id) (v::us)) (EP X pins σ Q) X.xe s
theorem Vals.one:∀ {x:V} {us:List Value},Vals [x] us->∃ u,us = [u]/\RelV x u:=by
 intro x us r
 cases r with
 | cons r t=>cases t; exact ⟨_,rfl,r⟩
section
variable {X:Cx} {pins:List (Addr×Obj)} {σ:St} {H:Hp} {s:Shared} {l b:Addr} {xs ys zs:List V}
theorem Inv.lset {its its':List Value} {n:Nat} {f:Array Value->Array Value} {t':Nat} (I:Inv X pins σ H s) (hH:H l=some (.lst xs))
  (e:s.heap.get? l=some { cls:=.type "list",data:=.seq its.toArray n }) (hf:f its.toArray=its'.toArray) (hv:Vals ys its') (hz:ys.length<=sizeLine) :
  Inv X pins σ (upd H l (.lst ys)) { s with heap:=s.heap.update l (Obj.mapSeq f),toks:=t' }:=by
 have q:=PySem.IsL.update e f
 rw [hf] at q
 refine I.write (x:=l) (e:=l) (by rw [hH]; exact trivial) (.inl rfl) (fun b' u hb hu=>(Heap.get?_update_other s.heap (Obj.mapSeq f) (Ne.symm hb)).trans hu) ⟨_,q⟩ ?_
 exact ⟨hz,its',_,hv,q⟩
theorem Inv.lnew {its:List Value} {t':Nat} (I:Inv X pins σ H s) (hv:Vals ys its) (hz:ys.length<=sizeLine) :
  Inv X pins σ (upd H s.heap.objs.size (.lst ys)) { s with heap:=s.heap.push { cls:=.type "list",data:=.seq its.toArray },toks:=t' }:=
 I.laid (fun _ _ q=>Heap.get?_push_of_some _ q) (Nat.le_refl _) ⟨hz,its,0,hv,Heap.get?_push_size _ rfl⟩
theorem Inv.fresh (I:Inv X pins σ H s):H s.heap.objs.size=none:=I.hok.fresh (Nat.le_refl _)
theorem Inv.lstM (I:Inv X pins σ H s) (hH:H l=some (.lst xs)):xs.length<=sizeLine/\∃ (its:List Value) (n:Nat),Vals xs its/\xs.length=its.length/\s.heap.get? l=some { cls:=.type "list",data:=.seq its.toArray n }:=by
 obtain ⟨z,its,n,r,e⟩:=I.hok l _ hH
 exact ⟨z,its,n,r,r.length,e⟩
end
section
variable {X:Cx}
def rAppend:V->List V->Hp->VK->Prop:=fun x vs H Q=>∃ l xs y,x=.ref l/\vs = [y]/\H l=some (.lst xs)/\xs.length<sizeLine/\Q .non (upd H l (.lst (xs ++ [y])))
theorem mt_append:MtM X "list.append" rAppend:=by
 intro pins s σ H x vs v us Q I rx rv h
 obtain ⟨l,xs,y,rfl,rfl,hH,hz,q⟩:=h
 cases rx
 obtain ⟨u,rfl,ru⟩:=rv.one
 obtain ⟨z,its,n,r,hl,e⟩:=I.lstM hH
 refine call_meets F.slot_list_append ⟨_,e,rfl⟩ F.entry_list_append (F.args_list_append_2 _ _) (PySem.list_append l its.toArray n u (by rw [List.size_toArray]; omega)) ⟨e,?_⟩
 refine ⟨.non,_,I.lset (its':=its ++ [u]) hH e (by simp) (r.append (.cons ru .nil)) ?_,rfl,q⟩
 rw [List.length_append,List.length_singleton]
 omega
def rCat:R2:=fun x y H Q=>∃ l b xs zs,x=.ref l/\y=.ref b/\H l=some (.lst xs)/\H b=some (.lst zs)/\xs.length+zs.length<=sizeLine/\∀ p,H p=none->Q (.ref p) (upd H p (.lst (xs++zs)))
theorem op_cat:OpR X (binaryOp .Add) rCat:=by
 intro pins s σ H x y v u Q I rx ry h
 obtain ⟨l,b,xs,zs,rfl,rfl,hH,hB,hz,q⟩:=h
 cases rx
 cases ry
 obtain ⟨z,its,n,r,hl,e⟩:=I.lstM hH
 obtain ⟨z2,its2,n2,r2,hl2,e2⟩:=I.lstM hB
 refine PySem.P.add_list e e2 ?_ (by rw [List.size_toArray,List.size_toArray]; omega)
 have ea:its.toArray++its2.toArray=(its++its2).toArray:=by simp
 rw [ea]
 exact ⟨.ref _,_,I.lnew (t':=s.toks) (r.append r2) (by rw [List.length_append]; omega),rfl,q _ I.fresh⟩
end
section
variable {prog:Program} {w:World} {A:Around} {E:Value->Shared->Prop} {s:Shared}
end
section
variable {X:Cx}
end
end L2
namespace Att
open PySem PySem.W PySem.Calls PyProof.Rows
theorem ints_of_wellAll {P:Params} {h:Heap}:∀ (ns:List Int) (vs:List Value),WellAll P h vs (ns.map WData.int)->IntsAre vs ns:=by
 intro ns
 induction ns with
 | nil=>
  intro vs w
  rw [List.map_nil] at w
  cases w
  exact .nil
 | cons n ns ih=>
  intro vs w
  rw [List.map_cons] at w
  cases w with
  | cons a b=>
   cases a
   exact .cons _ _ (ih _ b)
theorem script_of {l:OpenLaw} {n:Nat} (hn:l.most=some n) {P:Params} {h:Heap} {args:List WData} {vals:List Value}
  (hpre:l.row.toRowW.claim.pre args=true) (hwl:WellAll P h vals args) :
  ∃ a vs ns,vals = [Value.ref a]/\args = [WData.list (ns.map WData.int)]/\h.get? a=some { cls:=.type "list",data:=.seq vs.toArray }/\IntsAre vs ns/\ns.length<=n:=by
 have hsh:WShape.hasAll [] args [.list .int]=true:=(pre_splitW hpre).1
 have hc:l.pre.holds [] { args:=args }=true:=(pre_splitW hpre).2
 obtain ⟨d,r,rfl,h1,h2⟩:=hasAllW_cons hsh
 obtain rfl:=hasAllW_nil h2
 obtain ⟨xs,rfl,h3⟩:=hasW_list h1
 obtain ⟨ns,rfl⟩:=items_int h3
 have hlen:ns.length<=n:=by
  unfold OpenLaw.pre at hc
  have h4:(WTm.not (.lt (.lit (.int (n:Int))) (.len (.arg 0)))).holds [] { args:=[.list (ns.map .int)] }=true:=by
   have h4:=(holds_andW hc).1
   rw [hn] at h4
   exact h4
  have h5:=condW_of h4 (w_not (w_lt w_lit (w_len_list (w_arg rfl))))
  rw [List.length_map] at h5
  refine Nat.le_of_not_lt fun q=>?_
  have q':(n:Int)<((ns.length:Nat):Int):=by omega
  first
   | (rw [decide_eq_true q'] at h5; exact absurd h5 (by decide))
   | (simp at h5; omega)
 cases hwl with
 | cons w1 w2=>
  cases w2
  cases w1 with
  | list ho hall=>exact ⟨_,_,ns,rfl,rfl,ho,ints_of_wellAll ns _ hall,hlen⟩
theorem post_true (l:OpenLaw) (args:List WData):l.row.toRowW.claim.post args (.bool true) args=true:=
 postW_of (r:=l.row.toRowW) (X:=(true == true))
  (show WShape.has [] (.bool true) .bool=true by first | rfl | decide | simp [WShape.has,WShape.arms,WShape.armsAll])
  (show (WTm.eq .res (.lit (.bool true))).value [] { args:=args,res:=some (.bool true),after:=args }=some (.bool (true == true)) from w_eq_bool (w_res rfl) w_lit) rfl
section
variable {prog:Program} {w:World} {A:Around} {E:Value->Shared->Prop} {s:Shared} {K:Frag}
end
end Att
namespace L2
open PySem PySem.Spec PyProof.Rows
theorem vals_ints:∀ {vs:List Value} {ns:List Int},IntsAre vs ns->Vals (ns.map V.int) vs:=by
 intro vs ns h
 induction h with
 | nil=>exact .nil
 | cons n t h ih=>exact .cons ⟨t,rfl⟩ ih
def Only (H:Hp):Prop:=∀ b,H b=none\/∃ o xs,H b=some (.frz o (.lst xs))
theorem law_call {P:Program} {w:World} {K:Frag} {mg mb:Str->Option Value} {CX:CXT} {k:Nat} {fa a:Addr} {fd:FuncData} {x:Str} {sp:Sp} {s₁:Shared} {vs:List Value} {ns:List Int}
  (KX:K.In s₁.heap) (hns:s₁.heap.Ns mainGlobals mg) (hb:s₁.heap.Ns builtinsNs mb) (hbb:∀ x:Str,x ≠ "__name__" -> mb x=bootBuiltins x) (hlim:s₁.heap.NoLimit) (hg:s₁.gens=#[])
  (ha:s₁.heap.get? a=some { cls:=.type "list",data:=.seq vs.toArray }) (hi:IntsAre vs ns) (hl:ns.length<=sizeLine) (hr:Room k callerA)
  (F:∀ base:Heap,K.In base->base.Ns mainGlobals mg->FnOk P w K mg base CX k fa fd [x] sp) (hbind:∀ (s:Shared) (u:Value),BindsTo s fd ⟨[u],[]⟩ [(x,u)])
  (hsp:∀ H:Hp,Only H->SqL K H a (ns.map V.int)->sp [.ref a] H (fun v _=>v=.bl true) fun _ _ _=>False)
  (hCX:∀ H e s',CX [] H s₁ (fun _ _ _=>False) e s'->False) :
  codeAny (model P w) callerA (.call (.ref fa) ⟨[.ref a],[]⟩) (fun r s'=>r=.ok (.ret (.bool true))/\OldK s₁.heap s'.heap/\s'.os=s₁.os/\AllBare s'.gens) s₁:=by
 have rv:=vals_ints hi
 have lenV:=hi.length
 -- from an abstract heap in which nothing but the script may be tracked
 have core:∀ H:Hp,Only H->SqL K H a (ns.map V.int)->HOk P w H s₁.heap->(∀ b,H b≠none->b=a)->(H a≠none->K.lookup a=none) ->
   codeAny (model P w) callerA (.call (.ref fa) ⟨[.ref a],[]⟩) (fun r s'=>r=.ok (.ret (.bool true))/\OldK s₁.heap s'.heap/\s'.os=s₁.os/\AllBare s'.gens) s₁:=by
  intro H hO hS hok hA hK
  have base_of:∀ {b:Addr} {o:Obj},s₁.heap.get? b=some o->H b=none->(hidT s₁.heap H).get? b=some o:=fun e n=>hidT_get e n
  have noA:∀ {b:Addr} {o:Obj} {es:Array DictEntry} {ep:Nat},s₁.heap.get? b=some o->o.data=.dict es ep->H b=none:=fun {b o es ep} e d=>by
   cases q:H b with
   | none=>rfl
   | some u=>
    have e':b=a:=hA b (by rw [q]; simp)
    subst e'
    rw [ha] at e; cases e
    have d':Data.seq vs.toArray _=Data.dict es ep:=d
    cases d'
  have nsK:∀ {b:Addr} {m:Str->Option Value},s₁.heap.Ns b m->(hidT s₁.heap H).Ns b m:=fun {b m} zz42=>by obtain ⟨o,es,ep,e,d,r⟩:=zz42; exact ⟨o,es,ep,base_of e (noA e d),d,r⟩
  have hKb:K.In (hidT s₁.heap H):=fun b o e=>base_of (KX b o e) (by
   cases q:H b with
   | none=>rfl
   | some u=>
    have e':b=a:=hA b (by rw [q]; simp)
    subst e'
    rw [hK (by rw [q]; simp)] at e; cases e)
  have hM:Mod K mg (hidT s₁.heap H):=⟨hKb,nsK hns,⟨mb,nsK hb,hbb⟩,let ⟨mc,h1,h2⟩:=hlim; ⟨mc,nsK h1,h2⟩⟩
  have e0:Env0 P w K mg (hidT s₁.heap H) callerA [] s₁ H:=⟨rfl,hM,fun b o e=>of_hidT e,Nat.le_of_eq (hidT_size _ _),trivial,fun b hb=>absurd (show b∈([]:List Addr) from hb) (by simp),hok,.of_eq hg⟩
  refine codeAny_mono ((F _ hKb (nsK hns)).run callerA [] s₁ H ⟨[.ref a],[]⟩ [.ref a] [.ref a] _ _ hr e0 (hbind s₁ (.ref a)) (.cons rfl .nil) (hsp H hO hS)) fun r s' h=>?_
  cases r with
  | error e=>exact (hCX H e s' h).elim
  | ok fl=>
   cases fl with
   | next=>exact False.elim h
   | brk=>exact False.elim h
   | cont=>exact False.elim h
   | ret u=>
    obtain ⟨v,H',os,bare,un,hok',r',q⟩:=h
    have q':v=.bl true:=q
    subst q'
    obtain rfl:u=Value.bool true:=r'
    refine ⟨rfl,OldK.of_keep fun b o e=>?_,os,bare⟩
    cases q:H b with
    | none=>exact un.keep b o e q (by intro z; exact absurd (show b∈([]:List Addr) from z) (by simp)) (by simp)
    | some u=>
     rcases hO b with z | ⟨ob,xs,z⟩
     ·rw [q] at z; cases z
     ·have z2:=un.frzs b ob _ z
      obtain ⟨e1,_⟩:=hok b _ z
      obtain ⟨e2,_⟩:=hok' b _ z2
      rw [e] at e1; cases e1
      exact e2
 cases hk:K.lookup a with
 | some o=>
  -- the script is one of the module's own objects
  have e:=KX a o hk
  rw [ha] at e
  cases e
  refine core (fun _=>none) (fun _=>.inl rfl) (.inr ⟨_,vs.toArray,_,hk,rfl,rfl,rfl,by rw [List.size_toArray,lenV]; exact hl,by simpa using rv⟩) (fun b u z=>by have z':(none:Option HO)=some u:=z; cases z') (fun b z=>absurd rfl z) fun z=>absurd rfl z
 | none=>
  refine core (fun b=>if b=a then some (.frz { cls:=.type "list",data:=.seq vs.toArray } (.lst (ns.map V.int))) else none) (fun b=>?_) (.inl (.inr ⟨{ cls:=.type "list",data:=.seq vs.toArray },if_pos rfl⟩)) (fun b u z=>?_) (fun b z=>?_) fun _=>hk
  ·by_cases hb:b=a
   ·exact .inr ⟨_,_,if_pos hb⟩
   ·exact .inl (if_neg hb)
  ·by_cases hb:b=a
   ·have z':=(if_pos hb).symm.trans z
    cases z'
    subst hb
    exact ⟨ha,by rw [List.length_map]; exact hl,vs,_,rv,ha⟩
   ·have z':=(if_neg hb).symm.trans z
    cases z'
  ·by_cases hb:b=a
   ·exact hb
   ·exact absurd (if_neg hb) z
end L2
namespace L2
open PySem PySem.Spec PyProof.Rows
end L2
namespace L2
open PySem PySem.Spec PyProof.Rows
def defArgs (s:Stmt):Arguments:=match s with
 | .FunctionDef _ a _ _ _ _ _ _ _ _=>a
 | _=>{ posonlyargs:=[],args:=[],vararg:=none,kwonlyargs:=[],kw_defaults:=[],kwarg:=none,defaults:=[] }
def defBody (s:Stmt):List Stmt:=match s with
 | .FunctionDef _ _ b _ _ _ _ _ _ _=>b
 | _=>[]
def defScope (s:Stmt):Scope:=match s with
 | .FunctionDef _ _ _ _ _ _ sc _ _ _=>sc
 | _=>{ kind:=.function,names:=[],isGenerator:=false,isCoroutine:=false }
abbrev CX0:CXT:=fun _ _ _ _ _ _=>False
abbrev E0:XK:=fun _ _ _=>False
theorem pass0 {X:Cx}:Passes CX0 X E0:=fun _ _ _ _ _ _ _ h=>h.elim
structure Fun (K:Frag) (x qual:Str) (st:Stmt) (f:Addr) (fd:FuncData):Prop where
 ex:∃ (oc:Value) (od:Option Addr) (kV doc pm:Value) (an:Option Addr) (cdv ct:Value) (osl:Array (Option Value)),
  fd=PySem.W.fnOf x qual (defArgs st) (defBody st) (defScope st) .none kV doc pm an cdv ct/\K.lookup f=some ⟨oc,od,.func fd,osl⟩/\PySem.W.codeIn K cdv qual=true
 kp:PySem.W.keepIn K (.ref f)=true
section
variable {P:Program} {w:World} {K:Frag} {mg:Str->Option Value} {base:Heap}
theorem Fun.ok {x qual:Str} {st:Stmt} {f:Addr} {fd:FuncData} {N ps:List Str} {k:Nat} {sp:Sp} (F:Fun K x qual st f fd) (S:FnScope N ps (defScope st)) (len:∀ vs H Q E,sp vs H Q E->vs.length=ps.length)
  (hbody:∀ (cdv:Value) (A:Around) (outer:List Env) (s:Shared) (H:Hp) (vs:List V) (Q:VK) (E:XK),Room k (A.deeper (envOfC qual (defScope st) s.heap.objs.size f cdv))->sp vs H Q E ->
   ∃ t,PSs (cxOf CX0 P w K mg base N qual (defScope st) f cdv A outer s H E).nox (defBody st) t/\t { nx:=fun _ H'=>Q .non H',rt:=Q } (start N vs) H):FnOk P w K mg base CX0 (k+1) f fd ps sp:=by
 obtain ⟨oc,od,kV,doc,pm,an,cdv,ct,osl,rfl,lk,hcd⟩:=F.ex
 refine fn_of lk hcd S len fun A outer s H vs Q E hr hsp=>?_
 obtain ⟨t,h,q⟩:=hbody cdv A outer s H vs Q E hr hsp
 exact ⟨t,h.nox,q⟩
theorem Fun.binds {x qual:Str} {st:Stmt} {f:Addr} {fd:FuncData} {ps:List Str} (F:Fun K x qual st f fd)
  (h:∀ (kV doc pm:Value) (an:Option Addr) (cdv ct:Value) (us:List Value),us.length=ps.length->bindArgs (PySem.W.fnOf x qual (defArgs st) (defBody st) (defScope st) .none kV doc pm an cdv ct) ⟨us,[]⟩=pure (ps.zip us)):Binds K fd ps []:=by
 obtain ⟨oc,od,kV,doc,pm,an,cdv,ct,osl,rfl,lk,hcd⟩:=F.ex
 exact .all (h kV doc pm an cdv ct)
theorem fun_mk {x qual:Str} {st:Stmt} {f:Addr} {oc:Value} {od an:Option Addr} {osl:Array (Option Value)} {kV doc pm cdv ct:Value} (l:K.lookup f=some ⟨oc,od,.func (PySem.W.fnOf x qual (defArgs st) (defBody st) (defScope st) .none kV doc pm an cdv ct),osl⟩)
  (c:PySem.W.codeIn K cdv qual=true) (k:PySem.W.keepIn K (.ref f)=true):Fun K x qual st f (PySem.W.fnOf x qual (defArgs st) (defBody st) (defScope st) .none kV doc pm an cdv ct):=⟨⟨oc,od,kV,doc,pm,an,cdv,ct,osl,rfl,l,c⟩,k⟩
end
section
variable {X:Cx}
theorem pv (i:Nat) {x:Str} {pos:Pos} (hN:X.N[i]?=some x:=by rfl) (hv:Vis X.env.scope x:=by first | exact Or.inl rfl | exact Or.inr (Or.inl rfl) | exact Or.inr (Or.inr rfl)) (hd:(x == ("__debug__" : Str))=false:=by decide)
  (hcd:(x == ("__classdict__" : Str))=false:=by decide):PE X (.Name x pos) (tVar i):=pe_var hN hv hd hcd
end
def Same (H H':Hp):Prop:=∀ b o,H b=some o->H' b=some o
theorem Same.refl (H:Hp):Same H H:=fun _ _ h=>h
theorem Same.trans {H H1 H2:Hp} (a:Same H H1) (b:Same H1 H2):Same H H2:=fun c o h=>b c o (a c o h)
theorem Same.free {H H':Hp} (e:Same H H') {l:Addr} (h:H' l=Option.none):H l=Option.none:=by
 cases q:H l with
 | none=>rfl
 | some o=>
  rw [e l o q] at h
  cases h
theorem Same.seq {K:Frag} {H H':Hp} {a:Addr} {xs:List V} (e:Same H H') (h:SqL K H a xs):SqL K H' a xs:=by
 rcases h with (h | ⟨o,h⟩) | h
 ·exact .inl (.inl (e _ _ h))
 ·exact .inl (.inr ⟨o,e _ _ h⟩)
 ·exact .inr h
end L2
namespace L2
open PySem PySem.Spec PyProof.Rows
def Dk (h h':Heap):Prop:=∀ b o,h.get? b=some o->∃ o',h'.get? b=some o'/\o'.cls=o.cls/\o'.dict=o.dict
structure KD {α:Type} (t:Sem α):Prop where
 out:∀ (M:Model) (Γ:PySem.Ctx) (P:α->Pos->Shared->Prop) (Ee:Value->Pos->Shared->Prop) (p:Pos) (s:Shared),
  Sem.wp M Γ t P Ee p s->Sem.wp M Γ t (fun a p' s'=>P a p' s'/\Dk s.heap s'.heap) Ee p s
def cut (h:Heap) (fs:List Addr):Heap:={ h with objs:=h.objs.mapIdx fun i o=>if i∈fs then { o with data:=.freed } else o }
section
variable {P:Program} {w:World} {K:Frag} {mg:Str->Option Value} {base:Heap} {N:List Str} {qual:Str} {scope:Scope} {f:Addr} {cd:Value} {A:Around} {outer:List Env} {s:Shared} {H:Hp} {E:XK}
 {pins:List (Addr×Obj)} {σ:St} {H':Hp} {s2:Shared} {a:Addr}
end
end L2
namespace L2
open PySem PySem.Spec PyProof.Rows
section
variable {prog:Program} {w:World} {A:Around} {E:Value->Shared->Prop} {s:Shared} {K:Frag} {x C:Addr} {ox:Obj} {od:Option Obj} {name:Str} {tk:Tok} {fill expr:Bool} {v:Value} {Q:Value->Shared->Prop}
end
end L2
namespace L2
open PySem PySem.Spec PyProof.Rows
section
variable {prog:Program} {w:World} {A:Around} {E:Value->Shared->Prop} {s:Shared} {K:Frag} {x C:Addr} {ox:Obj} {name:Str} {tk:Tok} {v:Value} {Q:Unit->Shared->Prop}
end
end L2
namespace L2
open PySem PySem.Spec PyProof.Rows
section
variable {prog:Program} {w:World} {A:Around} {s:Shared} {K:Frag} {C f:Addr} {R:Result->Shared->Prop} {nm q:Str} {N:Addr} {bs bm bmB:List Value} {hdct:Bool} {sn:List Str} {sub:List Value} {ab:Bool} {col:Option Bool} {dd:Option Addr} {k0 k1 k2 k3 k5:Option Value}
 {B Bn newId nid initId inN:String} {bmN:List Value} {rest:List Value}
end
end L2
namespace L2
open PySem PySem.Spec PyProof.Rows
section
variable {prog:Program} {w:World} {A:Around} {E:Value->Shared->Prop} {s:Shared} {K:Frag} {env:Env} {x:Expr} {pos:Pos} {Q:Flow->Shared->Prop}
end
end L2
namespace L2
open PySem PySem.Spec PyProof.Rows
section
variable {X:Cx} {pins:List (Addr×Obj)} {σ σ':St} {H:Hp} {s:Shared}
end
end L2
namespace L2
open PySem PySem.Spec PyProof.Rows
section
variable {X:Cx} {pins:List (Addr×Obj)} {σ:St} {H H':Hp} {s s1:Shared}
end
end L2
namespace L2
open PySem PySem.Spec PyProof.Rows
section
variable {X:Cx} {pins:List (Addr×Obj)} {σ:St} {H H':Hp} {s s1:Shared} {a:Addr} {B:Heap} {cls:Value} {od:Option Addr}
structure Here (X:Cx) (pins:List (Addr×Obj)) (σ:St) (H':Hp) (a:Addr) (B:Heap) (cls:Value) (od:Option Addr) (s:Shared):Prop where
 inv:Inv X pins σ H' s
 dict:∃ o,s.heap.get? a=some o/\o.dict=od
end
end L2
namespace L2
open PySem PySem.Spec PyProof.Rows
section
variable {X:Cx} {k:Nat} {f:Addr} {fd:FuncData} {ps:List Str} {sp:Sp} {fn cn n y:Str} {fp cp ap np hpos yp pos:Pos} {e:Expr} {es:List Expr} {t:TA} {C:Addr} {i jn:Nat} {b0:Stmt} {suite:List Stmt} {tb:TS}
def tCatch (X:Cx) (C:Addr) (jn:Nat) (tb:TS) (D:Ends) (σ:St):XK:=fun cls od H'=>∃ Dc,cls=.ref Dc/\PySem.W.exmOne X.K (.ref Dc) (.ref C)=some true /\
 ∀ (a:Addr) (o:Obj),H' a=none->o.cls=cls->o.dict=od->(∃ vs:Array Value,o.data=.fields vs) ->
  tb { nx:=fun σ' H'=>D.nx (σ'.set jn none) H',rt:=D.rt,bk:=fun σ' H'=>D.bk (σ'.set jn none) H',ct:=fun σ' H'=>D.ct (σ'.set jn none) H' } (σ.set jn (some (.ref a))) (upd H' a (.ext fun h=>h.get? a=some o))
end
end L2
namespace L2
open PySem PySem.Spec PyProof.Rows
section
variable {X:Cx} {pins:List (Addr×Obj)} {σ:St} {H:Hp} {s:Shared}
end
end L2
namespace L2
open PySem PySem.Spec PyProof.Rows
section
variable {X:Cx}
end
end L2
namespace L2
open PySem PySem.Spec PyProof.Rows
section
variable {X:Cx} {pins:List (Addr×Obj)} {σ:St} {H:Hp} {s:Shared}
end
end L2
namespace L2
open PySem PySem.Spec PyProof.Rows
section
variable {P:Program} {w:World} {K:Frag} {mg:Str->Option Value} {base:Heap} {N:List Str} {qual:Str} {scope:Scope} {f0:Addr} {cd:Value} {A:Around} {outer:List Env} {s0:Shared} {H0:Hp} {E:XK}
 {k:Nat} {C f:Addr} {fd:FuncData} {ps:List Str} {sp:Sp} {cn:Str} {np cp pos:Pos} {e:Expr} {es:List Expr} {t:TA}
end
end L2
namespace L2
open PySem PySem.Spec PyProof.Rows
section
variable {P:Program} {w:World} {K:Frag} {mg:Str->Option Value} {base:Heap} {k:Nat} {f:Addr} {fd:FuncData} {ps N:List Str} {sp:Sp} {CX:CXT}
end
end L2
namespace L2
open PySem PySem.Spec PyProof.Rows
section
variable {X:Cx} {o:Expr} {ta:TE} {name:Str} {pos:Pos}
end
end L2
namespace L2
open PySem PySem.Spec PyProof.Rows
section
variable {X:Cx} {pins:List (Addr×Obj)} {σ:St} {H:Hp} {s:Shared} {A:Around} {E:Value->Shared->Prop} {Q:Value->Shared->Prop} {c:Value} {b:Bool} {a C:Addr} {ox:Obj} {vs:Array Value}
end
end L2
namespace L2
open PySem PySem.Spec PyProof.Rows
section
variable {P:Program} {w:World} {K:Frag} {mg:Str->Option Value} {base:Heap} {N:List Str} {qual:Str} {scope:Scope} {f0:Addr} {cd:Value} {A:Around} {outer:List Env} {s0:Shared} {H0:Hp} {E:XK}
 {C:Addr} {cn:Str} {np cp pos:Pos} {e:Expr} {es:List Expr} {t:TA}
end
end L2
namespace L2
open PySem
structure Nx {α:Type} (t:Sem α):Prop where
 out:∀ (M:Model) (Γ:PySem.Ctx) (P:α->Pos->Shared->Prop) (Ee Ef:Value->Pos->Shared->Prop) (p:Pos) (s:Shared),Sem.wp M Γ t P Ee p s->Sem.wp M Γ t P Ef p s
structure Po {α:Type} (t:Sem α) (pre:Shared->Prop) (post:α->Shared->Prop):Prop where
 out:∀ (M:Model) (Γ:PySem.Ctx) (P:α->Pos->Shared->Prop) (Ee Ef:Value->Pos->Shared->Prop) (p:Pos) (s:Shared),
  pre s->Sem.wp M Γ t P Ee p s->Sem.wp M Γ t (fun a p' s'=>P a p' s'/\post a s') Ef p s
def FldAt (v:Value) (i:Nat) (x:Value) (h:Heap):Prop:=∃ (a:Addr) (o:Obj) (vs:Array Value),v=.ref a/\h.get? a=some o/\o.data=.fields vs/\vs[i]?=some x
def Marked (e:Value) (f:Addr) (h:Heap):Prop:=∃ t,FldAt e 1 t h/\FldAt t 3 (rawInt f) h/\t≠.none
structure Free {α:Type} (t:Sem α):Prop where
 out:∀ (M:Model) (Γ Γ':PySem.Ctx) (P P':α->Pos->Shared->Prop) (E E':Value->Pos->Shared->Prop) (p p':Pos) (s:Shared),(∀ a p p' s,P a p s->P' a p' s)->(∀ a p p' s,E a p s->E' a p' s)->Sem.wp M Γ t P E p s->Sem.wp M Γ' t P' E' p' s
end L2
namespace L2
open PySem PySem.Spec PyProof.Rows
section
variable {X:Cx} {k:Nat} {f:Addr} {fd:FuncData} {ps:List Str} {sp:Sp} {fn cn n y:Str} {fp cp ap np hpos yp pos:Pos} {e:Expr} {es:List Expr} {t:TA} {C:Addr} {i jn:Nat} {b0:Stmt} {suite:List Stmt} {tb:TS}
end
end L2
namespace L2
open PySem PySem.Spec PyProof.Rows
section
variable {X:Cx} {k:Nat} {C f:Addr} {fd:FuncData} {ps:List Str} {sp:Sp} {cn:Str} {np cp pos:Pos} {e:Expr} {es:List Expr} {t:TA}
end
end L2
namespace L2
open PySem PySem.Spec PyProof.Rows
section
variable {κ:Type} [DecidableEq κ]
def valV (kvs:List (κ×V)) (k:κ):Option V:=(kvs.find? fun kv=>decide (kv.1=k)).map (·.2)
def putK (kvs:List (κ×V)) (k:κ) (v:V):List (κ×V):=
 if (kvs.any fun kv=>decide (kv.1=k))=true then kvs.map (fun kv=>if kv.1=k then (kv.1,v) else kv) else kvs ++ [(k,v)]
def dropK (kvs:List (κ×V)) (k:κ):List (κ×V):=kvs.filter fun kv=>decide (kv.1≠k)
end
abbrev KT (H:Hp):List (List Key×V)->List (List Key×Addr×Value)->Prop:=Paired fun p q=>p.1=q.1/\H q.2.1=some (.tup (p.1.map kV))/\RelV p.2 q.2.2
section
variable {P:Program} {w:World} {H:Hp} {h:Heap} {a:Addr}
end
def DGet (H:Hp) (a:Addr) (y:V) (r:Option V):Prop:=
 (∃ kvs k,Rd H a (.dK kvs)/\y=kV k/\r=valV kvs k)\/∃ kvs k b,Rd H a (.dT kvs)/\y=.ref b/\H b=some (.tup (k.map kV))/\r=valV kvs k
def DPut (H:Hp) (a:Addr) (y v:V) (H':Hp):Prop:=
 (∃ kvs k,H a=some (.dK kvs)/\y=kV k/\kvs.length<sizeLine/\H'=upd H a (.dK (putK kvs k v))) \/
 ∃ kvs k b,H a=some (.dT kvs)/\y=.ref b/\H b=some (.tup (k.map kV))/\kvs.length<sizeLine/\H'=upd H a (.dT (putK kvs k v))
section
variable {X:Cx} {pins:List (Addr×Obj)} {σ:St} {H:Hp} {s:Shared} {a:Addr} {y v:V} {u r:Value} {o:Option V} {A:Around} {E:Value->Shared->Prop}
end
section
variable {X:Cx} {pins:List (Addr×Obj)} {σ:St} {H:Hp} {s:Shared} {a:Addr} {kvs:List (Key×V)} {k:Key} {u:Value} {A:Around} {E:Value->Shared->Prop}
end
section
variable {X:Cx} {o i e value:Expr} {pos pos' tpos:Pos} {td ty tv:TE}
end
section
variable {X:Cx} {pos:Pos}
end
end L2
namespace L2
open PySem
structure Sub where
 t:Bool
 i:Addr
 l:Addr
def Sub.At (u:Sub) (h:Heap) (n:Nat):Prop:=if u.t=true then h.IsTupleIter u.i u.l n else h.IsListIter u.i u.l n
def Sub.Src (u:Sub) (h:Heap) (xs:Array Value):Prop:=if u.t=true then h.IsTuple u.l xs else h.IsList u.l xs
theorem Sub.At.obj {u:Sub} {h:Heap} {n:Nat} (x:u.At h n):∃ o,h.get? u.i=some o/\o.data=.fields #[.ref u.l,.int n 0]:=by
 unfold Sub.At at x
 split at x <;> (obtain ⟨o,e,_,d⟩:=x; exact ⟨o,e,d⟩)
theorem Sub.At.keep {u:Sub} {h h':Heap} {n:Nat} (x:u.At h n) (k:∀ o,h.get? u.i=some o->h'.get? u.i=some o):u.At h' n:=by
 unfold Sub.At at x ⊢
 split at x <;> (rename_i ht; obtain ⟨o,e,r⟩:=x; simp only [ht,if_true,if_false,Bool.false_eq_true]; exact ⟨o,k o e,r⟩)
theorem Sub.Src.keep {u:Sub} {h h':Heap} {xs:Array Value} (x:u.Src h xs) (k:∀ o,h.get? u.l=some o->h'.get? u.l=some o):u.Src h' xs:=by
 unfold Sub.Src at x ⊢
 split at x <;> (rename_i ht; obtain ⟨o,e,r⟩:=x; simp only [ht,if_true,if_false,Bool.false_eq_true]; exact ⟨o,k o e,r⟩)
section
variable {prog:Program} {w:World} {A:Around} {E:Value->Shared->Prop} {s:Shared}
theorem nextOf_tup_item {it t:Addr} {i:Nat} {items:Array Value} {x:Value} {Q:Value->Shared->Prop} (hit:s.heap.IsTupleIter it t i) (ht:s.heap.IsTuple t items) (hx:items[i]?=some x)
  (hQ:∀ h',h'.IsTupleIter it t (i+1)->Heap.SameBut it s.heap h'->Q x { s with heap:=h' }):wpAny (model prog w) A (Builtin.SmallTypes.nextOf (.ref it)) Q E s:=by
 obtain ⟨o,ho,hc,hd⟩:=id hit; obtain ⟨ol,hol,_,nl,hdl⟩:=ht; unfold Builtin.SmallTypes.nextOf
 refine wpAny_bind (wpAny_callSpecial?_slot (name:=Str.ofString "__next__") hit.typeIs F.slot_tuple_iterator_next (wpAny_call_entry F.slot_tuple_iterator_next hit.typeIs F.entry_tuple_iterator_next ?_ (F.args_tuple_iterator_next_1 _)))
 show wpAny _ _ (field (.ref it) 0>>=_) _ _ s; refine wpAny_bind (wpAny_field ho hd (x:=.ref t) rfl ?_)
 show wpAny _ _ (if (Value.ref t == Value.none)=true then _ else _) _ _ s; rw [if_neg (show ¬ ((Value.ref t == Value.none)=true) from Bool.false_ne_true)]
 show wpAny _ _ (field (.ref it) 1>>=_) _ _ s; refine wpAny_bind (wpAny_field ho hd (x:=.int i 0) rfl ?_)
 show wpAny _ _ (seqItems? (.ref t)>>=_) _ _ s; refine wpAny_bind (wpAny_seqItems hol hdl ?_); simp only [Int.toNat_natCast,hx]
 refine wpAny_bind (wpAny_setField ho hd (by simp) (wpAny_pure ⟨x,rfl,wpAny_pure (hQ _ ?_ (Heap.SameBut.update ..))⟩)); exact ⟨_,Heap.get?_update_self _ ho (Obj.isFreed_of_fields (Obj.data_mapFields hd _)),(Obj.cls_mapFields ..).trans hc,by rw [Obj.data_mapFields hd]; simp [rawInt]⟩
theorem nextOf_tup_end {it t:Addr} {i:Nat} {items:Array Value} {Q:Value->Shared->Prop} (hh:A.handled=none) (hit:s.heap.IsTupleIter it t i) (ht:s.heap.IsTuple t items) (hx:items[i]?=none)
  (hE:∀ h' e,Heap.ExtBut it s.heap h'->(∃ o,h'.get? e=some o/\o.cls=.type "StopIteration")->E (.ref e) { s with heap:=h' }):wpAny (model prog w) A (Builtin.SmallTypes.nextOf (.ref it)) Q E s:=by
 obtain ⟨o,ho,hc,hd⟩:=id hit; obtain ⟨ol,hol,_,nl,hdl⟩:=ht; unfold Builtin.SmallTypes.nextOf
 refine wpAny_bind (wpAny_callSpecial?_slot (name:=Str.ofString "__next__") hit.typeIs F.slot_tuple_iterator_next (wpAny_call_entry F.slot_tuple_iterator_next hit.typeIs F.entry_tuple_iterator_next ?_ (F.args_tuple_iterator_next_1 _)))
 show wpAny _ _ (field (.ref it) 0>>=_) _ _ s; refine wpAny_bind (wpAny_field ho hd (x:=.ref t) rfl ?_)
 show wpAny _ _ (if (Value.ref t == Value.none)=true then _ else _) _ _ s; rw [if_neg (show ¬ ((Value.ref t == Value.none)=true) from Bool.false_ne_true)]
 show wpAny _ _ (field (.ref it) 1>>=_) _ _ s; refine wpAny_bind (wpAny_field ho hd (x:=.int i 0) rfl ?_)
 show wpAny _ _ (seqItems? (.ref t)>>=_) _ _ s; refine wpAny_bind (wpAny_seqItems hol hdl ?_); simp only [Int.toNat_natCast,hx]
 refine wpAny_bind (wpAny_rule (wpAny_bind (wpAny_setField ho hd (by simp) ?_))); show wpAny _ _ (newExc (.type "StopIteration") []>>=_) _ _ _
 refine wpAny_bind ?_; simp only [newExc,newTuple]; refine wpAny_bind (wpAny_newObj_type ?_ (by size_fits))
 refine wpAny_bind (m:=firstArgMember _ _) (wpAny_of_eq (a:=Value.none) (by first | rfl | (simp only [firstArgMember]; rfl)) ?_); refine wpAny_newObj_type ?_ (by size_fits); simp only [raiseNew]
 refine wpAny_bind (wpAny_handled ?_); first | rw [show A.in1.handled=none from hh] | rw [hh]
 refine wpAny_bind (wpAny_pure (wpAny_throw ?_)); exact hE _ _ (((Heap.SameBut.update ..).extBut.push _).push _) ⟨_,Heap.get?_push_size _ rfl,rfl⟩
theorem Sub.item {u:Sub} {n:Nat} {xs:Array Value} {x:Value} {Q:Value->Shared->Prop} (ha:u.At s.heap n) (hs:u.Src s.heap xs) (hx:xs[n]?=some x)
  (hQ:∀ h',u.At h' (n+1)->Heap.SameBut u.i s.heap h'->Q x { s with heap:=h' }):wpAny (model prog w) A (Builtin.SmallTypes.nextOf (.ref u.i)) Q E s:=by
 unfold Sub.At at ha hQ; unfold Sub.Src at hs
 cases ht:u.t with
 | true=>simp only [ht,if_true] at ha hs hQ; exact nextOf_tup_item ha hs hx hQ
 | false=>simp only [ht,if_false,Bool.false_eq_true] at ha hs hQ; exact wpAny_nextOf_list_item ha hs hx hQ
theorem Sub.ends {u:Sub} {n:Nat} {xs:Array Value} {Q:Value->Shared->Prop} (hh:A.handled=none) (ha:u.At s.heap n) (hs:u.Src s.heap xs) (hx:xs[n]?=none)
  (hE:∀ h' e,Heap.ExtBut u.i s.heap h'->(∃ o,h'.get? e=some o/\o.cls=.type "StopIteration")->E (.ref e) { s with heap:=h' }):wpAny (model prog w) A (Builtin.SmallTypes.nextOf (.ref u.i)) Q E s:=by
 unfold Sub.At at ha; unfold Sub.Src at hs
 cases ht:u.t with
 | true=>simp only [ht,if_true] at ha hs; exact nextOf_tup_end hh ha hs hx hE
 | false=>simp only [ht,if_false,Bool.false_eq_true] at ha hs; exact wpAny_nextOf_list_end hh ha hs hx hE
abbrev TupO (h:Heap) (T:Addr) (arr:Array Value):Prop:=h.get? T=some { cls:=.type "tuple",data:=.seq arr }
def drawn (n:Nat):List (Sub×Array Value)->Nat->Array Value->Array Value
 | [],_,arr=>arr
 | u::r,c,arr=>drawn n r (c+1) (arr.setIfInBounds c (u.2.getD n .none))
def DrawB (prog:Program) (w:World) (A:Around) (z TO:Addr) (E:Value->Shared->Prop) (B:Value×Nat->Option Fin×Unit->Sem (ForInStep (Option Fin×Unit))):Prop:=
 ∀ (v:Value) (k:Nat) (s:Shared) (Q:ForInStep (Option Fin×Unit)->Shared->Prop),
  wpAny (model prog w) A (Builtin.SmallTypes.nextOf v) (fun x s1=>∃ arr,TupO s1.heap TO arr/\arr.size<=sizeLine/\∀ h',TupO h' TO (arr.setIfInBounds k x)->Heap.SameBut TO s1.heap h'->Q (.yield (none,())) { s1 with heap:=h' })
   (fun e s1=>wpAny (model prog w) A (setField (.ref z) 0 .none) (fun _ s2=>E e s2) E s1) s->wpAny (model prog w) A (B (v,k) (none,())) Q E s
structure Apart (z TO:Addr) (ss:List (Sub×Array Value)):Prop where
 zTO:z≠TO
 zi:∀ u∈ss,u.1.i≠z
 ti:∀ u∈ss,u.1.i≠TO
 nd:ss.Pairwise fun u v=>u.1.i≠v.1.i
 lz:∀ u∈ss,u.1.l≠z
 lt:∀ u∈ss,u.1.l≠TO
 li:∀ u∈ss,∀ v∈ss,u.1.l≠v.1.i
theorem Apart.tail {z TO:Addr} {u:Sub×Array Value} {ss:List (Sub×Array Value)} (D:Apart z TO (u::ss)):Apart z TO ss:=
 ⟨D.zTO,fun v hv=>D.zi v (List.mem_cons_of_mem _ hv),fun v hv=>D.ti v (List.mem_cons_of_mem _ hv),(List.pairwise_cons.mp D.nd).2,fun v hv=>D.lz v (List.mem_cons_of_mem _ hv),fun v hv=>D.lt v (List.mem_cons_of_mem _ hv),
  fun v hv x hx=>D.li v (List.mem_cons_of_mem _ hv) x (List.mem_cons_of_mem _ hx)⟩
theorem draws {z TI TO:Addr} {n:Nat} {B:Value×Nat->Option Fin×Unit->Sem (ForInStep (Option Fin×Unit))} (hB:DrawB prog w A z TO E B) :
  ∀ (ss:List (Sub×Array Value)) (c:Nat) (arr:Array Value) (s:Shared) (Q:Option Fin×Unit->Shared->Prop),Apart z TO ss->IsZip s.heap z TI TO .ellipsis->TupO s.heap TO arr->arr.size<=sizeLine ->
   (∀ u∈ss,u.1.At s.heap n/\u.1.Src s.heap u.2/\∃ x,u.2[n]?=some x) ->
   (∀ h',IsZip h' z TI TO .ellipsis->TupO h' TO (drawn n ss c arr)->(∀ u∈ss,u.1.At h' (n+1))->h'.objs.size=s.heap.objs.size ->
    (∀ b o,b≠TO->(∀ u∈ss,b≠u.1.i)->s.heap.get? b=some o->h'.get? b=some o)->Q (none,()) { s with heap:=h' }) ->
   wpAny (model prog w) A (forIn ((ss.map fun u=>Value.ref u.1.i).zipIdx c) (none,()) B) Q E s:=by
 intro ss
 induction ss with
 | nil=>
  intro c arr s Q D hz hT hl hu hQ
  simp only [List.map_nil,List.zipIdx_nil,List.forIn_nil]
  exact wpAny_pure (hQ s.heap hz hT (fun _ h=>absurd h List.not_mem_nil) rfl fun _ _ _ _ e=>e)
 | cons u r ih=>
  intro c arr s Q D hz hT hl hu hQ
  simp only [List.map_cons,List.zipIdx_cons,List.forIn_cons]
  obtain ⟨ha,hsrc,x,hx⟩:=hu u List.mem_cons_self
  refine wpAny_bind (hB _ _ _ _ (Sub.item ha hsrc hx fun h1 ha1 sb1=>⟨arr,sb1.extBut _ _ (D.ti u List.mem_cons_self).symm hT,hl,fun h2 hT2 sb2=>?_⟩))
  have uz:=D.zi u List.mem_cons_self
  have ut:=D.ti u List.mem_cons_self
  have kp:∀ b o,b≠TO->b≠u.1.i->s.heap.get? b=some o->h2.get? b=some o:=fun b o h1 h2 e=>sb2.extBut _ _ h1 (sb1.extBut _ _ h2 e)
  have hui:∀ v∈r,v.1.i≠u.1.i:=fun v hv=>((List.pairwise_cons.mp D.nd).1 v hv).symm
  refine ih (c+1) (arr.setIfInBounds c x) { s with heap:=h2 } Q D.tail (kp _ _ D.zTO uz.symm hz) hT2 (by simpa using hl) (fun v hv=>?_) fun h3 z3 T3 a3 s3 k3=>?_
  ·obtain ⟨a,b,y⟩:=hu v (List.mem_cons_of_mem _ hv)
   exact ⟨a.keep fun o e=>kp _ o (D.ti v (List.mem_cons_of_mem _ hv)) (hui v hv) e,b.keep fun o e=>kp _ o (D.lt v (List.mem_cons_of_mem _ hv)) (D.li v (List.mem_cons_of_mem _ hv) u List.mem_cons_self) e,y⟩
  ·refine hQ h3 z3 ?_ (fun v hv=>?_) (by rw [s3]; show h2.objs.size=_; rw [sb2.1,sb1.1]) fun b o h1 h2 e=>k3 b o h1 (fun v hv=>h2 v (List.mem_cons_of_mem _ hv)) (kp b o h1 (h2 u List.mem_cons_self) e)
   ·have e:u.2.getD n .none=x:=by simp [Array.getD_eq_getD_getElem?,hx]
    show TupO h3 TO (drawn n r (c+1) (arr.setIfInBounds c (u.2.getD n .none)))
    rw [e]; exact T3
   ·rcases List.mem_cons.mp hv with rfl | hv
    ·exact ha1.keep fun o e=>k3 _ o ut (fun v' hv'=>(hui v' hv').symm) (sb2.extBut _ _ ut e)
    ·exact a3 v hv
theorem draws_end {z TI TO:Addr} {n:Nat} {B:Value×Nat->Option Fin×Unit->Sem (ForInStep (Option Fin×Unit))} (hh:A.handled=none) (hB:DrawB prog w A z TO E B) :
  ∀ (ss:List (Sub×Array Value)) (c:Nat) (arr:Array Value) (s:Shared) (Q:Option Fin×Unit->Shared->Prop),Apart z TO ss->IsZip s.heap z TI TO .ellipsis->TupO s.heap TO arr->arr.size<=sizeLine ->
   (∀ u∈ss,u.1.At s.heap n/\u.1.Src s.heap u.2)->(∃ u∈ss,u.2[n]?=none) ->
   (∀ h' e,(∀ b o,b≠z->b≠TO->(∀ u∈ss,b≠u.1.i)->s.heap.get? b=some o->h'.get? b=some o)->(∃ o,h'.get? e=some o/\o.cls=.type "StopIteration")->E (.ref e) { s with heap:=h' }) ->
   wpAny (model prog w) A (forIn ((ss.map fun u=>Value.ref u.1.i).zipIdx c) (none,()) B) Q E s:=by
 intro ss
 induction ss with
 | nil=>
  intro c arr s Q D hz hT hl hu hx hQ
  obtain ⟨_,h,_⟩:=hx
  exact absurd h List.not_mem_nil
 | cons u r ih=>
  intro c arr s Q D hz hT hl hu hx hQ
  simp only [List.map_cons,List.zipIdx_cons,List.forIn_cons]
  obtain ⟨ha,hsrc⟩:=hu u List.mem_cons_self
  have uz:=D.zi u List.mem_cons_self
  have ut:=D.ti u List.mem_cons_self
  cases hu0:u.2[n]? with
  | none=>
   refine wpAny_bind (hB _ _ _ _ (Sub.ends hh ha hsrc hu0 fun h1 e eb he=>?_))
   obtain ⟨oe,hoe,hce⟩:=he
   have hz1:IsZip h1 z TI TO .ellipsis:=eb _ _ uz.symm hz
   have hez:e≠z:=fun x=>by subst x; rw [hz1] at hoe; cases hoe; simp at hce
   exact wpAny_setField_rec hz1 (by simp) fun h3 _ sb3=>hQ h3 e (fun b o b1 b2 b3 q=>sb3.extBut _ _ b1 (eb _ _ (b3 u List.mem_cons_self) q)) ⟨oe,sb3.extBut _ _ hez hoe,hce⟩
  | some x=>
   refine wpAny_bind (hB _ _ _ _ (Sub.item ha hsrc hu0 fun h1 ha1 sb1=>⟨arr,sb1.extBut _ _ ut.symm hT,hl,fun h2 hT2 sb2=>?_⟩))
   have kp:∀ b o,b≠TO->b≠u.1.i->s.heap.get? b=some o->h2.get? b=some o:=fun b o h1 h2 e=>sb2.extBut _ _ h1 (sb1.extBut _ _ h2 e)
   have hui:∀ v∈r,v.1.i≠u.1.i:=fun v hv=>((List.pairwise_cons.mp D.nd).1 v hv).symm
   refine ih (c+1) (arr.setIfInBounds c x) { s with heap:=h2 } Q D.tail (kp _ _ D.zTO uz.symm hz) hT2 (by simpa using hl) (fun v hv=>?_) ?_ fun h3 e k3 he=>?_
   ·obtain ⟨a,b⟩:=hu v (List.mem_cons_of_mem _ hv)
    exact ⟨a.keep fun o e=>kp _ o (D.ti v (List.mem_cons_of_mem _ hv)) (hui v hv) e,b.keep fun o e=>kp _ o (D.lt v (List.mem_cons_of_mem _ hv)) (D.li v (List.mem_cons_of_mem _ hv) u List.mem_cons_self) e⟩
   ·obtain ⟨v,hv,e⟩:=hx
    rcases List.mem_cons.mp hv with rfl | hv
    ·rw [hu0] at e; cases e
    ·exact ⟨v,hv,e⟩
   ·exact hQ h3 e (fun b o b1 b2 b3 q=>k3 b o b1 b2 (fun v hv=>b3 v (List.mem_cons_of_mem _ hv)) (kp b o b2 (b3 u List.mem_cons_self) q)) he
theorem drawn_size (n:Nat):∀ (ss:List (Sub×Array Value)) (c:Nat) (arr:Array Value),(drawn n ss c arr).size=arr.size:=by
 intro ss
 induction ss with
 | nil=>intro c arr; rfl
 | cons u r ih=>intro c arr; unfold drawn; rw [ih]; simp
theorem drawn_get (n:Nat):∀ (ss:List (Sub×Array Value)) (c:Nat) (arr:Array Value),c+ss.length=arr.size->(drawn n ss c arr).toList=arr.toList.take c++ss.map fun u=>u.2.getD n .none:=by
 intro ss
 induction ss with
 | nil=>
  intro c arr h
  unfold drawn
  simp at h; subst h
  rw [List.map_nil,List.append_nil]
  exact (List.take_of_length_le (by simp)).symm
 | cons u r ih=>
  intro c arr h
  unfold drawn
  have hc:c<arr.size:=by simp at h; omega
  rw [ih (c+1) _ (by simp at h ⊢; omega)]
  rw [List.map_cons,Array.toList_setIfInBounds]
  have:(arr.toList.set c (u.2.getD n Value.none)).take (c+1)=arr.toList.take c ++ [u.2.getD n Value.none]:=by
   rw [List.take_add_one,List.take_set,List.getElem?_set_self (by simpa using hc)]
   rw [List.set_eq_of_length_le (by simp; omega)]; rfl
  rw [this,List.append_assoc]; rfl
theorem zip_item {z TI TO:Addr} {n:Nat} {ss:List (Sub×Array Value)} {arr:Array Value} {Q:Option Value->Shared->Prop} (D:Apart z TO ss) (hne:ss ≠ []) (hsz:arr.size=ss.length) (hline:ss.length<=sizeLine)
  (hz:IsZip s.heap z TI TO .none) (hTI:TupO s.heap TI (ss.map fun u=>Value.ref u.1.i).toArray) (hTO:TupO s.heap TO arr) (hu:∀ u∈ss,u.1.At s.heap n/\u.1.Src s.heap u.2/\∃ x,u.2[n]?=some x)
  (hQ:∀ h',IsZip h' z TI TO (rawInt s.heap.objs.size)->(∃ arr',TupO h' TO arr'/\arr'.size=ss.length)->(∀ u∈ss,u.1.At h' (n+1))->TupO h' s.heap.objs.size (ss.map fun u=>u.2.getD n .none).toArray ->
   (∀ b o,b≠z->b≠TO->(∀ u∈ss,b≠u.1.i)->s.heap.get? b=some o->h'.get? b=some o)->Q (some (.ref s.heap.objs.size)) { s with heap:=h' }) :
  wpAny (model prog w) A (pyNext (.ref z)) Q E s:=by
 have hT:s.TypeIs (.ref z) "zip" := ⟨_,hz,rfl⟩
 unfold pyNext
 refine wpAny_bind (wpAny_attempt (wpAny_callSpecial?_slot (name:=Str.ofString "__next__") hT F.slot_zip_next (wpAny_call_entry F.slot_zip_next hT F.entry_zip_next ?_ (F.args_zip_next_1 _))))
 show wpAny _ _ (field (.ref z) 2>>=_) _ _ _; refine wpAny_bind (wpAny_field hz rfl (x:=.bool false) rfl ?_)
 show wpAny _ _ (field (.ref z) 3>>=_) _ _ _; refine wpAny_bind (wpAny_field hz rfl (x:=.ref TI) rfl ?_); refine wpAny_bind (wpAny_seqItems hTI rfl ?_)
 have e1:(ss.map fun u=>Value.ref u.1.i).toArray.isEmpty=false:=by cases ss <;> simp_all
 simp only [e1]
 refine wpAny_bind ?_; unfold Builtin.SmallTypes.ownedTupleIsFree; refine wpAny_bind (wpAny_field hz rfl (x:=.none) rfl (wpAny_pure ?_)); simp only [if_true]
 refine wpAny_bind (wpAny_rule ?_); refine wpAny_bind (wpAny_field hz rfl (x:=.ref TO) rfl ?_)
 refine wpAny_bind (wpAny_setField_rec hz (by simp) fun h1 z1 sb1=>?_); replace z1:IsZip h1 z TI TO .ellipsis:=z1
 refine wpAny_bind (draws (TI:=TI) (n:=n) (z:=z) (TO:=TO) ?_ ss 0 arr _ _ D z1 (sb1.extBut _ _ D.zTO.symm hTO) (by omega) (fun u hm=>?_) fun h2 z2 T2 a2 s2 k2=>?_)
 ·intro v k s Q h
  refine wpAny_bind (wpAny_onRaise ?_)
  show wpAny _ _ (Builtin.SmallTypes.nextOf v>>=_) _ _ _
  refine wpAny_bind (wpAny_mono h (fun x s1 ⟨arr,hT1,hl,hq⟩=>wpAny_pure ?_) fun e s1 he=>he)
  refine wpAny_bind (wpAny_seqItems hT1 rfl ?_)
  refine wpAny_bind (wpAny_updateSeq hT1 rfl ?_ hl (by rw [Array.size_setIfInBounds]; omega))
  refine wpAny_bind (wpAny_letGo (wpAny_pure (hq _ ?_ (Heap.SameBut.update ..))))
  show Heap.get? _ _=_
  rw [Heap.get?_update_self _ hT1 rfl]; simp [Obj.mapSeq]
 ·obtain ⟨a,b,x⟩:=hu u hm
  exact ⟨a.keep fun o e=>sb1.extBut _ _ (D.zi u hm) e,b.keep fun o e=>sb1.extBut _ _ (D.lz u hm) e,x⟩
 ·have ed:(drawn n ss 0 arr).toList=ss.map fun u=>u.2.getD n .none:=by rw [drawn_get n ss 0 arr (by omega)]; simp
  refine wpAny_bind (wpAny_seqItems T2 rfl ?_)
  have hs2:h2.objs.size=s.heap.objs.size:=by rw [s2]; exact sb1.1
  have hlz:z<h2.objs.size:=Heap.lt_size z2
  refine wpAny_bind (wpAny_newTuple (wpAny_bind ?_) (by rw [ed,List.length_map]; exact hline))
  unfold Builtin.SmallTypes.ownedTupleHandOut
  have z3:IsZip (h2.push { cls:=.type "tuple",data:=.seq (drawn n ss 0 arr).toList.toArray }) z TI TO .ellipsis:=Heap.get?_push_of_some _ z2
  refine wpAny_bind (wpAny_setField_rec z3 (by simp) fun h4 z4 sb4=>?_); replace z4:IsZip h4 z TI TO (rawInt h2.objs.size):=z4
  refine wpAny_setField_rec z4 (by simp) fun h5 z5 sb5=>?_; replace z5:IsZip h5 z TI TO (rawInt h2.objs.size):=z5
  have up:∀ b o,b≠z->h2.get? b=some o->h5.get? b=some o:=fun b o hb e=>sb5.extBut _ _ hb (sb4.extBut _ _ hb (Heap.get?_push_of_some _ e))
  have T5:TupO h5 h2.objs.size (drawn n ss 0 arr).toList.toArray:=sb5.extBut _ _ (Nat.ne_of_gt hlz) (sb4.extBut _ _ (Nat.ne_of_gt hlz) (Heap.get?_push_size _ rfl))
  rw [ed] at T5
  rw [hs2] at z5 T5
  refine wpAny_pure ⟨_,rfl,wpAny_pure ?_⟩
  show Q (some (.ref h2.objs.size)) _
  rw [hs2]
  exact hQ h5 z5 ⟨_,up _ _ D.zTO.symm T2,by rw [drawn_size,hsz]⟩ (fun u hm=>(a2 u hm).keep fun o e=>up _ o (D.zi u hm) e) T5 fun b o b1 b2 b3 e=>up b o b1 (k2 b o b2 b3 (sb1.extBut _ _ b1 e))
theorem zip_stop {z TI TO:Addr} {n:Nat} {ss:List (Sub×Array Value)} {arr:Array Value} {Q:Option Value->Shared->Prop} (hh:A.handled=none) (D:Apart z TO ss) (hsz:arr.size=ss.length) (hline:ss.length<=sizeLine)
  (hz:IsZip s.heap z TI TO .none) (hTI:TupO s.heap TI (ss.map fun u=>Value.ref u.1.i).toArray) (hTO:TupO s.heap TO arr) (hu:∀ u∈ss,u.1.At s.heap n/\u.1.Src s.heap u.2) (hx:∃ u∈ss,u.2[n]?=none)
  (hQ:∀ h',(∀ b o,b≠z->b≠TO->(∀ u∈ss,b≠u.1.i)->s.heap.get? b=some o->h'.get? b=some o)->Q none { s with heap:=h' }) :
  wpAny (model prog w) A (pyNext (.ref z)) Q E s:=by
 have hT:s.TypeIs (.ref z) "zip" := ⟨_,hz,rfl⟩
 unfold pyNext
 refine wpAny_bind (wpAny_attempt (wpAny_callSpecial?_slot (name:=Str.ofString "__next__") hT F.slot_zip_next (wpAny_call_entry F.slot_zip_next hT F.entry_zip_next ?_ (F.args_zip_next_1 _))))
 show wpAny _ _ (field (.ref z) 2>>=_) _ _ _; refine wpAny_bind (wpAny_field hz rfl (x:=.bool false) rfl ?_)
 show wpAny _ _ (field (.ref z) 3>>=_) _ _ _; refine wpAny_bind (wpAny_field hz rfl (x:=.ref TI) rfl ?_); refine wpAny_bind (wpAny_seqItems hTI rfl ?_)
 have e1:(ss.map fun u=>Value.ref u.1.i).toArray.isEmpty=false:=by
  obtain ⟨u,hm,_⟩:=hx
  cases ss with
  | nil=>exact nomatch hm
  | cons a b=>simp
 simp only [e1]
 refine wpAny_bind ?_; unfold Builtin.SmallTypes.ownedTupleIsFree; refine wpAny_bind (wpAny_field hz rfl (x:=.none) rfl (wpAny_pure ?_)); simp only [if_true]
 refine wpAny_bind (wpAny_rule ?_); refine wpAny_bind (wpAny_field hz rfl (x:=.ref TO) rfl ?_)
 refine wpAny_bind (wpAny_setField_rec hz (by simp) fun h1 z1 sb1=>?_); replace z1:IsZip h1 z TI TO .ellipsis:=z1
 refine wpAny_bind (draws_end (A:=A.in1) (TI:=TI) (n:=n) (z:=z) (TO:=TO) (show A.in1.handled=none from hh) ?_ ss 0 arr _ _ D z1 (sb1.extBut _ _ D.zTO.symm hTO) (by omega) (fun u hm=>?_) hx fun h2 e k2 he=>?_)
 ·intro v k s Q h
  refine wpAny_bind (wpAny_onRaise ?_)
  show wpAny _ _ (Builtin.SmallTypes.nextOf v>>=_) _ _ _
  refine wpAny_bind (wpAny_mono h (fun x s1 ⟨arr,hT1,hl,hq⟩=>wpAny_pure ?_) fun e s1 he=>he)
  refine wpAny_bind (wpAny_seqItems hT1 rfl ?_)
  refine wpAny_bind (wpAny_updateSeq hT1 rfl ?_ hl (by rw [Array.size_setIfInBounds]; omega))
  refine wpAny_bind (wpAny_letGo (wpAny_pure (hq _ ?_ (Heap.SameBut.update ..))))
  show Heap.get? _ _=_
  rw [Heap.get?_update_self _ hT1 rfl]; simp [Obj.mapSeq]
 ·obtain ⟨a,b⟩:=hu u hm
  exact ⟨a.keep fun o e=>sb1.extBut _ _ (D.zi u hm) e,b.keep fun o e=>sb1.extBut _ _ (D.lz u hm) e⟩
 ·obtain ⟨o,ho,hc⟩:=he
  refine wpAny_bind (wpAny_isInstance (T := "StopIteration") (b:=true) ⟨o,ho,hc⟩ isSubtype_stop ?_)
  exact wpAny_pure (hQ _ fun b o b1 b2 b3 e=>k2 b o b1 b2 b3 (sb1.extBut _ _ b1 e))
def SrcAt (h:Heap) (u:Bool×Addr×Array Value):Prop:=if u.1=true then h.IsTuple u.2.1 u.2.2 else h.IsList u.2.1 u.2.2
def subsFrom (n:Nat):List (Bool×Addr×Array Value)->List (Sub×Array Value)
 | []=>[]
 | u::r=>(⟨u.1,n,u.2.1⟩,u.2.2)::subsFrom (n+1) r
theorem iter_src {u:Bool×Addr×Array Value} {Q:Value->Shared->Prop} (hs:SrcAt s.heap u)
  (hQ:∀ h',(Sub.mk u.1 s.heap.objs.size u.2.1).At h' 0->h'.objs.size=s.heap.objs.size+1->(∀ b o,s.heap.get? b=some o->h'.get? b=some o)->Q (.ref s.heap.objs.size) { s with heap:=h' }) :
  wpAny (model prog w) A (pyIter (.ref u.2.1)) Q E s:=by
 unfold SrcAt at hs
 cases ht:u.1 with
 | true=>
  simp only [ht,if_true] at hs
  refine wpAny_pyIter_tuple hs (hQ _ ?_ (Heap.size_push ..) fun b o e=>Heap.get?_push_of_some _ e)
  unfold Sub.At
  simp only [ht,if_true]
  exact ⟨_,Heap.get?_push_size _ rfl,rfl,rfl⟩
 | false=>
  simp only [ht,Bool.false_eq_true,if_false] at hs
  refine wpAny_pyIter_list hs (hQ _ ?_ (Heap.size_push ..) fun b o e=>Heap.get?_push_of_some _ e)
  unfold Sub.At
  simp only [ht,Bool.false_eq_true,if_false]
  exact ⟨_,Heap.get?_push_size _ rfl,rfl,rfl⟩
theorem SrcAt.keep {h h':Heap} {u:Bool×Addr×Array Value} (x:SrcAt h u) (k:∀ b o,h.get? b=some o->h'.get? b=some o):SrcAt h' u:=by
 unfold SrcAt at x ⊢
 split at x <;> (rename_i ht; obtain ⟨o,e,r⟩:=x; simp only [ht,if_true,if_false,Bool.false_eq_true]; exact ⟨o,k _ o e,r⟩)
theorem iter_all_go:∀ (us:List (Bool×Addr×Array Value)) (acc:Array Value) (s:Shared) (Q:Array Value->Shared->Prop),(∀ u∈us,SrcAt s.heap u) ->
  (∀ h',(∀ v∈subsFrom s.heap.objs.size us,v.1.At h' 0)->h'.objs.size=s.heap.objs.size+us.length->(∀ b o,s.heap.get? b=some o->h'.get? b=some o) ->
   Q (acc++((subsFrom s.heap.objs.size us).map fun v=>Value.ref v.1.i).toArray) { s with heap:=h' }) ->
  wpAny (model prog w) A (forIn (us.map fun u=>Value.ref u.2.1) acc fun x r=>do let y <- holding r.toList (pyIter x); pure (ForInStep.yield (r.push y))) Q E s:=by
 intro us
 induction us with
 | nil=>
  intro acc s Q _ hQ
  simp only [List.map_nil,List.forIn_nil]
  have:=hQ s.heap (fun _ h=>absurd h List.not_mem_nil) rfl fun _ _ e=>e
  exact wpAny_pure (by simpa [subsFrom] using this)
 | cons u r ih=>
  intro acc s Q hs hQ
  simp only [List.map_cons,List.forIn_cons]
  refine wpAny_bind (wpAny_bind (wpAny_holding (iter_src (hs u List.mem_cons_self) fun h1 a1 s1 k1=>wpAny_pure ?_)))
  refine ih (acc.push (.ref s.heap.objs.size)) { s with heap:=h1 } Q (fun v hv=>(hs v (List.mem_cons_of_mem _ hv)).keep k1) fun h2 a2 s2 k2=>?_
  have e0:subsFrom h1.objs.size r=subsFrom (s.heap.objs.size+1) r:=by rw [s1]
  have q:=hQ h2 (fun v hv=>?_) (by rw [s2]; show h1.objs.size+_=_; rw [s1,List.length_cons]; omega) fun b o e=>k2 b o (k1 b o e)
  ·have e:acc.push (Value.ref s.heap.objs.size)++(List.map (fun v=>Value.ref v.1.i) (subsFrom h1.objs.size r)).toArray=acc++(List.map (fun v=>Value.ref v.1.i) (subsFrom s.heap.objs.size (u::r))).toArray:=by
    rw [e0]; simp [subsFrom]
   show Q (acc.push (Value.ref s.heap.objs.size)++(List.map (fun v=>Value.ref v.1.i) (subsFrom h1.objs.size r)).toArray) _
   rw [e]; exact q
  ·rcases List.mem_cons.mp hv with rfl | hv
   ·exact a1.keep fun o e=>k2 _ o e
   ·exact a2 v (by show v∈subsFrom h1.objs.size r; rw [e0]; exact hv)
theorem iter_all {us:List (Bool×Addr×Array Value)} {Q:List Value->Shared->Prop} (hs:∀ u∈us,SrcAt s.heap u)
  (hQ:∀ h',(∀ v∈subsFrom s.heap.objs.size us,v.1.At h' 0)->h'.objs.size=s.heap.objs.size+us.length->(∀ b o,s.heap.get? b=some o->h'.get? b=some o) ->
   Q ((subsFrom s.heap.objs.size us).map fun v=>Value.ref v.1.i) { s with heap:=h' }):wpAny (model prog w) A (Builtin.SmallTypes.iterAll (us.map fun u=>Value.ref u.2.1)) Q E s:=by
 unfold Builtin.SmallTypes.iterAll
 refine wpAny_bind (iter_all_go us #[] s _ hs fun h' a1 s1 k1=>wpAny_pure ?_)
 have:=hQ h' a1 s1 k1
 simpa using this
theorem subs_length:∀ (us:List (Bool×Addr×Array Value)) (n:Nat),(subsFrom n us).length=us.length:=by
 intro us
 induction us with
 | nil=>intro n; rfl
 | cons u r ih=>intro n; unfold subsFrom; rw [List.length_cons,ih,List.length_cons]
theorem meets_zip (us:List (Bool×Addr×Array Value)) (hl:us.length<=sizeLine) :
  Meets (Builtin.«zip.__new__» ⟨.type "zip" :: us.map fun u=>Value.ref u.2.1,[]⟩) (fun _ R s=>(∀ u∈us,SrcAt s.heap u) /\
   ∀ h',(∀ v∈subsFrom s.heap.objs.size us,v.1.At h' 0)->TupO h' (s.heap.objs.size+us.length) ((subsFrom s.heap.objs.size us).map fun v=>Value.ref v.1.i).toArray ->
    (∃ arr,TupO h' (s.heap.objs.size+us.length+1) arr/\arr.size=us.length)->IsZip h' (s.heap.objs.size+us.length+2) (s.heap.objs.size+us.length) (s.heap.objs.size+us.length+1) .none ->
    (∀ b o,s.heap.get? b=some o->h'.get? b=some o)->R (.ok (.ret (.ref (s.heap.objs.size+us.length+2)))) { s with heap:=h' }):=
 .of_wp fun prog w A R s h=>by
  obtain ⟨hs,h⟩:=h
  show wpAny _ _ (Builtin.SmallTypes.newClass "zip" _>>=_) _ _ _
  refine wpAny_bind ?_
  unfold Builtin.SmallTypes.newClass
  refine wpAny_bind (wpAny_of_eq (a:=true) rfl ?_)
  simp only [Bool.not_true,Bool.false_eq_true,if_false]
  refine wpAny_bind (wpAny_of_eq (a:=true) sub_zip ?_)
  simp only [Bool.not_true,Bool.false_eq_true,if_false]
  refine wpAny_pure ?_
  simp only [List.length_nil,show ¬ (0>1) by decide,if_false]
  refine wpAny_bind (iter_all hs fun h1 a1 s1 k1=>?_)
  refine wpAny_bind (wpAny_newTuple ?_ (by simp [subs_length,hl]))
  refine wpAny_bind (wpAny_newTuple ?_ (by simp [subs_length,hl]))
  generalize hI:((subsFrom s.heap.objs.size us).map fun v=>Value.ref v.1.i)=I at h ⊢
  have hIl:I.length=us.length:=by rw [<- hI,List.length_map,subs_length]
  refine wpAny_bind ?_
  show wpAny _ _ (newObj (.type "zip") (.fields #[.none,.bool false,.bool false,.ref h1.objs.size,.ref (h1.push { cls:=.type "tuple",data:=.seq I.toArray }).objs.size]) none) _ _ _
  refine wpAny_newObj_type (wpAny_pure ?_) (by size_fits)
  have z0:h1.objs.size=s.heap.objs.size+us.length:=s1
  have z1:(h1.push { cls:=.type "tuple",data:=.seq I.toArray }).objs.size=s.heap.objs.size+us.length+1:=by rw [Heap.size_push,s1]
  have z2:((h1.push { cls:=.type "tuple",data:=.seq I.toArray }).push { cls:=.type "tuple",data:=.seq (I.map fun _=>Value.none).toArray }).objs.size=s.heap.objs.size+us.length+2:=by rw [Heap.size_push,z1]
  refine ⟨_,rfl,?_⟩
  have g:=h (((h1.push { cls:=.type "tuple",data:=.seq I.toArray }).push { cls:=.type "tuple",data:=.seq (I.map fun _=>Value.none).toArray }).push { cls:=.type "zip",data:=.fields #[.none,.bool false,.bool false,.ref h1.objs.size,.ref (h1.push { cls:=.type "tuple",data:=.seq I.toArray }).objs.size] })
   (fun v hv=>(a1 v hv).keep fun o e=>Heap.get?_push_of_some _ (Heap.get?_push_of_some _ (Heap.get?_push_of_some _ e))) ?_ ⟨(I.map fun _=>Value.none).toArray,?_,by simp [hIl]⟩ ?_ fun b o e=>Heap.get?_push_of_some _ (Heap.get?_push_of_some _ (Heap.get?_push_of_some _ (k1 b o e)))
  ·rw [<- z2] at g
   exact g
  ·rw [<- z0]; exact Heap.get?_push_of_some _ (Heap.get?_push_of_some _ (Heap.get?_push_size _ rfl))
  ·rw [<- z1]; exact Heap.get?_push_of_some _ (Heap.get?_push_size _ rfl)
  ·rw [<- z2,<- z1,<- z0]; exact Heap.get?_push_size _ rfl
theorem tcall_zip3 (a b c:Value):checkTypeCall "zip" ⟨[a,b,c],[]⟩=pure ():=by kernel_rfl
theorem ncall_zip3 (a b c:Value):checkBuiltinCall "zip.__new__" ⟨[.type "zip",a,b,c],[]⟩=pure ():=by kernel_rfl
theorem args_init4 (a b c d:Value):argsOk "object.__init__" ⟨[a,b,c,d],[]⟩:=by
 unfold argsOk; rw [signature?_of (id := "object.__init__") (n:=['_','_','t','i','n','i','_','_']) (o:=['t','c','e','j','b','o']) (by kernel_rfl) F.owner_object]; kernel_rfl
theorem call_zip (us:List (Bool×Addr×Array Value)) (hl:us.length=2\/us.length=3) {Q:Value->Shared->Prop} (hs:∀ u∈us,SrcAt s.heap u)
  (h:∀ h',(∀ v∈subsFrom s.heap.objs.size us,v.1.At h' 0)->TupO h' (s.heap.objs.size+us.length) ((subsFrom s.heap.objs.size us).map fun v=>Value.ref v.1.i).toArray ->
    (∃ arr,TupO h' (s.heap.objs.size+us.length+1) arr/\arr.size=us.length)->IsZip h' (s.heap.objs.size+us.length+2) (s.heap.objs.size+us.length) (s.heap.objs.size+us.length+1) .none ->
    (∀ b o,s.heap.get? b=some o->h'.get? b=some o)->Q (.ref (s.heap.objs.size+us.length+2)) { s with heap:=h' }) :
  wpAny (model prog w) A (call (.type "zip") (us.map fun u=>Value.ref u.2.1)) Q E s:=by
 have hle:us.length<=sizeLine:=Nat.le_trans (show us.length<=3 by omega) (by decide)
 have k:∀ h',_->_->_->_->_->({ s with heap:=h' }:Shared).TypeIs (.ref (s.heap.objs.size+us.length+2)) "zip" /\ Q (.ref (s.heap.objs.size+us.length+2)) { s with heap:=h' }:=fun h' c1 c2 c3 c4 c5=>⟨⟨_,c4,rfl⟩,h h' c1 c2 c3 c4 c5⟩
 cases us with
 | nil=>rcases hl with hl | hl <;> cases hl
 | cons a us=>
  cases us with
  | nil=>rcases hl with hl | hl <;> cases hl
  | cons b us=>
   cases us with
   | nil=>exact callType_new F.called_zip (by decide) (F.typeCall_zip_2 _ _) (F.newCall_zip_2 _ _) (fun obj=>F.args_object_init_3 obj _ _) F.entry_zip_new (meets_zip [a,b] hle) ⟨hs,k⟩
   | cons c us=>
    cases us with
    | nil=>exact callType_new F.called_zip (by decide) (tcall_zip3 _ _ _) (ncall_zip3 _ _ _) (fun obj=>args_init4 obj _ _ _) F.entry_zip_new (meets_zip [a,b,c] hle) ⟨hs,k⟩
    | cons d us=>rcases hl with hl | hl <;> (simp only [List.length_cons] at hl; omega)
end
end L2
namespace L2
open PySem PySem.Spec PyProof.Rows
theorem choose_list {α β:Type} {R:α->β->Prop}:∀ {l:List α},(∀ a∈l,∃ b,R a b)->∃ l':List (α×β),l'.map (·.1)=l/\∀ p∈l',R p.1 p.2:=by
 intro l
 induction l with
 | nil=>exact fun _=>⟨[],rfl,fun _ h=>absurd h List.not_mem_nil⟩
 | cons a l ih=>
  intro h
  obtain ⟨b,hb⟩:=h a List.mem_cons_self
  obtain ⟨l',e,q⟩:=ih fun x hx=>h x (List.mem_cons_of_mem _ hx)
  refine ⟨(a,b)::l',by rw [List.map_cons,e],fun p hp=>?_⟩
  rcases List.mem_cons.mp hp with rfl | hp
  ·exact hb
  ·exact q p hp
def Sq (K:Frag) (H:Hp) (t:Bool) (a:Addr) (xs:List V):Prop:=if t=true then SqT K H a xs else SqL K H a xs
section
variable {X:Cx} {pins:List (Addr×Obj)} {σ:St} {H:Hp} {s:Shared}
theorem kne {b a:Addr} {o:Obj} (I:Inv X pins σ H s) (h:X.K.lookup a=some o) (f:FpOk X pins H b):a≠b:=by
 intro e
 subst e
 have hb:X.base.get? a=some o:=I.mod.kin a o h
 obtain ⟨f0,f1,f2,f3,f4,f5⟩:=f
 rcases f3 with z | z
 ·exact I.ok.noex a o hb z
 ·exact absurd (Nat.lt_of_lt_of_le (Heap.lt_size (I.ok.bs a o hb).1) z) (Nat.lt_irrefl _)
theorem Sq.ne {t:Bool} {a b:Addr} {xs:List V} (I:Inv X pins σ H s) (h:Sq X.K H t a xs) (f:FpOk X pins H b):a≠b:=by
 have tr:∀ {u:HO},Rd H a u->a≠b:=fun {u} r e=>by
  subst e
  have f0:=f.1
  rcases r with r | ⟨o,r⟩ <;> (rw [f0] at r; cases r)
 unfold Sq at h
 split at h
 ·rcases h with h | ⟨o,its,n,hk,_⟩
  ·exact tr h
  ·exact kne I hk f
 ·rcases h with h | ⟨o,its,n,hk,_⟩
  ·exact tr h
  ·exact kne I hk f
theorem Sq.src {t:Bool} {a:Addr} {xs:List V} (I:Inv X pins σ H s) (h:Sq X.K H t a xs):∃ its:List Value,Vals xs its/\(Sub.mk t 0 a).Src s.heap its.toArray:=by
 unfold Sq at h
 unfold Sub.Src
 split at h
 ·rename_i ht
  obtain ⟨its,r,p,_⟩:=I.tuple h
  exact ⟨its,r,by simp only [ht,if_true]; exact p⟩
 ·rename_i ht
  obtain ⟨its,r,p,_⟩:=I.list h
  exact ⟨its,r,by simp only [ht,if_false]; exact p.isList⟩
theorem Sq.inj {t:Bool} {a:Addr} {xs ys:List V} (I:Inv X pins σ H s) (h:Sq X.K H t a xs) (h':Sq X.K H t a ys):xs=ys:=by
 unfold Sq at h h'
 split at h
 ·rename_i ht; simp only [ht,if_true] at h'; exact I.tuple_inj h h'
 ·rename_i ht; simp only [ht,if_false] at h'; exact I.list_inj h h'
end
def ItZ (K:Frag) (us:List (Bool×Addr)):It:=
  ⟨fun i H=>∀ u∈us,∃ xs x,Sq K H u.1 u.2 xs/\xs[i]?=some x,
   fun i H x H'=>∃ p ys,x=.ref p/\H p=none/\H'=upd H p (.tup ys)/\Paired (fun (u:Bool×Addr) (y:V)=>∀ xs,Sq K H u.1 u.2 xs->xs[i]?=some y) us ys,
   fun i H=>(∀ u∈us,∃ xs,Sq K H u.1 u.2 xs)/\∃ u∈us,∃ xs,Sq K H u.1 u.2 xs/\xs.length<=i⟩
structure ZSt (z TI TO:Addr) (subs:List Sub):Prop where
 zTO:z≠TO
 TIz:TI≠z
 TITO:TI≠TO
 zi:∀ u∈subs,u.i≠z
 ti:∀ u∈subs,u.i≠TO
 Ii:∀ u∈subs,u.i≠TI
 nd:subs.Pairwise fun u v=>u.i≠v.i
abbrev zTn (z TI TO:Addr) (subs:List Sub) (i:Nat) (h:Heap):Prop:=
 IsZip h z TI TO .none/\TupO h TI (subs.map fun u=>Value.ref u.i).toArray/\(∃ arr,TupO h TO arr/\arr.size=subs.length)/\∀ u∈subs,u.At h i
theorem paired_map {α β γ:Type} {F:α->γ->Prop} {f:β->α} {g:β->γ}:∀ {l:List β},(∀ b∈l,F (f b) (g b))->Paired F (l.map f) (l.map g)
 | [],_=>.nil
 | _::_,h=>.cons (h _ List.mem_cons_self) (paired_map fun b hb=>h b (List.mem_cons_of_mem _ hb))
theorem turn_zip {P:Program} {w:World} {K:Frag} {elts:List Expr} {k:Nat} {tp:Pos} {z TI TO:Addr} {subs:List Sub} (D:ZSt z TI TO subs) (hne:subs ≠ []) (hln:subs.length<=sizeLine) :
  Turn P w K (.Tuple elts k tp) (ItZ K (subs.map fun u=>(u.t,u.l))) (z::TI::TO::subs.map (·.i)) z (zTn z TI TO subs) where
 mem:=by simp
 obj:=fun i h st b hb=>by
  obtain ⟨hz,hTI,⟨arr,hTO,_⟩,hs⟩:=st
  simp only [List.mem_cons,List.mem_map] at hb
  rcases hb with rfl | rfl | rfl | ⟨u,hu,rfl⟩
  ·exact ⟨_,hz,fun v q=>by cases q⟩
  ·exact ⟨_,hTI,fun v q=>by cases q⟩
  ·exact ⟨_,hTO,fun v q=>by cases q⟩
  ·obtain ⟨o,e,d⟩:=(hs u hu).obj
   exact ⟨o,e,fun v q=>by rw [d] at q; cases q⟩
 keep:=fun i h h' st kp=>by
  obtain ⟨hz,hTI,⟨arr,hTO,ha⟩,hs⟩:=st
  exact ⟨kp z (by simp) _ hz,kp TI (by simp) _ hTI,⟨arr,kp TO (by simp) _ hTO,ha⟩,fun u hu=>(hs u hu).keep fun o e=>kp u.i (by simp only [List.mem_cons,List.mem_map]; exact .inr (.inr (.inr ⟨u,hu,rfl⟩))) o e⟩
 item:=by
  intro X hP hw hK hc i pins s σ H E I hf st hg
  subst hP hw hK
  obtain ⟨hz,hTI,⟨arr,hTO,ha⟩,hs⟩:=st
  have fz:=hf z (by simp)
  have fT:=hf TO (by simp)
  have fi:∀ u∈subs,FpOk X pins H u.i:=fun u hu=>hf u.i (by simp only [List.mem_cons,List.mem_map]; exact .inr (.inr (.inr ⟨u,hu,rfl⟩)))
  obtain ⟨ss,ess,hss⟩:=choose_list (R:=fun (u:Sub) (q:List Value×List V×V)=>Sq X.K H u.t u.l q.2.1/\Vals q.2.1 q.1/\u.Src s.heap q.1.toArray/\q.2.1[i]?=some q.2.2) (l:=subs) (fun u hu=>by
   obtain ⟨xs,x,h1,h2⟩:=hg (u.t,u.l) (List.mem_map.mpr ⟨u,hu,rfl⟩)
   obtain ⟨its,r,hsrc⟩:=Sq.src I h1
   exact ⟨(its,xs,x),h1,r,hsrc,h2⟩)
  have mss:∀ v∈ss,v.1∈subs:=fun v hv=>by rw [<- ess]; exact List.mem_map.mpr ⟨v,hv,rfl⟩
  have nd2:ss.Pairwise fun u v=>u.1.i≠v.1.i:=by
   have:=D.nd
   rw [<- ess,List.pairwise_map] at this
   exact this
  have DA:Apart z TO (ss.map fun v=>(v.1,v.2.1.toArray)):=by
   refine ⟨D.zTO,?_,?_,?_,?_,?_,?_⟩
   ·rintro _ hu; obtain ⟨v,hv,rfl⟩:=List.mem_map.mp hu; exact D.zi _ (mss v hv)
   ·rintro _ hu; obtain ⟨v,hv,rfl⟩:=List.mem_map.mp hu; exact D.ti _ (mss v hv)
   ·rw [List.pairwise_map]; exact nd2
   ·rintro _ hu; obtain ⟨v,hv,rfl⟩:=List.mem_map.mp hu; exact Sq.ne I (hss v hv).1 fz
   ·rintro _ hu; obtain ⟨v,hv,rfl⟩:=List.mem_map.mp hu; exact Sq.ne I (hss v hv).1 fT
   ·rintro _ hu _ hu2; obtain ⟨v,hv,rfl⟩:=List.mem_map.mp hu; obtain ⟨v2,hv2,rfl⟩:=List.mem_map.mp hu2; exact Sq.ne I (hss v hv).1 (fi _ (mss v2 hv2))
  have el:(ss.map fun v=>(v.1,v.2.1.toArray)).length=subs.length:=by rw [List.length_map,<- ess,List.length_map]
  have eI:((ss.map fun v=>(v.1,v.2.1.toArray)).map fun u=>Value.ref u.1.i)=subs.map fun u=>Value.ref u.i:=by rw [<- ess,List.map_map,List.map_map]; rfl
  have ys:∀ v∈ss,∃ u,v.2.1.toArray[i]?=some u/\RelV v.2.2.2 u:=fun v hv=>by
   obtain ⟨u,e,r⟩:=(hss v hv).2.1.get (hss v hv).2.2.2
   exact ⟨u,by simpa using e,r⟩
  refine zip_item (n:=i) DA (by intro q; apply hne; have:=congrArg List.length q; rw [el] at this; exact List.length_eq_zero_iff.mp this) (by rw [ha,el]) (by rw [el]; exact hln) hz (by rw [eI]; exact hTI) hTO (fun u hu=>?_) fun h1 z1 T1 a1 p1 k1=>?_
  ·obtain ⟨v,hv,rfl⟩:=List.mem_map.mp hu
   obtain ⟨u,e,_⟩:=ys v hv
   exact ⟨hs _ (mss v hv),(hss v hv).2.2.1,u,e⟩
  refine ⟨_,rfl,wpAny_letOwnedTupleGo_zip z1 fun h2 z2 sb2=>?_⟩
  have hzl:z<s.heap.objs.size:=Heap.lt_size hz
  have kp:∀ b o,b≠z->b≠TO->(∀ u∈subs,b≠u.i)->s.heap.get? b=some o->h2.get? b=some o:=fun b o b1 b2 b3 e=>sb2.extBut _ _ b1 (k1 b o b1 b2 (fun u hu=>by obtain ⟨v,hv,rfl⟩:=List.mem_map.mp hu; exact b3 _ (mss v hv)) e)
  have hfr:H s.heap.objs.size=none:=I.hok.fresh (Nat.le_refl _)
  have trk:∀ b u,H b=some u->b≠z/\b≠TO/\∀ v∈subs,b≠v.i:=fun b u e=>⟨fun q=>(by subst q; rw [fz.1] at e; cases e),fun q=>(by subst q; rw [fT.1] at e; cases e),fun v hv q=>(by subst q; rw [(fi v hv).1] at e; cases e)⟩
  have hP2:TupO h2 s.heap.objs.size (ss.map fun v=>v.2.1.toArray.getD i .none).toArray:=by
   have:=sb2.extBut _ _ (Nat.ne_of_gt hzl) p1
   rw [List.map_map] at this
   exact this
  have rel:Vals (ss.map fun v=>v.2.2.2) (ss.map fun v=>v.2.1.toArray.getD i .none):=paired_map fun v hv=>by
   obtain ⟨u,e,r⟩:=ys v hv
   rw [show v.2.1.toArray.getD i Value.none=u by simp only [Array.getD_eq_getD_getElem?,e,Option.getD_some]]
   exact r
  have len:(ss.map fun v=>v.2.2.2).length<=sizeLine:=by rw [List.length_map,show ss.length=subs.length by rw [<- ess,List.length_map]]; exact hln
  refine ⟨.ref s.heap.objs.size,upd H s.heap.objs.size (.tup (ss.map fun v=>v.2.2.2)),?_,rfl,⟨_,_,rfl,hfr,rfl,?_⟩,⟨z2,?_,?_,fun u hu=>?_⟩,fun b hb=>?_⟩
  ·show Inv X pins σ _ { s with heap:=h2 }
   refine I.step (g':=s.gens) (t':=s.toks) (d':=s.drawn) (ch:=z::TO::subs.map (·.i)) (fun b hb=>?_) (fun b o _ _ hc e _=>kp b o ?_ ?_ ?_ e) (fun b o _ _ hc e _=>⟨o.slots,kp b o ?_ ?_ ?_ e⟩) (fun b o hc e n=>?_) (fun b o hc e=>⟨o,kp b o ?_ ?_ ?_ e⟩) (fun b xs e=>?_) (fun b o u e=>?_) (fun b ps e=>?_) (fun m hm=>?_) ?_ I.bare
   ·simp only [List.mem_cons,List.mem_map] at hb
    rcases hb with rfl | rfl | ⟨u,hu,rfl⟩
    ·exact ⟨fz.2.2.2.1,fz.2.1,fz.2.2.2.2.1,fz.2.2.2.2.2⟩
    ·exact ⟨fT.2.2.2.1,fT.2.1,fT.2.2.2.2.1,fT.2.2.2.2.2⟩
    ·have f:=fi u hu; exact ⟨f.2.2.2.1,f.2.1,f.2.2.2.2.1,f.2.2.2.2.2⟩
   all_goals first
    | (intro q; exact hc (by simp [q]; done))
    | (intro u hu q; exact hc (by rw [q]; exact List.mem_cons_of_mem _ (List.mem_cons_of_mem _ (List.mem_map.mpr ⟨u,hu,rfl⟩))))
    | skip
   ·rw [upd_ne (Nat.ne_of_lt (Heap.lt_size e))]; exact n
   ·rw [upd_ne (ne_of_none e hfr)]; exact e
   ·rw [upd_ne (ne_of_none e hfr)]; exact e
   ·exact ⟨#[],by rw [upd_ne (ne_of_none e hfr),e]; simp⟩
   ·obtain ⟨o,es,ep,ho,r⟩:=hm
    exact ⟨o,es,ep,kp _ o (Ne.symm fz.2.1) (Ne.symm fT.2.1) (fun u hu=>Ne.symm (fi u hu).2.1) ho,r⟩
   ·intro b u e
    by_cases hb:b=s.heap.objs.size
    ·subst hb
     rw [upd_same] at e; cases e
     exact ⟨len,_,rel,⟨_,hP2,rfl,_,rfl⟩⟩
    ·rw [upd_ne hb] at e
     refine (I.hok b u e).stay (fun c v hcc q=>?_) (fun c q=>by rw [upd_ne (ne_of_none q hfr)]; exact q) fun c xs q=>by rw [upd_ne (ne_of_none q hfr)]; exact q
     rcases hcc with rfl | hcc
     ·exact kp _ v (trk _ _ e).1 (trk _ _ e).2.1 (trk _ _ e).2.2 q
     ·exact kp _ v (trk _ _ hcc).1 (trk _ _ hcc).2.1 (trk _ _ hcc).2.2 q
  ·rw [<- ess,List.map_map]
   exact paired_map fun v hv xs hx=>by rw [Sq.inj I hx (hss v hv).1]; exact (hss v hv).2.2.2
  ·exact kp TI _ D.TIz D.TITO (fun u hu=>Ne.symm (D.Ii u hu)) hTI
  ·obtain ⟨arr',hT',ha'⟩:=T1
   exact ⟨arr',sb2.extBut _ _ D.zTO.symm hT',by rw [ha',el]⟩
  ·have hv:∃ v∈ss,v.1=u:=by rw [<- ess] at hu; exact List.mem_map.mp hu
   obtain ⟨v,hv,rfl⟩:=hv
   exact (a1 (v.1,v.2.1.toArray) (List.mem_map.mpr ⟨v,hv,rfl⟩)).keep fun o e=>sb2.extBut _ _ (D.zi _ (mss v hv)) e
  ·have:b≠s.heap.objs.size:=by
    simp only [List.mem_cons,List.mem_map] at hb
    rcases hb with rfl | rfl | rfl | ⟨u,hu,rfl⟩
    ·exact Nat.ne_of_lt hzl
    ·exact Nat.ne_of_lt (Heap.lt_size hTI)
    ·exact Nat.ne_of_lt (Heap.lt_size hTO)
    ·obtain ⟨o,e,_⟩:=(hs u hu).obj; exact Nat.ne_of_lt (Heap.lt_size e)
   rw [upd_ne this]
   exact (hf b hb).1
 done:=by
  intro X hP hw hK hc i pins s σ H E I hf st hg
  subst hP hw hK
  obtain ⟨hz,hTI,⟨arr,hTO,ha⟩,hs⟩:=st
  obtain ⟨hall,u0,hu0,xs0,hq0,hl0⟩:=hg
  have fz:=hf z (by simp)
  have fT:=hf TO (by simp)
  have fi:∀ u∈subs,FpOk X pins H u.i:=fun u hu=>hf u.i (by simp only [List.mem_cons,List.mem_map]; exact .inr (.inr (.inr ⟨u,hu,rfl⟩)))
  obtain ⟨ss,ess,hss⟩:=choose_list (R:=fun (u:Sub) (q:List Value×List V)=>Sq X.K H u.t u.l q.2/\Vals q.2 q.1/\u.Src s.heap q.1.toArray) (l:=subs) (fun u hu=>by
   obtain ⟨xs,h1⟩:=hall (u.t,u.l) (List.mem_map.mpr ⟨u,hu,rfl⟩)
   obtain ⟨its,r,hsrc⟩:=Sq.src I h1
   exact ⟨(its,xs),h1,r,hsrc⟩)
  have mss:∀ v∈ss,v.1∈subs:=fun v hv=>by rw [<- ess]; exact List.mem_map.mpr ⟨v,hv,rfl⟩
  have nd2:ss.Pairwise fun u v=>u.1.i≠v.1.i:=by
   have:=D.nd
   rw [<- ess,List.pairwise_map] at this
   exact this
  have DA:Apart z TO (ss.map fun v=>(v.1,v.2.1.toArray)):=by
   refine ⟨D.zTO,?_,?_,?_,?_,?_,?_⟩
   ·rintro _ hu; obtain ⟨v,hv,rfl⟩:=List.mem_map.mp hu; exact D.zi _ (mss v hv)
   ·rintro _ hu; obtain ⟨v,hv,rfl⟩:=List.mem_map.mp hu; exact D.ti _ (mss v hv)
   ·rw [List.pairwise_map]; exact nd2
   ·rintro _ hu; obtain ⟨v,hv,rfl⟩:=List.mem_map.mp hu; exact Sq.ne I (hss v hv).1 fz
   ·rintro _ hu; obtain ⟨v,hv,rfl⟩:=List.mem_map.mp hu; exact Sq.ne I (hss v hv).1 fT
   ·rintro _ hu _ hu2; obtain ⟨v,hv,rfl⟩:=List.mem_map.mp hu; obtain ⟨v2,hv2,rfl⟩:=List.mem_map.mp hu2; exact Sq.ne I (hss v hv).1 (fi _ (mss v2 hv2))
  have el:(ss.map fun v=>(v.1,v.2.1.toArray)).length=subs.length:=by rw [List.length_map,<- ess,List.length_map]
  have eI:((ss.map fun v=>(v.1,v.2.1.toArray)).map fun u=>Value.ref u.1.i)=subs.map fun u=>Value.ref u.i:=by rw [<- ess,List.map_map,List.map_map]; rfl
  refine zip_stop (n:=i) (I.ok.hd hc) DA (by rw [ha,el]) (by rw [el]; exact hln) hz (by rw [eI]; exact hTI) hTO (fun u hu=>?_) ?_ fun h1 k1=>⟨rfl,?_⟩
  ·obtain ⟨v,hv,rfl⟩:=List.mem_map.mp hu
   exact ⟨hs _ (mss v hv),(hss v hv).2.2⟩
  ·obtain ⟨u,hu,e0⟩:=List.mem_map.mp hu0
   have hv:∃ v∈ss,v.1=u:=by rw [<- ess] at hu; exact List.mem_map.mp hu
   obtain ⟨v,hv,rfl⟩:=hv
   subst e0
   refine ⟨(v.1,v.2.1.toArray),List.mem_map.mpr ⟨v,hv,rfl⟩,?_⟩
   have e1:=Sq.inj I (hss v hv).1 hq0
   have e2:=(hss v hv).2.1.length
   rw [e1] at e2
   simp only [List.getElem?_toArray]
   exact List.getElem?_eq_none (by omega)
  ·have kp:∀ b o,b≠z->b≠TO->(∀ u∈subs,b≠u.i)->s.heap.get? b=some o->h1.get? b=some o:=fun b o b1 b2 b3 e=>k1 b o b1 b2 (fun u hu=>by obtain ⟨v,hv,rfl⟩:=List.mem_map.mp hu; exact b3 _ (mss v hv)) e
   have trk:∀ b u,H b=some u->b≠z/\b≠TO/\∀ v∈subs,b≠v.i:=fun b u e=>⟨fun q=>(by subst q; rw [fz.1] at e; cases e),fun q=>(by subst q; rw [fT.1] at e; cases e),fun v hv q=>(by subst q; rw [(fi v hv).1] at e; cases e)⟩
   refine I.step (g':=s.gens) (t':=s.toks) (d':=s.drawn) (ch:=z::TO::subs.map (·.i)) (fun b hb=>?_) (fun b o _ _ hc e _=>kp b o ?_ ?_ ?_ e) (fun b o _ _ hc e _=>⟨o.slots,kp b o ?_ ?_ ?_ e⟩) (fun b o hc e n=>n) (fun b o hc e=>⟨o,kp b o ?_ ?_ ?_ e⟩) (fun b xs e=>e) (fun b o u e=>e) (fun b ps e=>⟨#[],by rw [e]; simp⟩) (fun m hm=>?_) (fun b u e=>?_) I.bare
   ·simp only [List.mem_cons,List.mem_map] at hb
    rcases hb with rfl | rfl | ⟨u,hu,rfl⟩
    ·exact ⟨fz.2.2.2.1,fz.2.1,fz.2.2.2.2.1,fz.2.2.2.2.2⟩
    ·exact ⟨fT.2.2.2.1,fT.2.1,fT.2.2.2.2.1,fT.2.2.2.2.2⟩
    ·have f:=fi u hu; exact ⟨f.2.2.2.1,f.2.1,f.2.2.2.2.1,f.2.2.2.2.2⟩
   all_goals first
    | (intro q; exact hc (by simp [q]; done))
    | (intro u hu q; exact hc (by rw [q]; exact List.mem_cons_of_mem _ (List.mem_cons_of_mem _ (List.mem_map.mpr ⟨u,hu,rfl⟩))))
    | skip
   ·obtain ⟨o,es,ep,ho,r⟩:=hm
    exact ⟨o,es,ep,kp _ o (Ne.symm fz.2.1) (Ne.symm fT.2.1) (fun u hu=>Ne.symm (fi u hu).2.1) ho,r⟩
   ·refine (I.hok b u e).stay (fun c v hcc q=>?_) (fun c q=>q) fun c xs q=>q
    rcases hcc with rfl | hcc
    ·exact kp _ v (trk _ _ e).1 (trk _ _ e).2.1 (trk _ _ e).2.2 q
    ·exact kp _ v (trk _ _ hcc).1 (trk _ _ hcc).2.1 (trk _ _ hcc).2.2 q
 self:=fun _ _ _ _ _ st h=>wpAny_pyIter_zip st.1 h
def iZip (K:Frag) (ta:TA):TI:=fun σ H R=>ta σ H fun vs H1=>∃ us:List (Bool×Addr),vs=us.map (fun u=>V.ref u.2)/\(us.length=2\/us.length=3)/\(∀ u∈us,∃ xs,Sq K H1 u.1 u.2 xs)/\R (ItZ K us) H1
theorem neN {a b:Nat} (h:a≠b):(a:Addr)≠b:=h
theorem vals_refs:∀ {us:List (Bool×Addr)} {vs:List Value},Vals (us.map fun u=>V.ref u.2) vs->vs=us.map fun u=>Value.ref u.2:=by
 intro us
 induction us with
 | nil=>intro vs h; cases h; rfl
 | cons u us ih=>
  intro vs h
  cases h with
  | cons r t=>
   have r':_=Value.ref _:=r
   rw [r',ih t]; rfl
theorem subs_i:∀ (us:List (Bool×Addr×Array Value)) (n:Nat),∀ v∈subsFrom n us,n<=v.1.i/\n+us.length>v.1.i:=by
 intro us
 induction us with
 | nil=>exact fun _ _ h=>absurd h List.not_mem_nil
 | cons u r ih=>
  intro n v h
  rcases List.mem_cons.mp h with rfl | h
  ·exact ⟨Nat.le_refl _,by show n+(r.length+1)>n; omega⟩
  ·have:=ih (n+1) v h
   rw [List.length_cons]; omega
theorem subs_nd:∀ (us:List (Bool×Addr×Array Value)) (n:Nat),(subsFrom n us).Pairwise fun u v=>u.1.i≠v.1.i
 | [],_=>.nil
 | u::r,n=>by
  refine List.pairwise_cons.mpr ⟨fun v hv=>?_,subs_nd r (n+1)⟩
  have:=subs_i r (n+1) v hv
  show (n:Nat)≠v.1.i
  omega
theorem subs_src:∀ (us:List (Bool×Addr×Array Value)) (n:Nat),(subsFrom n us).map (fun u=>(u.1.t,u.1.l))=us.map fun u=>(u.1,u.2.1)
 | [],_=>rfl
 | u::r,n=>by unfold subsFrom; rw [List.map_cons,subs_src r,List.map_cons]
section
variable {X:Cx}
theorem pi_zip {a:Expr} {es elts:List Expr} {ta:TA} {p pos tp:Pos} {k:Nat} (hg:Gl X "zip") (hm:X.mg "zip" = none) (ha:PA X (a::es) ta) (hs:starEach (a::es) X.env=(false,eval a X.env)::starEach es X.env:=by rfl)
  (hpl:(backTo pos (starEach es X.env)).any (·.1)=false:=by rfl):PI X (.Tuple elts k tp) (.Call (.Name "zip" p) (a::es) [] pos) (iZip X.K ta):=by
 intro pins s σ H R I h
 refine Call_ (ld_blt I hg hm boot_zip (PyProof.Rows.callWith_type1 (thn (ha pos pins s σ H _ I h) fun vs s1 zz45=>?_) hs hpl))
 obtain ⟨xs,H1,I1,r1,us,e1,hl,hsq,q⟩:=zz45
 subst e1
 have e2:=vals_refs r1
 subst e2
 obtain ⟨ws,ew,hws⟩:=choose_list (R:=fun (u:Bool×Addr) (its:Array Value)=>SrcAt s1.heap (u.1,u.2,its)) (l:=us) (fun u hu=>by
  obtain ⟨ys,hy⟩:=hsq u hu
  obtain ⟨its,_,hsrc⟩:=Sq.src I1 hy
  exact ⟨its.toArray,by unfold SrcAt; unfold Sub.Src at hsrc; exact hsrc⟩)
 have ev:us.map (fun u=>Value.ref u.2)=(ws.map fun w=>(w.1.1,w.1.2,w.2)).map fun u=>Value.ref u.2.1:=by rw [<- ew,List.map_map,List.map_map]; rfl
 have el:(ws.map fun w=>(w.1.1,w.1.2,w.2)).length=us.length:=by rw [<- ew,List.length_map,List.length_map]
 rw [ev]
 generalize hW:(ws.map fun w=>(w.1.1,w.1.2,w.2))=W at el ev
 have hsw:∀ u∈W,SrcAt s1.heap u:=fun u hu=>by
  rw [<- hW] at hu
  obtain ⟨w,hw,rfl⟩:=List.mem_map.mp hu
  exact hws w hw
 refine call_zip W (by rw [el]; exact hl) hsw fun h' hA hTI hTO hz hk=>wpAny_pyIter_zip hz ?_
 have I2:Inv X pins σ H1 { s1 with heap:=h' }:=I1.kept (t':=s1.toks) hk
 have eS:((subsFrom s1.heap.objs.size W).map (·.1)).map (fun u=>(u.t,u.l))=us:=by
  rw [List.map_map]
  show (subsFrom s1.heap.objs.size W).map (fun u=>(u.1.t,u.1.l))=us
  rw [subs_src,<- hW,List.map_map,<- ew]
  rfl
 have D:ZSt (s1.heap.objs.size+W.length+2) (s1.heap.objs.size+W.length) (s1.heap.objs.size+W.length+1) ((subsFrom s1.heap.objs.size W).map (·.1)):=by
  refine ⟨neN (by omega),neN (by omega),neN (by omega),?_,?_,?_,?_⟩
  ·rintro _ hu; obtain ⟨v,hv,rfl⟩:=List.mem_map.mp hu; have:=subs_i W _ v hv; exact neN (by omega)
  ·rintro _ hu; obtain ⟨v,hv,rfl⟩:=List.mem_map.mp hu; have:=subs_i W _ v hv; exact neN (by omega)
  ·rintro _ hu; obtain ⟨v,hv,rfl⟩:=List.mem_map.mp hu; have:=subs_i W _ v hv; exact neN (by omega)
  ·rw [List.pairwise_map]; exact subs_nd W _
 have ls:((subsFrom s1.heap.objs.size W).map (·.1)).length=W.length:=by rw [List.length_map,subs_length]
 have TZ:=turn_zip (P:=X.prog) (w:=X.w) (K:=X.K) (elts:=elts) (k:=k) (tp:=tp) D (by intro q; have:=congrArg List.length q; rw [ls,el] at this; have h0:us.length=0:=this; omega) (by rw [ls,el]; exact Nat.le_trans (show us.length<=3 by omega) (by decide))
 rw [eS] at TZ
 refine ⟨_,_,_,_,H1,rfl,I2,TZ,⟨hz,?_,?_,fun u hu=>?_⟩,fun b hb=>?_,q⟩
 ·rw [List.map_map]; exact hTI
 ·obtain ⟨arr,h1,h2⟩:=hTO
  exact ⟨arr,h1,by rw [ls]; exact h2⟩
 ·obtain ⟨v,hv,rfl⟩:=List.mem_map.mp hu
  exact hA v hv
 ·have hb':s1.heap.objs.size<=b:=by
   simp only [List.mem_cons,List.mem_map] at hb
   rcases hb with rfl | rfl | rfl | ⟨_,⟨v,hv,rfl⟩,rfl⟩
   ·omega
   ·omega
   ·omega
   ·exact (subs_i W _ v hv).1
  have f:=I1.fpOk (H':=H1) hb' (I1.hok.fresh hb')
  exact f
end
end L2
namespace L2
open PySem PySem.Spec PyProof.Rows
theorem relabel_lookup (cs:Scope) (env:Env) (x:Str):(relabel cs env).names.lookup x=(cs.names.lookup x).map fun k=>if (k == .free&&env.scope.kind == .function&&env.kindOf x == some .cell)=true then .cell else k:=by
 unfold relabel
 show List.lookup x (cs.names.map _)=_
 induction cs.names with
 | nil=>rfl
 | cons p r ih=>
  obtain ⟨n,k⟩:=p
  by_cases hx:x=n
  ·subst hx
   rw [List.map_cons]
   simp only [List.lookup_cons]
   split <;> simp_all
  ·have hb:(x == n)=false:=by simpa using hx
   have er:List.lookup x ((n,k)::r)=List.lookup x r:=by rw [List.lookup_cons,hb]
   rw [List.map_cons,er]
   refine Eq.trans ?_ ih
   dsimp only
   by_cases hc:(k == NameKind.free&&env.scope.kind == ScopeKind.function&&env.kindOf n == some NameKind.cell)=true
   ·rw [if_pos hc,List.lookup_cons,hb]
   ·rw [if_neg hc,List.lookup_cons,hb]
theorem closure_of {env : Env} : ∀ (names : List (Str × NameKind)) (cs0 : List (Str × Addr)), (∀ x ∈ names, x.2 = .free -> ∃ c, env.cells.lookup x.1 = some c) -> (∀ x c, cs0.lookup x = some c -> env.cells.lookup x = some c) ->
    ∃ cl, (forIn (m := Sem) names cs0 fun x __s => if (x.snd == NameKind.free) = true then do
              let __do_lift <- cellOf env x.fst
              pure (ForInStep.yield ((x.fst, __do_lift) :: __s))
            else pure (ForInStep.yield __s)) = pure cl /\ (∀ x c, cl.lookup x = some c -> env.cells.lookup x = some c) /\ (∀ x, (x, NameKind.free) ∈ names -> ∃ c, cl.lookup x = some c) /\ ∀ x c, cs0.lookup x = some c -> ∃ c', cl.lookup x = some c' := by
  intro names
  induction names with
  | nil =>
    intro cs0 _ h0
    exact ⟨cs0, by simp only [List.forIn_nil], h0, fun _ h => absurd h List.not_mem_nil, fun _ c h => ⟨c, h⟩⟩
  | cons p r ih =>
    intro cs0 hf h0
    obtain ⟨n, k⟩ := p
    by_cases hk : k = .free
    · subst hk
      obtain ⟨c, hc⟩ := hf (n, .free) List.mem_cons_self rfl
      obtain ⟨cl, e, h1, h2, h3⟩ := ih ((n, c) :: cs0) (fun x hx => hf x (List.mem_cons_of_mem _ hx)) (fun x c' hx => by
        rw [List.lookup_cons] at hx
        split at hx
        · rename_i hb
          have hxn : x = n := by simpa using hb
          cases hx; rw [hxn]; exact hc
        · exact h0 x c' hx)
      have hn : ∃ c', cl.lookup n = some c' := h3 n c (by simp)
      refine ⟨cl, ?_, h1, fun x hx => ?_, fun x c' hx => ?_⟩
      · rw [List.forIn_cons]
        simp only [beq_self_eq_true, if_true, cellOf, hc]
        exact e
      · rcases List.mem_cons.mp hx with q | hx
        · cases q; exact hn
        · exact h2 x hx
      · by_cases hxn : x = n
        · subst hxn; exact hn
        · exact h3 x c' (by
            have hb : (x == n) = false := by simpa using hxn
            rw [List.lookup_cons, hb]; exact hx)
    · have hb : (k == NameKind.free) = false := by simpa using hk
      obtain ⟨cl, e, h1, h2, h3⟩ := ih cs0 (fun x hx => hf x (List.mem_cons_of_mem _ hx)) h0
      refine ⟨cl, ?_, h1, fun x hx => ?_, h3⟩
      · rw [List.forIn_cons]
        simp only [hb, Bool.false_eq_true, if_false]
        exact e
      · rcases List.mem_cons.mp hx with q | hx
        · cases q; exact absurd rfl hk
        · exact h2 x hx
structure CompScope (sc cs:Scope) (N N':List Str):Prop where
 kind:cs.kind=.function
 ncell:∀ x∈cs.names,x.2≠.cell
 loc:∀ x∈cs.names,x.2=.local->cs.names.lookup x.1=some .local
 free:∀ x∈cs.names,x.2=.free->sc.names.lookup x.1=some .cell\/sc.names.lookup x.1=some .free
 nd:N'.Nodup
 len:N.length<=N'.length
 same:∀ i∈List.range N.length,N'[i]?=N[i]?\/∀ x∈N'[i]?,cs.names.lookup x=none
 out:∀ x∈N'.take N.length,cs.names.lookup x≠some .local
abbrev cxComp (X:Cx) (cs:Scope) (cl:List (Str×Addr)) (N':List Str) (ex:List Addr) (s:Shared) (H:Hp):Cx:=
 { X with N:=N',s₀:=s,H₀:=H,env:=compEnvC cs cl s.heap.objs.size X.env,outer:=X.stack,stack:=X.stack,ex:=ex,fn:=fun _=>false,pn:=[],xe:=fun _ _=>False }
def inner (N':List Str) (σ:St):St:=σ++List.replicate (N'.length-σ.length) none
theorem inner_get {N':List Str} {σ:St} {i:Nat} {v:V} (h:(inner N' σ)[i]?=some (some v)):σ[i]?=some (some v):=by
 unfold inner at h
 by_cases hi:i<σ.length
 ·rwa [List.getElem?_append_left hi] at h
 ·rw [List.getElem?_append_right (by omega),List.getElem?_replicate] at h
  split at h <;> cases h
theorem comp_inv {X:Cx} {pins:List (Addr×Obj)} {σ:St} {H:Hp} {s3 s4:Shared} {cs:Scope} {cl:List (Str×Addr)} {N':List Str} {fp:List Addr} {m:Str->Option Value} (S:CompScope X.env.scope cs X.N N') (I:Inv X pins σ H s3)
  (hcl1:∀ x c,cl.lookup x=some c->X.env.cells.lookup x=some c) (hcl2:∀ x,(x,NameKind.free)∈cs.names->∃ c,cl.lookup x=some c) (hf:∀ b∈fp,FpOk X pins H b) (hlt:∀ b∈fp,b<s3.heap.objs.size)
  (kp:∀ b o,s3.heap.get? b=some o->s4.heap.get? b=some o) (hn:s4.heap.Ns s3.heap.objs.size m) (hos:s4.os=s3.os) (hg:s4.gens=s3.gens):Inv (cxComp X cs cl N' fp s3 H) [] (inner N' σ) H s4:=by
 have kcell:∀ {c:Addr} {v:Option Value},s3.heap.IsCell c v->s4.heap.IsCell c v:=fun {c v} z=>by obtain ⟨o,e,d⟩:=z; exact ⟨o,kp c o e,d⟩
 refine ⟨⟨I.ok.mod,S.kind,I.ok.glob,I.ok.blt,Nat.le_refl _,fun x y c h1 h2=>I.ok.inj x y c (hcl1 x c h1) (hcl1 y c h2),fun x hx=>?_,fun x c h _=>absurd (show false=true from h) (by decide),I.ok.hd,I.ok.frames,.inl rfl,fun b hb=>⟨?_,fun x c e=>(hf b hb).2.2.2.2.1 x c (hcl1 x c e)⟩,I.bs,Nat.le_trans I.ok.bsz I.sz,fun b o e hb=>?_,fun b hb hfs=>?_,I.stack,I.stkFree⟩,
  hos,by rw [hg]; exact I.bare,Un.kept kp,⟨m,hn,fun i x v e1 e2 e3=>?_⟩,fun x c e=>?_,I.hok.fresh (Nat.le_refl _),fun x c e=>I.freeC x c (hcl1 x c e),fun p hp=>absurd (show p∈([]:List (Addr×Obj)) from hp) (by simp),I.hok.kept kp,?_⟩
 ·have hx':(relabel cs X.env).names.lookup x=some .cell\/(relabel cs X.env).names.lookup x=some .free:=hx
  rw [relabel_lookup] at hx'
  cases hl:cs.names.lookup x with
  | none=>rw [hl] at hx'; rcases hx' with h | h <;> cases h
  | some k=>
   have hm:=PySem.mem_of_lookup hl
   by_cases hk:k=.free
   ·subst hk; exact hcl2 x hm
   ·exfalso
    have hb:(k == NameKind.free)=false:=by simpa using hk
    rw [hl] at hx'
    simp only [Option.map_some,hb,Bool.false_and,Bool.false_eq_true,if_false] at hx'
    rcases hx' with h | h
    ·cases h; exact S.ncell _ hm rfl
    ·cases h; exact hk rfl
 ·intro q
  have hb':b=s3.heap.objs.size:=q
  exact absurd (hlt b hb) (by rw [hb']; exact Nat.lt_irrefl _)
 ·obtain ⟨f0,f1,f2,f3,f4,f5⟩:=hf b hb
  rcases f3 with z | z
  ·exact I.ok.noex b o e z
  ·exact absurd (Nat.lt_of_lt_of_le (Heap.lt_size (I.ok.bs b o e).1) z) (Nat.lt_irrefl _)
 ·have hfs':b∈frs X.stack:=hfs
  rcases List.mem_cons.mp (I.stkSub b hfs') with z | z
  ·exact (hf b hb).2.1 z
  ·exact (hf b hb).2.2.1 z
 ·have e2':=inner_get e2
  have hi:i<X.N.length:=by rw [<- I.len]; exact (List.getElem?_eq_some_iff.mp e2').1
  have e1':N'[i]?=some x:=e1
  have e3':Vis (relabel cs X.env) x:=e3
  have hv:∃ k,cs.names.lookup x=some k:=by
   unfold Vis at e3'
   rw [relabel_lookup] at e3'
   cases hl:cs.names.lookup x with
   | none=>rw [hl] at e3'; rcases e3' with h | h | h <;> cases h
   | some k=>exact ⟨k,rfl⟩
  obtain ⟨k,hk⟩:=hv
  have hN:X.N[i]?=some x:=by
   rcases S.same i (List.mem_range.mpr hi) with q | q
   ·rw [<- q]; exact e1'
   ·have:=q x (by rw [e1']; rfl)
    rw [hk] at this; cases this
  have hnl:k≠.local:=fun q=>by
   subst q
   exact S.out x (List.mem_of_getElem? (i:=i) (by rw [List.getElem?_take_of_lt hi]; exact e1')) hk
  have hm:=PySem.mem_of_lookup hk
  have hfree:k=.free:=by
   unfold Vis at e3'
   rw [relabel_lookup,hk] at e3'
   by_cases hkf:k=.free
   ·exact hkf
   ·exfalso
    have hb:(k == NameKind.free)=false:=by simpa using hkf
    simp only [Option.map_some,hb,Bool.false_and,Bool.false_eq_true,if_false] at e3'
    rcases e3' with h | h | h
    ·exact hnl (Option.some.inj h)
    ·exact S.ncell _ hm (Option.some.inj h)
    ·exact hkf (Option.some.inj h)
  subst hfree
  obtain ⟨m0,hn0,hl0⟩:=I.loc
  have hvis:Vis X.env.scope x:=by
   rcases S.free _ hm rfl with h | h
   ·exact .inr (.inl h)
   ·exact .inr (.inr h)
  obtain ⟨u,r,l⟩:=hl0 i x v hN e2' hvis
  refine ⟨u,r,.inr ⟨?_,?_⟩⟩
  ·show (relabel cs X.env).names.lookup x=some .cell\/(relabel cs X.env).names.lookup x=some .free
   rw [relabel_lookup,hk]
   show some (if _ then _ else _)=_\/some (if _ then _ else _)=_
   split
   ·exact .inl rfl
   ·exact .inr rfl
  ·obtain ⟨c,hc⟩:=hcl2 x hm
   have hc':=hcl1 x c hc
   rcases l with ⟨q,_⟩ | ⟨_,c',e,z⟩
   ·exfalso
    have q':X.env.scope.names.lookup x=some .local:=q
    rcases S.free _ hm rfl with h | h <;> (rw [q'] at h; cases h)
   ·rw [hc'] at e; cases e
    exact ⟨c,hc,kcell z⟩
 ·obtain ⟨v,z⟩:=I.cell x c (hcl1 x c e)
  exact ⟨v,kcell z⟩
 ·unfold inner
  rw [List.length_append,List.length_replicate,I.len]
  have:=S.len
  show _=N'.length
  omega
def GKeep (n:Nat) (g:TG):Prop:=∀ (v:V) (σ:St) (H:Hp) (Q:St->Hp->Prop),g v σ H Q->g v σ H fun σ2 H2=>Q σ2 H2/\σ2.length=σ.length/\∀ j,j<n->σ2[j]?=σ[j]?
def GKeeps (n:Nat) (g:TGs):Prop:=∀ (vs:List V) (σ:St) (H:Hp) (Q:St->Hp->Prop),g vs σ H Q->g vs σ H fun σ2 H2=>Q σ2 H2/\σ2.length=σ.length/\∀ j,j<n->σ2[j]?=σ[j]?
theorem gk_name {n i:Nat} (h:n<=i):GKeep n (gName i):=fun v σ H Q q=>⟨q,by simp,fun j hj=>List.getElem?_set_ne (by omega)⟩
theorem gk_nil {n:Nat}:GKeeps n gNil:=fun vs σ H Q zz46=>by obtain ⟨e,q⟩:=zz46; exact ⟨e,q,rfl,fun _ _=>rfl⟩
theorem gk_cons {n i:Nat} {u:TGs} (h:n<=i) (hu:GKeeps n u):GKeeps n (gCons (gName i) u):=fun vs σ H Q zz47=>by
 obtain ⟨v,r,e,q⟩:=zz47
 refine ⟨v,r,e,?_⟩
 have q':=hu r (σ.set i (some v)) H Q q
 show u r (σ.set i (some v)) H _
 have e1:∀ σ2:St,(σ2.length=(σ.set i (some v)).length/\∀ j,j<n->σ2[j]?=(σ.set i (some v))[j]?)=(σ2.length=σ.length/\∀ j,j<n->σ2[j]?=σ[j]?):=fun σ2=>by
  have:∀ j,j<n->(σ.set i (some v))[j]?=σ[j]?:=fun j hj=>List.getElem?_set_ne (by omega)
  rw [List.length_set]
  exact propext ⟨fun zz48=>by obtain ⟨a,b⟩:=zz48; exact ⟨a,fun j hj=>(b j hj).trans (this j hj)⟩,fun zz49=>by obtain ⟨a,b⟩:=zz49; exact ⟨a,fun j hj=>(b j hj).trans (this j hj).symm⟩⟩
 have e2:(fun (σ2:St) (H2:Hp)=>Q σ2 H2/\σ2.length=σ.length/\∀ j,j<n->σ2[j]?=σ[j]?)=fun σ2 H2=>Q σ2 H2/\σ2.length=(σ.set i (some v)).length/\∀ j,j<n->σ2[j]?=(σ.set i (some v))[j]?:=by
  funext σ2 H2; rw [e1]
 rw [e2]; exact q'
theorem gk_tup {K:Frag} {n k:Nat} {u:TGs} (hu:GKeeps n u):GKeep n (gTup K k u):=fun v σ H Q zz50=>by obtain ⟨a,xs,e,h1,h2,q⟩:=zz50; exact ⟨a,xs,e,h1,h2,hu xs σ H Q q⟩
def PIf (X:Cx) (ifs:List Expr) (t:TT):Prop:=
 ∀ (pins:List (Addr×Obj)) (s:Shared) (σ:St) (H:Hp) (Q:Bool->Hp->Prop),Inv X pins σ H s->t σ H Q ->
  wpAny (model X.prog X.w) X.A (forIn ifs true fun c r=>if r=true then do let ok <- isTrue c X.env (eval c X.env); pure (ForInStep.yield ok) else pure (ForInStep.yield r)) (TP X pins σ Q) X.xe s
def tYes:TT:=fun _ H Q=>Q true H
theorem pif_nil {X:Cx}:PIf X [] tYes:=fun _ _ _ H _ I h=>wpAny_tests_nil ⟨H,I,h⟩
theorem pif_one {X:Cx} {c:Expr} {t:TT} (h:PT X c t):PIf X [c] t:=fun pins s σ H Q I q=>wpAny_tests_one (h pins s σ H Q I q)
def CompW (J:It) (D:Addr) (g:TG) (tc:TT) (te:TE) (σ':St) (H1:Hp) (Q:Hp->Prop):Prop:=
 ∃ W:Nat->Nat->Hp->Prop,(∃ m,W 0 m (upd H1 D (.lst [])))/\∀ i m H2,W i m H2 ->
  (J.stop i H2/\Q H2)\/(J.go i H2/\∀ x H3,J.yld i H2 x H3->g x σ' H3 fun σ4 H4=>tc σ4 H4 fun b H5=>
   if b=true then te σ4 H5 fun y H6=>∃ ys,H6 D=some (.lst ys)/\ys.length<sizeLine/\∃ m',m'<m/\W (i+1) m' (upd H6 D (.lst (ys ++ [y])))
   else ∃ m',m'<m/\W (i+1) m' H5)
def tComp (N':List Str) (wi:TI) (g:TG) (tc:TT) (te:TE):TE:=fun σ H Q=>wi σ H fun J H1=>∀ D,H1 D=none->CompW J D g tc te (inner N' σ) H1 (Q (.ref D))
section
variable {X:Cx} {cs:Scope} {N':List Str} {tg iter elt:Expr} {ifs:List Expr} {wi:TI} {g:TG} {tc:TT} {te:TE} {pos:Pos}
theorem fp_in {cl:List (Str×Addr)} {pins:List (Addr×Obj)} {fp:List Addr} {H3 H':Hp} {s3:Shared} (hcl1:∀ x c,cl.lookup x=some c->X.env.cells.lookup x=some c) (stk:∀ b∈frs X.stack,b∈X.env.locals::X.fs)
  (hf3:∀ b∈fp,FpOk X pins H3 b) (hlt:∀ b∈fp,b<s3.heap.objs.size) (hn:∀ b∈fp,H' b=none):∀ b∈fp,FpOk (cxComp X cs cl N' fp s3 H3) [] H' b:=fun b hb=>by
 obtain ⟨f0,f1,f2,f3,f4,f5⟩:=hf3 b hb
 refine ⟨hn b hb,Nat.ne_of_lt (hlt b hb),fun hfs=>?_,.inl hb,fun x c e=>f4 x c (hcl1 x c e),fun p hp=>absurd (show p∈([]:List (Addr×Obj)) from hp) (by simp)⟩
 have hfs':b∈frs X.stack:=hfs
 rcases List.mem_cons.mp (stk b hfs') with z | z
 ·exact f1 z
 ·exact f2 z
theorem comp_loop {cl:List (Str×Addr)} {pins:List (Addr×Obj)} {σ:St} {R:Result->Shared->Prop} {Q:Hp->Prop} {s3 s4:Shared} {H3:Hp} {it D:Addr} {fp:List Addr} {tn:Nat->Heap->Prop} {J:It} {W:Nat->Nat->Hp->Prop} {m0:Nat}
  (hc:X.calm=true) (hg:PG (cxComp X cs cl N' fp s3 H3) tg g) (hk:GKeep X.N.length g) (ht:PIf (cxComp X cs cl N' fp s3 H3) ifs tc) (he:PE (cxComp X cs cl N' fp s3 H3) elt te)
  (hcl1:∀ x c,cl.lookup x=some c->X.env.cells.lookup x=some c)
  (I3:Inv X pins σ H3 s3) (I4:Inv (cxComp X cs cl N' fp s3 H3) [] (inner N' σ) H3 s4) (T:Turn X.prog X.w X.K tg J fp it tn) (st:tn 0 s4.heap) (hf3:∀ b∈fp,FpOk X pins H3 b) (hlt:∀ b∈fp,b<s3.heap.objs.size)
  (w0:W 0 m0 H3)
  (turn:∀ i m H2,W i m H2->(J.stop i H2/\Q H2)\/(J.go i H2/\∀ x H3,J.yld i H2 x H3->g x (inner N' σ) H3 fun σ4 H4=>tc σ4 H4 fun b H5=>
   if b=true then te σ4 H5 fun y H6=>∃ ys,H6 D=some (.lst ys)/\ys.length<sizeLine/\∃ m',m'<m/\W (i+1) m' (upd H6 D (.lst (ys ++ [y])))
   else ∃ m',m'<m/\W (i+1) m' H5))
  (hR:∀ (H':Hp) (s':Shared),Inv X pins σ H' s'->Q H'->(∃ m,s'.heap.Ns s3.heap.objs.size m)->FpOk X pins H' s3.heap.objs.size->R (.ok .next) s') :
  codeAny (model X.prog X.w) X.A (.compLoop (.ListComp elt [⟨tg,iter,ifs,0⟩] cs pos) 0 (.ref it) (.ref D) (cxComp X cs cl N' fp s3 H3).env) R s4:=by
 have fpx:∀ {H':Hp},(∀ b∈fp,H' b=none)->∀ b∈fp,FpOk (cxComp X cs cl N' fp s3 H3) [] H' b:=fun hn=>fp_in hcl1 I3.stkSub hf3 hlt hn
 have lσ:(inner N' σ).length=N'.length:=I4.len
 refine codeAny_loop rfl (fun n s'=>∃ i H',Inv (cxComp X cs cl N' fp s3 H3) [] (inner N' σ) H' s'/\tn i s'.heap/\(∀ b∈fp,H' b=none)/\W i n H') (fun n s5 hI=>?_) m0 ⟨0,H3,I4,st,fun b hb=>(hf3 b hb).1,w0⟩
 obtain ⟨i,H5,I5,st5,fr5,w5⟩:=hI
 show wpAny _ _ ((compTurn (.ListComp elt [⟨tg,iter,ifs,0⟩] cs pos) 0 (.ref it) (.ref D) (cxComp X cs cl N' fp s3 H3).env).onRaise _) _ _ s5
 refine wpAny_noted ?_
 rw [compTurn_list]
 refine wpAny_bind (wpAny_standAt (wpAny_bind ?_))
 have cvt:∀ {α:Type} {t:Sem α} {P:α->Shared->Prop} {E':Value->Shared->Prop} {s:Shared},wpAny (model X.prog X.w) X.A t P (fun _ _=>False) s->wpAny (model X.prog X.w) X.A t P E' s:=fun h=>wpAny_mono h (fun _ _ q=>q) fun _ _ q=>q.elim
 rcases turn i n H5 w5 with ⟨stop,q⟩ | ⟨go,step⟩
 ·refine thn (T.done (cxComp X cs cl N' fp s3 H3) rfl rfl rfl hc i [] s5 _ H5 _ I5 (fpx fr5) st5 stop) fun r s6 ⟨hr,I6⟩=>?_
  subst hr
  refine wpAny_pure ?_
  have J6:Inv X pins σ H5 s6:=I3.call' (H':=H5) (ch:=fp) I6.os I6.base I6.hok I6.bare fun b hb=>by
   obtain ⟨f0,f1,f2,f3,f4,f5⟩:=hf3 b hb
   exact ⟨f3,f1,f4,f5⟩
  obtain ⟨m,hn,_⟩:=I6.loc
  exact hR H5 s6 J6 q ⟨m,hn⟩ (I3.fpOk (Nat.le_refl _) I6.free)
 ·refine thn (T.item (cxComp X cs cl N' fp s3 H3) rfl rfl rfl hc i [] s5 _ H5 _ I5 (fpx fr5) st5 go) fun r s6 ⟨u,hr,h6⟩=>?_
  subst hr
  refine wpAny_bind (thn h6 fun _ s7 zz53=>?_)
  obtain ⟨x,H7,I7,r7,y7,st7,fr7⟩:=zz53
  have I7':=I7.pinned (fpx fr7) (T.obj _ _ st7)
  refine wpAny_bind (cvt (thn (hg _ s7 _ H7 x u _ I7' r7 (hk x _ H7 _ (step x H7 y7))) fun _ s8 zz54=>?_))
  obtain ⟨σ8,H8,I8,q8,l8,k8⟩:=zz54
  refine wpAny_bind (cvt (thn (ht _ s8 σ8 H8 _ I8 q8) fun b s9 zz55=>?_))
  obtain ⟨H9,I9,q9⟩:=zz55
  have again:∀ {s':Shared} {H':Hp},Inv (cxComp X cs cl N' fp s3 H3) ([]++pinsAt fp s7.heap) σ8 H' s'->(∃ m',m'<n/\W (i+1) m' H') ->
    ∃ m',m'<n/\∃ i H',Inv (cxComp X cs cl N' fp s3 H3) [] (inner N' σ) H' s'/\tn i s'.heap/\(∀ b∈fp,H' b=none)/\W i m' H':=fun {s' H'} I' zz56=>by
   obtain ⟨m',hm,w'⟩:=zz56
   refine ⟨m',hm,i+1,H',(I'.unpinned).weak (by rw [l8]) (fun j v e=>?_),T.keep _ _ _ st7 fun b hb o e=>(I'.pin (b,o) (List.mem_append_right _ (List.mem_append_right _ (mem_pinsAt hb e)))).1,fun b hb=>?_,w'⟩
   ·have hj:j<X.N.length:=by rw [<- I3.len]; exact (List.getElem?_eq_some_iff.mp (inner_get e)).1
    rw [k8 j hj]; exact e
   ·obtain ⟨o,e,d⟩:=T.obj _ _ st7 b hb
    exact (I'.pin (b,o) (List.mem_append_right _ (List.mem_append_right _ (mem_pinsAt hb e)))).2.1
  cases b with
  | false=>
   have q9':∃ m',m'<n/\W (i+1) m' H9:=q9
   exact wpAny_pure ⟨rfl,again I9 q9'⟩
  | true=>
   have q9':te σ8 H9 _:=q9
   refine wpAny_bind (wpAny_bind (cvt (thn (he _ s9 σ8 H9 _ I9 q9') fun v s10 zz57=>?_)))
   obtain ⟨y,H10,I10,r10,ys,hD,hy,q10⟩:=zz57
   refine wpAny_bind (cvt (thn (mt_append _ s10 σ8 H10 (.ref D) [y] (.ref D) [v] (fun _ H'=>∃ m',m'<n/\W (i+1) m' H') I10 rfl (.cons r10 .nil) ⟨D,ys,y,rfl,rfl,hD,hy,q10⟩) fun _ s11 zz58=>?_))
   obtain ⟨_,H11,I11,_,q11⟩:=zz58
   exact wpAny_pure (wpAny_pure ⟨rfl,again I11 q11⟩)
theorem comp_core {cl:List (Str×Addr)} {pins:List (Addr×Obj)} {σ:St} {R:Value->Addr->Result->Shared->Prop} {Q:V->Hp->Prop} {s2:Shared} {itv:Value} (S:CompScope X.env.scope cs X.N N') (hc:X.calm=true)
  (hg:∀ cl ex s H,PG (cxComp X cs cl N' ex s H) tg g) (hk:GKeep X.N.length g) (ht:∀ cl ex s H,PIf (cxComp X cs cl N' ex s H) ifs tc) (he:∀ cl ex s H,PE (cxComp X cs cl N' ex s H) elt te)
  (hcl1:∀ x c,cl.lookup x=some c->X.env.cells.lookup x=some c) (hcl2:∀ x,(x,NameKind.free)∈cs.names->∃ c,cl.lookup x=some c)
  (h:PIE X pins σ tg (fun J H1=>∀ D,H1 D=none->CompW J D g tc te (inner N' σ) H1 (Q (.ref D))) itv s2)
  (hR:∀ (D C:Addr) (H':Hp) (s':Shared),Inv X pins σ H' s'->Q (.ref D) H'->(∃ m,s'.heap.Ns C m)->FpOk X pins H' C->R (.ref D) C (.ok .next) s') :
  wpAny (model X.prog X.w) X.A (newList []) (fun acc s₃=>wpAny (model X.prog X.w) X.A (newFunctionEnv cs X.env.globals cl [] X.env.qual none .none (some X.env)) (fun cenv s₄=>
   codeAny (model X.prog X.w) X.A (.compStart (.ListComp elt [⟨tg,iter,ifs,0⟩] cs pos) 0 itv acc { cenv with scope:=relabel cs X.env }) (R acc cenv.locals) s₄) X.xe s₃) X.xe s2:=by
 obtain ⟨it,fp,tn,J,H2,e,I2,T,st2,f2,hw⟩:=h
 subst e
 refine wpAny_newObj_type (wpAny_newFunctionEnv S.ncell (by intro y hy; simp at hy) (fun h1 hns1 hsb1=>?_) S.kind)
 dsimp only at hns1 hsb1 ⊢
 have hD:=I2.hok.fresh (Nat.le_refl _)
 obtain ⟨W,⟨m0,w0⟩,turn⟩:=hw s2.heap.objs.size hD
 have I3:Inv X pins σ (upd H2 s2.heap.objs.size (.lst [])) { s2 with heap:=s2.heap.push { cls:=.type "list",dict:=none,data:=.seq ([]:List Value).toArray } }:=I2.lnew (t':=s2.toks) .nil (Nat.zero_le _)
 have hfp3:∀ b∈fp,b<s2.heap.objs.size:=fun b hb=>by
  obtain ⟨o,e,_⟩:=T.obj 0 _ st2 b hb
  exact Heap.lt_size e
 have hf3:∀ b∈fp,FpOk X pins (upd H2 s2.heap.objs.size (.lst [])) b:=fun b hb=>by
  obtain ⟨f0,r⟩:=f2 b hb
  exact ⟨by rw [upd_ne (Nat.ne_of_lt (hfp3 b hb))]; exact f0,r⟩
 have hlt:∀ b∈fp,b<(s2.heap.push { cls:=.type "list",dict:=none,data:=.seq ([]:List Value).toArray }).objs.size:=fun b hb=>by rw [Heap.size_push]; exact Nat.lt_succ_of_lt (hfp3 b hb)
 have kp:∀ b o,(s2.heap.push { cls:=.type "list",dict:=none,data:=.seq ([]:List Value).toArray }).get? b=some o->h1.get? b=some o:=fun b o e=>hsb1.extBut b o (Nat.ne_of_lt (Heap.lt_size e)) (Heap.get?_push_of_some _ e)
 have I4:=comp_inv (cs:=cs) (cl:=cl) (N':=N') (fp:=fp) (s4:={ s2 with heap:=h1,toks:=s2.toks+([]:List (Str×Value)).length }) S I3 hcl1 hcl2 hf3 hlt kp hns1 rfl rfl
 have st4:tn 0 h1:=T.keep 0 _ _ st2 fun b hb o e=>kp b o (Heap.get?_push_of_some _ e)
 have loop:=comp_loop (R:=R (.ref s2.heap.objs.size) (s2.heap.push { cls:=.type "list",dict:=none,data:=.seq ([]:List Value).toArray }).objs.size) (D:=s2.heap.objs.size) (iter:=iter) (pos:=pos) (it:=it) (Q:=Q (.ref s2.heap.objs.size)) hc (hg cl fp _ _) hk (ht cl fp _ _) (he cl fp _ _) hcl1 I3 I4 T st4 hf3 hlt w0 turn fun H' s' I' q n f=>hR _ _ H' s' I' q n f
 exact codeAny_compStart_list loop (T.self _ 0 _ _ _ st4 loop)
theorem pe_comp (S:CompScope X.env.scope cs X.N N') (hc:X.calm=true) (hi:PI X tg iter wi)
  (hg:∀ cl ex s H,PG (cxComp X cs cl N' ex s H) tg g) (hk:GKeep X.N.length g) (ht:∀ cl ex s H,PIf (cxComp X cs cl N' ex s H) ifs tc) (he:∀ cl ex s H,PE (cxComp X cs cl N' ex s H) elt te)
  (hs:∀ x,foldedSetIterable iter X.env x=pure x:=by intro _; rfl):PE X (.ListComp elt [⟨tg,iter,ifs,0⟩] cs pos) (tComp N' wi g tc te):=by
 intro pins s σ H Q I h
 obtain ⟨cl,e,h1,h2,_⟩:=closure_of (env:=X.env) cs.names [] (fun x hx hk=>I.ok.has x.1 (S.free x hx hk)) (fun _ _ z=>nomatch z)
 have hclos:closureFor cs X.env=pure cl:=by
  simp only [closureFor]
  rw [e]; rfl
 rw [eval_ListComp]
 refine wpAny_comprehension_free (use:=none) rfl hs hclos S.kind S.loc (thn (hi pins s σ H _ I h) fun v s1 q1=>thn q1 fun itv s2 q2=>?_)
 refine comp_core (R:=fun acc C=>compPost (model X.prog X.w) X.A X.xe none (EP X pins σ Q) acc C) (Q:=Q) S hc hg hk ht he h1 h2 q2 fun D C H' s' I' q n f=>?_
 obtain ⟨m,hn⟩:=n
 obtain ⟨f0,f1,f2,f3,f4,f5⟩:=f
 exact ⟨m,hn,fun h' sb=>⟨.ref D,H',I'.turned (t':=s'.toks) (fun b o hb e=>sb.extBut b o hb e) f0 f1 f3 f4 f5,rfl,q⟩⟩
theorem ps_setc {i:Nat} {y:Str} {py spos:Pos} (S:CompScope X.env.scope cs X.N N') (hc:X.calm=true) (hi:PI X tg iter wi)
  (hg:∀ cl ex s H,PG (cxComp X cs cl N' ex s H) tg g) (hk:GKeep X.N.length g) (ht:∀ cl ex s H,PIf (cxComp X cs cl N' ex s H) ifs tc) (he:∀ cl ex s H,PE (cxComp X cs cl N' ex s H) elt te)
  (hN:X.N.Nodup) (hy:X.N[i]?=some y) (hl:Loc X.env.scope y)
  (hsw:swapsWith (.ListComp elt [⟨tg,iter,ifs,0⟩] cs pos) (some (.Name y py)) spos.line X.env=pure true:=by rfl) (hf:X.fn y=true\/X.env.scope.names.lookup y=some .local:=by first | exact .inl rfl | exact .inr rfl | assumption)
  (hs:∀ x,foldedSetIterable iter X.env x=pure x:=by intro _; rfl):PS X (.Assign [.Name y py] (.ListComp elt [⟨tg,iter,ifs,0⟩] cs pos) spos) (tAsg (tComp N' wi g tc te) (gName i)):=by
 intro pins s σ H Q I h
 obtain ⟨cl,e,h1,h2,_⟩:=closure_of (env:=X.env) cs.names [] (fun x hx hk=>I.ok.has x.1 (S.free x hx hk)) (fun _ _ z=>nomatch z)
 have hclos:closureFor cs X.env=pure cl:=by
  simp only [closureFor]
  rw [e]; rfl
 rw [exec_Assign_Name_used _ _ _ _ hsw]
 refine wpAny_bind (wpAny_standAt (wpAny_bind ?_))
 show wpAny _ _ (comprehension (.ListComp elt [⟨tg,iter,ifs,0⟩] cs pos) cs X.env _ (newList []) false (eval iter X.env) (some (assign (.Name y py) X.env))>>=_) _ _ s
 refine wpAny_bind (thn (wpAny_comprehension_free (use:=some (assign (.Name y py) X.env)) (Q:=fun _ s'=>SP X pins Q .next s') rfl hs hclos S.kind S.loc (thn (hi pins s σ H _ I h) fun v s1 q1=>thn q1 fun itv s2 q2=>?_)) fun _ s' q=>wpAny_pure (wpAny_pure q))
 refine comp_core (R:=fun acc C=>compPost (model X.prog X.w) X.A X.xe (some (assign (.Name y py) X.env)) (fun _ s'=>SP X pins Q .next s') acc C) (Q:=fun x H1=>gName i x σ H1 Q.nx) S hc hg hk ht he h1 h2 q2 fun D C H' s' I' q n f=>?_
 obtain ⟨m,hn⟩:=n
 obtain ⟨f0,f1,f2,f3,f4,f5⟩:=f
 show wpAny _ _ (assign (.Name y py) X.env (.ref D)) _ _ _
 refine wpAny_assign_Name (store_ok2 (v:=.ref D) (u:=.ref D) I' hN hy hl rfl (fun s'' I'' zz59=>?_) hf)
 obtain ⟨a,sb,ha⟩:=zz59
 have hCa:C≠a:=by
  rcases ha with rfl | ha
  ·exact f1
  ·exact fun q=>f4 _ _ ha q.symm
 refine ⟨m,hn.sameBut sb hCa,fun h' sb'=>?_⟩
 exact ⟨_,H',I''.turned (t':=s''.toks) (fun b o hb e=>sb'.extBut b o hb e) f0 f1 f3 f4 f5,q⟩
end
end L2
namespace L2
open PySem PySem.Spec PyProof.Rows
theorem Sq.same {K:Frag} {H H':Hp} {t:Bool} {a:Addr} {xs:List V} (e:Same H H') (h:Sq K H t a xs):Sq K H' t a xs:=by
 unfold Sq at h ⊢
 split
 ·rename_i ht; rw [if_pos ht] at h
  rcases h with (h | ⟨o,h⟩) | h
  ·exact .inl (.inl (e _ _ h))
  ·exact .inl (.inr ⟨o,e _ _ h⟩)
  ·exact .inr h
 ·rename_i ht; rw [if_neg ht] at h
  exact e.seq h
def seqAt (K:Frag) (H:Hp) (p:Addr) (R:List V->Prop):Prop:=match H p with
 | some (.tup xs)=>R xs
 | some (.lst xs)=>R xs
 | _=>∃ t xs,Sq K H t p xs/\R xs
section
variable {X:Cx}
def ItQ (K:Frag) (t:Bool) (a:Addr):It:=if t=true then Itt K a else Itl K a
def iSq (K:Frag) (tl:TE):TI:=fun σ H R=>tl σ H fun x H1=>∃ a,x=.ref a/\∃ t xs,Sq K H1 t a xs/\R (ItQ K t a) H1
theorem pi_sq {tg l:Expr} {tl:TE} (hl:PE X l tl):PI X tg l (iSq X.K tl):=by
 intro pins s σ H R I h
 refine thn (hl pins s σ H _ I h) fun v s1 zz60=>?_
 obtain ⟨x,H1,I1,r1,q1⟩:=zz60
 obtain ⟨a,e,t,xs,hq,q⟩:=q1
 subst e
 cases r1
 cases t with
 | true=>
  have hq':SqT X.K H1 a xs:=by unfold Sq at hq; rw [if_pos rfl] at hq; exact hq
  obtain ⟨its,rv,p,hz⟩:=I1.tuple hq'
  refine wpAny_pyIter_tuple (show s1.heap.IsTuple a its.toArray from p) ?_
  refine ⟨s1.heap.objs.size,[s1.heap.objs.size],_,Itt X.K a,H1,rfl,I1.kept (t':=s1.toks) fun b o e=>Heap.get?_push_of_some _ e,turn_tuple a _,⟨_,Heap.get?_push_size _ rfl,rfl,rfl⟩,fun b hb=>?_,q⟩
  have e:b=s1.heap.objs.size:=by simpa using hb
  subst e
  exact I1.fpOk (Nat.le_refl _) (I1.hok.fresh (Nat.le_refl _))
 | false=>
  have hq':SqL X.K H1 a xs:=by unfold Sq at hq; rw [if_neg Bool.false_ne_true] at hq; exact hq
  obtain ⟨its,rv,p,hz⟩:=I1.list hq'
  refine wpAny_pyIter_list p.isList ?_
  refine ⟨s1.heap.objs.size,[s1.heap.objs.size],_,Itl X.K a,H1,rfl,I1.kept (t':=s1.toks) fun b o e=>Heap.get?_push_of_some _ e,turn_list a _,⟨_,Heap.get?_push_size _ rfl,rfl,rfl⟩,fun b hb=>?_,q⟩
  have e:b=s1.heap.objs.size:=by simpa using hb
  subst e
  exact I1.fpOk (Nat.le_refl _) (I1.hok.fresh (Nat.le_refl _))
theorem bt_int:bootBuiltins "int" = some (.type "int"):=by decide +kernel
theorem bt_list:bootBuiltins "list" = some (.type "list"):=by decide +kernel
theorem bt_tuple:bootBuiltins "tuple" = some (.type "tuple"):=by decide +kernel
theorem bt_max:bootBuiltins "max" = some (.builtin "max"):=by decide +kernel
def tyO:Option HO->Option String
 | some (.lst _)=>some "list"
 | some (.tup _)=>some "tuple"
 | some (.dK _)=>some "dict"
 | _=>none
def tyB (H:Hp):V->Option String
 | .non=>some "NoneType"
 | .bl _=>some "bool"
 | .int _=>some "int"
 | .str _=>some "str"
 | .ref a=>tyO (H a)
 | _=>none
def isiB (A T:String):Option Bool:=
 if A=T then some true else if A = "bool" /\ T = "int" then some true
 else if (A = "NoneType" \/ A = "bool" \/ A = "int" \/ A = "str" \/ A = "list" \/ A = "tuple" \/ A = "dict")/\(T = "bool" \/ T = "int" \/ T = "list" \/ T = "tuple") then some false else none
theorem tyB_ok {K:Frag} {H:Hp} {x:V} {A:String} (h:tyB H x=some A):TyOf K H x (.type A):=by
 cases x with
 | non=>cases h; exact .non
 | bl _=>cases h; exact .bl _
 | int _=>cases h; exact .int _
 | str _=>cases h; exact .str _
 | ref a=>
  have h:tyO (H a)=some A:=h
  cases e:H a with
  | none=>rw [e] at h; cases h
  | some o=>
   rw [e] at h
   cases o <;> first | (cases h; exact .lst e) | (cases h; exact .tup e) | (cases h; exact .dK e) | cases h
 | _=>cases h
theorem isiB_ok {K:Frag} {A T:String} {b:Bool} (h:isiB A T=some b):PySem.W.kitOne K (.type A) (.type T)=some b:=by
 unfold isiB at h
 split at h
 ·rename_i e; subst e; cases h
  unfold PySem.W.kitOne
  rw [if_pos (by simp)]
 ·split at h
  ·rename_i e; obtain ⟨rfl,rfl⟩:=e; cases h; with_unfolding_all rfl
  ·split at h
   ·rename_i h1 h2 e
    obtain ⟨e1,e2⟩:=e
    cases h
    rcases e1 with rfl | rfl | rfl | rfl | rfl | rfl | rfl <;> rcases e2 with rfl | rfl | rfl | rfl <;>
     first | exact absurd rfl h1 | exact absurd ⟨rfl,rfl⟩ h2 | with_unfolding_all rfl
   ·cases h
def rIsi:List V->Hp->VK->Prop:=fun xs H Q=>∃ x T,xs = [x,.ty T]/\∃ A,tyB H x=some A/\∃ b,isiB A T=some b/\Q (.bl b) H
theorem call_isi:CallR X (.builtin "isinstance") rIsi:=by
 intro pins s σ H xs us Q I r h
 obtain ⟨x,T,rfl,A,ty,b,e,q⟩:=h
 obtain ⟨u,w',rfl,r1,r2⟩:=vals2 r
 have e2:w'=Value.type T:=r2
 subst e2
 exact isinst_ok I r1 (tyB_ok ty) (isiB_ok e) fun tk=>⟨.bl b,H,I.tok tk,rfl,q⟩
end
theorem isi_bb:isiB "bool" "bool" = some true:=by decide
theorem isi_bi:isiB "bool" "int" = some true:=by decide
theorem isi_ib:isiB "int" "bool" = some false:=by decide
theorem isi_ii:isiB "int" "int" = some true:=by decide
theorem isi_tt:isiB "tuple" "tuple" = some true:=by decide
theorem isi_ll:isiB "list" "list" = some true:=by decide
theorem isi_ni:isiB "NoneType" "int" = some false:=by decide
theorem isi_nb:isiB "NoneType" "bool" = some false:=by decide
theorem isi_si:isiB "str" "int" = some false:=by decide
theorem isi_sb:isiB "str" "bool" = some false:=by decide
theorem isi_li:isiB "list" "int" = some false:=by decide
theorem isi_lb:isiB "list" "bool" = some false:=by decide
theorem isi_ti:isiB "tuple" "int" = some false:=by decide
theorem isi_tb:isiB "tuple" "bool" = some false:=by decide
theorem ixN_int {n:Nat} {i:Int} (h0:0<=i) (h1:i<n):ixN n i=some i.toNat:=by unfold ixN; rw [if_pos h0,if_pos h1]
theorem mem_getD {ms:List Int} {P:Int->Prop} (h:∀ x∈ms,P x) {i:Nat} (hi:i<ms.length):P (ms.getD i 0):=by
 have:ms.getD i 0=ms[i]:=by simp [hi]
 rw [this]; exact h _ (List.getElem_mem hi)
structure Runs (J:It) (n:Nat) (H1:Hp) (Y:Nat->V->Hp->Hp->Prop):Prop where
 go:∀ i H,i<n->Same H1 H->J.go i H
 stop:∀ H,Same H1 H->J.stop n H
 yld:∀ i H x H',i<n->Same H1 H->J.yld i H x H'->Y i x H H'
theorem runs_zip2 {K:Frag} {t u:Bool} {a b:Addr} {xs ys:List V} {H1:Hp} (h:Sq K H1 t a xs) (h':Sq K H1 u b ys) :
  Runs (ItZ K [(t,a),(u,b)]) (min xs.length ys.length) H1 fun i x H H'=>∃ p y z,x=.ref p/\H p=none/\H'=upd H p (.tup [y,z])/\xs[i]?=some y/\ys[i]?=some z:=by
 refine ⟨fun i H hi s v hv=>?_,fun H s=>⟨fun v hv=>?_,?_⟩,fun i H x H' hi s hy=>?_⟩
 ·simp only [List.mem_cons,List.not_mem_nil,or_false] at hv
  rcases hv with rfl | rfl
  ·exact ⟨xs,xs[i]'(Nat.lt_of_lt_of_le hi (Nat.min_le_left _ _)),Sq.same s h,by simp⟩
  ·exact ⟨ys,ys[i]'(Nat.lt_of_lt_of_le hi (Nat.min_le_right _ _)),Sq.same s h',by simp⟩
 ·simp only [List.mem_cons,List.not_mem_nil,or_false] at hv
  rcases hv with rfl | rfl
  ·exact ⟨xs,Sq.same s h⟩
  ·exact ⟨ys,Sq.same s h'⟩
 ·rcases Nat.le_total xs.length ys.length with q | q
  ·exact ⟨(t,a),by simp,xs,Sq.same s h,by omega⟩
  ·exact ⟨(u,b),by simp,ys,Sq.same s h',by omega⟩
 ·obtain ⟨p,zs,e1,e2,e3,pr⟩:=hy
  cases pr with
  | cons r1 pr=>
   cases pr with
   | cons r2 pr=>
    cases pr
    exact ⟨p,_,_,e1,e2,e3,r1 xs (Sq.same s h),r2 ys (Sq.same s h')⟩
theorem runs_zip3 {K:Frag} {t u w:Bool} {a b c:Addr} {xs ys zs:List V} {H1:Hp} (h:Sq K H1 t a xs) (h':Sq K H1 u b ys) (h'':Sq K H1 w c zs) :
  Runs (ItZ K [(t,a),(u,b),(w,c)]) (min xs.length (min ys.length zs.length)) H1 fun i x H H'=>∃ p y z v,x=.ref p/\H p=none/\H'=upd H p (.tup [y,z,v])/\xs[i]?=some y/\ys[i]?=some z/\zs[i]?=some v:=by
 refine ⟨fun i H hi s v hv=>?_,fun H s=>⟨fun v hv=>?_,?_⟩,fun i H x H' hi s hy=>?_⟩
 ·simp only [List.mem_cons,List.not_mem_nil,or_false] at hv
  rcases hv with rfl | rfl | rfl
  ·exact ⟨xs,xs[i]'(Nat.lt_of_lt_of_le hi (Nat.min_le_left _ _)),Sq.same s h,by simp⟩
  ·exact ⟨ys,ys[i]'(Nat.lt_of_lt_of_le hi (Nat.le_trans (Nat.min_le_right _ _) (Nat.min_le_left _ _))),Sq.same s h',by simp⟩
  ·exact ⟨zs,zs[i]'(Nat.lt_of_lt_of_le hi (Nat.le_trans (Nat.min_le_right _ _) (Nat.min_le_right _ _))),Sq.same s h'',by simp⟩
 ·simp only [List.mem_cons,List.not_mem_nil,or_false] at hv
  rcases hv with rfl | rfl | rfl
  ·exact ⟨xs,Sq.same s h⟩
  ·exact ⟨ys,Sq.same s h'⟩
  ·exact ⟨zs,Sq.same s h''⟩
 ·have:min xs.length (min ys.length zs.length)=xs.length\/min xs.length (min ys.length zs.length)=ys.length\/min xs.length (min ys.length zs.length)=zs.length:=by omega
  rcases this with q | q | q
  ·exact ⟨(t,a),by simp,xs,Sq.same s h,by omega⟩
  ·exact ⟨(u,b),by simp,ys,Sq.same s h',by omega⟩
  ·exact ⟨(w,c),by simp,zs,Sq.same s h'',by omega⟩
 ·obtain ⟨p,vs,e1,e2,e3,pr⟩:=hy
  cases pr with
  | cons r1 pr=>
   cases pr with
   | cons r2 pr=>
    cases pr with
    | cons r3 pr=>
     cases pr
     exact ⟨p,_,_,_,e1,e2,e3,r1 xs (Sq.same s h),r2 ys (Sq.same s h'),r3 zs (Sq.same s h'')⟩
structure Def (K:Frag) (mg:Str->Option Value) (x:Str) (st:Stmt) (ps:List Str) (f:Addr) (fd:FuncData):Prop where
 F:Fun K x x st f fd
 m:mg x=some (.ref f)
 b:Binds K fd ps []
section
variable {X:Cx}
theorem pg_tupK (K:Frag) {es:List Expr} {pos:Pos} {k:Nat} {t:TGs} (n:Nat) (hc:X.calm=true) (h:PGs X es t) (hK:X.K=K:=by rfl)
  (hn:(assignEach es X.env).length=n:=by rfl) (hst:(assignEach es X.env).findIdx? (·.1)=none:=by rfl):PG X (.Tuple es k pos) (gTup K n t):=by subst hK; exact pg_tup hc h hn hst
def tApp (to:TE) (te:TE):TE:=fun σ H Q=>to σ H fun x H1=>∃ p,x=.ref p/\(∃ xs,H1 p=some (.lst xs))/\te σ H1 fun y H2=>match H2 p with
 | some (.lst xs)=>xs.length<sizeLine/\Q .non (upd H2 p (.lst (xs ++ [y])))
 | _=>False
theorem pe_append {o e:Expr} {to te:TE} {apos cpos:Pos} (ho:PE X o to) (ha:PE X e te)
  (hbase:attributeBase o "append" X.env (eval o X.env)=eval o X.env:=by rfl)
  (hfew:((backTo cpos (starEach [e] X.env)).all (fun x=>!x.1)&&(backToKw cpos (keywordEach [] X.env)).all (fun x=>x.1.isSome)
   && decide (([e]:List Expr).length+([]:List Keyword).length+(if ([]:List Keyword).isEmpty then 0 else 1)<30))=true:=by rfl)
  (hline:(apos.endLine == cpos.line)=true:=by rfl) (hs:starEach [e] X.env=(false,eval e X.env)::starEach [] X.env:=by rfl):PE X (.Call (.Attribute o "append" apos) [e] [] cpos) (tApp to te):=by
 intro pins s σ H Q I h
 refine wpAny_Call_method_late hbase hfew hline rfl (thn (ho pins s σ H _ I h) fun v s1 zz61=>?_)
 obtain ⟨x,H1,I1,r1,p,ex,⟨xs,e1⟩,q1⟩:=zz61
 subst ex
 obtain ⟨h1,h2⟩:=tyV_is (T := "list") I1 r1 (.inl ⟨rfl,xs,SqL.of e1⟩)
 refine ⟨"list", "list.append",PySem.F.plainAttrs_list,PySem.F.slot_list_append,PySem.F.type_list_append,h1,h2,?_⟩
 have hA:=pa_cons ha pa_nil hs cpos pins s1 σ H1 (fun vs H2=>∃ y,vs = [y]/\match H2 p with
  | some (.lst xs)=>xs.length<sizeLine/\Q .non (upd H2 p (.lst (xs ++ [y])))
  | _=>False) I1 (by
   have e:(fun (y:V) (H2:Hp)=>match H2 p with
     | some (.lst xs)=>xs.length<sizeLine/\Q .non (upd H2 p (.lst (xs ++ [y])))
     | _=>False)=fun (y:V) (H2:Hp)=>∃ y',[y] = [y']/\match H2 p with
     | some (.lst xs)=>xs.length<sizeLine/\Q .non (upd H2 p (.lst (xs ++ [y'])))
     | _=>False:=by
    funext y H2
    exact propext ⟨fun q=>⟨y,rfl,q⟩,fun zz62=>by obtain ⟨y',e,q⟩:=zz62; cases e; exact q⟩
   rw [e] at q1
   exact q1)
 rw [hs] at hA ⊢
 refine Calls.callWith_builtin rfl (Calls.evalArgs_plain ?_)
 refine thn hA fun us s2 zz63=>?_
 obtain ⟨vs,H2,I2,r2,y,ev,q2⟩:=zz63
 subst ev
 refine mt_append pins s2 σ H2 (.ref p) [y] v us Q I2 r1 r2 ?_
 split at q2
 ·rename_i ys e2; exact ⟨p,ys,y,rfl,rfl,e2,q2.1,q2.2⟩
 ·exact q2.elim
end
def rSlA (K:Frag):V->Option Int->Option Int->Hp->VK->Prop:=fun x lo hi H Q=>∃ p,x=.ref p/\∃ xs,SqL K H p xs/\∀ l,H l=none->Q (.ref l) (upd H l (.lst (cutV xs lo hi)))
section
variable {X:Cx}
end
def CPowB (i j:Int):Prop:=0<=j/\(Builtin.Int.intBits i:Int)*j<=2^27
theorem getD_of {ns:List Int} {i:Nat} {z:Int} (h:ns[i]?=some z):ns.getD i 0=z:=by rw [List.getD_eq_getElem?_getD,h]; rfl
theorem some_getD {ns:List Int} {i:Nat} (h:i<ns.length):ns[i]?=some (ns.getD i 0):=by rw [List.getD_eq_getElem?_getD]; simp [h]
end L2
namespace TP
open PySem L2
inductive W where
 | non | bl (b:Bool) | int (i:Int) | str (x:Str) | ty (n:String) | tup (ws:List W) | lst (ws:List W) | scr (ws:List W)
 | exc (c:Str) (i:Option Int) | cls (c:Str)
def XD (F:Hp) (od:Option Addr):Option Int->Prop
 | none=>od=none
 | some i=>∃ d,od=some d/\F d=some (.xd [("at",.int i)])
mutual
inductive Rep (K:Frag) (F:Hp):V->W->Prop where
 | non:Rep K F .non .non
 | bl {b:Bool}:Rep K F (.bl b) (.bl b)
 | int {i:Int}:Rep K F (.int i) (.int i)
 | str {x:Str}:Rep K F (.str x) (.str x)
 | ty {n:String}:Rep K F (.ty n) (.ty n)
 | tup {a:Addr} {vs:List V} {ws:List W}:F a=some (.tup vs)->Reps K F vs ws->Rep K F (.ref a) (.tup ws)
 | lst {a:Addr} {vs:List V} {ws:List W}:F a=some (.lst vs)->Reps K F vs ws->Rep K F (.ref a) (.lst ws)
 | scr {a:Addr} {vs:List V} {ws:List W}:SqL K F a vs->Reps K F vs ws->Rep K F (.ref a) (.scr ws)
 | exc {a C:Addr} {o:Obj} {vs:Array Value} {c:Str} {i:Option Int}:F a=some (.ext fun h=>h.get? a=some o)->o.cls=.ref C->o.data=.fields vs->PySem.W.nsIn K mainGlobals c=some (some (.ref C))->XD F o.dict i->Rep K F (.ref a) (.exc c i)
 | cls {C:Addr} {c:Str}:PySem.W.nsIn K mainGlobals c=some (some (.ref C))->Rep K F (.ref C) (.cls c)
inductive Reps (K:Frag) (F:Hp):List V->List W->Prop where
 | nil:Reps K F [] []
 | cons {v:V} {w:W} {vs:List V} {ws:List W}:Rep K F v w->Reps K F vs ws->Reps K F (v::vs) (w::ws)
end
section
variable {K:Frag} {F F':Hp}
theorem sqT_same {a:Addr} {xs:List V} (e:Same F F') (h:SqT K F a xs):SqT K F' a xs:=by
 rcases h with (h | ⟨o,h⟩) | h
 ·exact .inl (.inl (e _ _ h))
 ·exact .inl (.inr ⟨o,e _ _ h⟩)
 ·exact .inr h
theorem XD.same (e:Same F F') {od:Option Addr}:∀ {i:Option Int},XD F od i->XD F' od i:=by
 intro i h
 cases i with
 | none=>exact h
 | some _=>obtain ⟨d,h1,h2⟩:=h; exact ⟨d,h1,e _ _ h2⟩
theorem Rep.same (e:Same F F') {v:V} {w:W} (r:Rep K F v w):Rep K F' v w:=
 @Rep.rec K F (fun v w _=>Rep K F' v w) (fun vs ws _=>Reps K F' vs ws) .non .bl .int .str .ty (fun h _ r=>.tup (e _ _ h) r) (fun h _ r=>.lst (e _ _ h) r) (fun h _ r=>.scr (Same.seq e h) r) (fun h1 h2 h3 h4 h5=>.exc (e _ _ h1) h2 h3 h4 (XD.same e h5)) (fun h=>.cls h) .nil (fun _ _ a b=>.cons a b) v w r
theorem Reps.same (e:Same F F') {vs:List V} {ws:List W} (r:Reps K F vs ws):Reps K F' vs ws:=
 @Reps.rec K F (fun _ _ _=>True) (fun vs ws _=>Reps K F' vs ws) trivial trivial trivial trivial trivial (fun _ _ _=>trivial) (fun _ _ _=>trivial) (fun _ _ _=>trivial) (fun _ _ _ _ _=>trivial) (fun _=>trivial) .nil (fun h _ _ b=>.cons (Rep.same e h) b) vs ws r
theorem Reps.ind {P:List V->List W->Prop} (h0:P [] []) (h1:∀ {v:V} {w:W} {vs:List V} {ws:List W},Rep K F v w->Reps K F vs ws->P vs ws->P (v::vs) (w::ws)) {vs:List V} {ws:List W} (r:Reps K F vs ws):P vs ws:=
 @Reps.rec K F (fun _ _ _=>True) (fun vs ws _=>P vs ws) trivial trivial trivial trivial trivial (fun _ _ _=>trivial) (fun _ _ _=>trivial) (fun _ _ _=>trivial) (fun _ _ _ _ _=>trivial) (fun _=>trivial) h0 (fun h r _ b=>h1 h r b) vs ws r
def RepI (K:Frag) (F:Hp) (v:V):W->Prop
 | .non=>v=.non
 | .bl b=>v=.bl b
 | .int i=>v=.int i
 | .str x=>v=.str x
 | .ty n=>v=.ty n
 | .tup ws=>∃ a vs,v=.ref a/\F a=some (.tup vs)/\Reps K F vs ws
 | .lst ws=>∃ a vs,v=.ref a/\F a=some (.lst vs)/\Reps K F vs ws
 | .scr ws=>∃ a vs,v=.ref a/\SqL K F a vs/\Reps K F vs ws
 | .exc _ _=>True
 | .cls _=>True
theorem Rep.inv {v:V} {w:W} (r:Rep K F v w):RepI K F v w:=
 @Rep.rec K F (fun v w _=>RepI K F v w) (fun _ _ _=>True) rfl rfl rfl rfl rfl (fun h r _=>⟨_,_,rfl,h,r⟩) (fun h r _=>⟨_,_,rfl,h,r⟩) (fun h r _=>⟨_,_,rfl,h,r⟩) (fun _ _ _ _ _=>trivial) (fun _=>trivial) trivial (fun _ _ _ _=>trivial) v w r
def RepsI (K:Frag) (F:Hp) (vs:List V):List W->Prop
 | []=>vs = []
 | w::ws=>∃ v us,vs=v::us/\Rep K F v w/\Reps K F us ws
theorem Reps.length {vs:List V} {ws:List W} (r:Reps K F vs ws):vs.length=ws.length:=
 Reps.ind (P:=fun vs ws=>vs.length=ws.length) rfl (fun _ _ h=>congrArg (·+1) h) r
theorem Reps.get {vs:List V} {ws:List W} {i:Nat} {w:W} (r:Reps K F vs ws):ws[i]?=some w->∃ v,vs[i]?=some v/\Rep K F v w:=
 Reps.ind (P:=fun vs ws=>∀ (i:Nat) (w:W),ws[i]?=some w->∃ v,vs[i]?=some v/\Rep K F v w) (fun i w e=>by cases e) (fun h _ b i w e=>by
  cases i with
  | zero=>cases e; exact ⟨_,rfl,h⟩
  | succ i=>exact b i w e) r i w
theorem Reps.get' {vs:List V} {ws:List W} {i:Nat} {v:V} (r:Reps K F vs ws):vs[i]?=some v->∃ w,ws[i]?=some w/\Rep K F v w:=
 Reps.ind (P:=fun vs ws=>∀ (i:Nat) (v:V),vs[i]?=some v->∃ w,ws[i]?=some w/\Rep K F v w) (fun i w e=>by cases e) (fun h _ b i w e=>by
  cases i with
  | zero=>cases e; exact ⟨_,rfl,h⟩
  | succ i=>exact b i w e) r i v
theorem Reps.append {vs us:List V} {ws xs:List W} (r:Reps K F vs ws) (s:Reps K F us xs):Reps K F (vs++us) (ws++xs):=
 Reps.ind (P:=fun vs ws=>Reps K F (vs++us) (ws++xs)) s (fun h _ b=>.cons h b) r
theorem Reps.take {vs:List V} {ws:List W} (n:Nat) (r:Reps K F vs ws):Reps K F (vs.take n) (ws.take n):=
 Reps.ind (P:=fun vs ws=>∀ n,Reps K F (vs.take n) (ws.take n)) (fun n=>by simpa using .nil) (fun h _ b n=>by
  cases n with
  | zero=>exact .nil
  | succ n=>exact .cons h (b n)) r n
theorem Reps.drop {vs:List V} {ws:List W} (n:Nat) (r:Reps K F vs ws):Reps K F (vs.drop n) (ws.drop n):=
 Reps.ind (P:=fun vs ws=>∀ n,Reps K F (vs.drop n) (ws.drop n)) (fun n=>by simpa using .nil) (fun h r b n=>by
  cases n with
  | zero=>exact .cons h r
  | succ n=>exact b n) r n
theorem Reps.set {v:V} {w:W} (h:Rep K F v w) {vs:List V} {ws:List W} (i:Nat) (r:Reps K F vs ws):Reps K F (vs.set i v) (ws.set i w):=
 Reps.ind (P:=fun vs ws=>∀ i,Reps K F (vs.set i v) (ws.set i w)) (fun _=>.nil) (fun q t b i=>by
  cases i with
  | zero=>exact .cons h t
  | succ i=>exact .cons q (b i)) r i
theorem Reps.snoc {vs:List V} {ws:List W} {v:V} {w:W} (r:Reps K F vs ws) (h:Rep K F v w):Reps K F (vs ++ [v]) (ws ++ [w]):=r.append (.cons h .nil)
end
mutual
def noL:W->Bool
 | .lst _=>false
 | .scr _=>false
 | .tup ws=>noLs ws
 | _=>true
def noLs:List W->Bool
 | []=>true
 | w::ws=>noL w&&noLs ws
end
def isL:HO->Bool
 | .lst _=>true
 | .dT _=>true
 | .dK _=>true
 | .frz _ (.lst _)=>true
 | _=>false
def join (H0 G:Hp):Hp:=fun a=>match H0 a with
 | some o=>if isL o then some o else G a
 | none=>G a
inductive Sl where
 | un | val (w:W) | par (w:W) | own (ws:List W) | dic (ks:List (List Int)) | dik (ks:List Int) | iop (p:Addr) (ws:List W) | hz (w:W)
abbrev Rho:=List Sl
def noLG (G:Hp):Hp:=fun a=>match G a with
 | some o=>if isL o then none else some o
 | none=>none
theorem noLG_same {G G':Hp} (h:Same G G'):Same (noLG G) (noLG G'):=fun a o e=>by
 unfold noLG at e ⊢
 cases q:G a with
 | none=>rw [q] at e; cases e
 | some u=>rw [q] at e; rw [h a u q]; exact e
theorem noLG_sub {G:Hp}:Same (noLG G) G:=fun a o e=>by
 unfold noLG at e
 cases q:G a with
 | none=>rw [q] at e; cases e
 | some u=>
  rw [q] at e
  dsimp only at e
  cases hl:isL u
  ·rw [hl] at e; exact e
  ·rw [hl] at e; cases e
def SlR (K:Frag) (H0 G H:Hp):Sl->Option V->Prop
 | .un,_=>True
 | .val w,o=>∃ v,o=some v/\Rep K G v w
 | .par w,o=>∃ v,o=some v/\Rep K (join H0 G) v w
 | .own ws,o=>∃ a vs,o=some (.ref a)/\H a=some (.lst vs)/\G a=none/\H0 a=none/\Reps K G vs ws
 | .dic ks,o=>∃ (a:Addr) (kvs:List (List Key×V)),o=some (.ref a)/\H a=some (.dT kvs)/\G a=none/\H0 a=none/\kvs.map (·.1)=ks.map fun k=>k.map Sum.inl
 | .dik ks,o=>∃ (a:Addr) (kvs:List (Key×V)),o=some (.ref a)/\H a=some (.dK kvs)/\G a=none/\H0 a=none/\kvs.map (·.1)=ks.map Sum.inl
 | .iop p ws,o=>o=some (.ref p)/\∃ vs,H0 p=some (.lst vs)/\Reps K G vs ws
 | .hz w,o=>∃ v,o=some v/\Rep K (join H0 (noLG G)) v w
structure PIv (K:Frag) (H0 G:Hp) (ρ:Rho) (σ:St) (H:Hp):Prop where
 g0:∀ a o,H0 a=some o->isL o=false->G a=some o
 gl:∀ a o,H0 a=some o->isL o=true->G a=none
 gh:Same G H
 hh:Same H0 H
 len:ρ.length=σ.length
 sl:∀ (i:Nat) (x:Sl) (o:Option V),ρ[i]?=some x->σ[i]?=some o->SlR K H0 G H x o
 ne:∀ (i j:Nat) (ws us:List W) (a:Addr),i≠j->ρ[i]?=some (.own ws)->ρ[j]?=some (.own us)->σ[i]?=some (some (.ref a))->σ[j]?≠some (some (.ref a))
structure Ext (G H G' H':Hp):Prop where
 gg:Same G G'
 hh:Same H H'
 gh:Same G' H'
 keep:∀ a o,H a=some o->isL o=true->G a=none->G' a=none
theorem Ext.refl {G H:Hp} (h:Same G H):Ext G H G H:=⟨Same.refl G,Same.refl H,h,fun _ _ _ _ e=>e⟩
theorem Ext.trans {G H G1 H1 G2 H2:Hp} (a:Ext G H G1 H1) (b:Ext G1 H1 G2 H2):Ext G H G2 H2:=
 ⟨a.gg.trans b.gg,a.hh.trans b.hh,b.gh,fun x o h l e=>b.keep x o (a.hh x o h) l (a.keep x o h l e)⟩
section
variable {K:Frag} {H0 G H G' H':Hp} {ρ:Rho} {σ:St}
theorem join_same (h:Same G G'):Same (join H0 G) (join H0 G'):=fun a o e=>by
 unfold join at e ⊢
 cases q:H0 a with
 | none=>rw [q] at e; exact h a o e
 | some u=>
  rw [q] at e
  dsimp only at e ⊢
  by_cases hl:isL u=true
  ·rw [if_pos hl] at e ⊢; exact e
  ·rw [if_neg hl] at e ⊢; exact h a o e
theorem PIv.G_join (I:PIv K H0 G ρ σ H):Same G (join H0 G):=fun a o e=>by
 unfold join
 cases q:H0 a with
 | none=>exact e
 | some u=>
  dsimp only
  by_cases hl:isL u=true
  ·rw [I.gl a u q hl] at e; cases e
  ·rw [if_neg hl]; exact e
theorem PIv.join_H (I:PIv K H0 G ρ σ H):Same (join H0 G) H:=fun a o e=>by
 unfold join at e
 cases q:H0 a with
 | none=>rw [q] at e; exact I.gh a o e
 | some u=>
  rw [q] at e
  dsimp only at e
  by_cases hl:isL u=true
  ·rw [if_pos hl] at e; cases e; exact I.hh a _ q
  ·rw [if_neg hl] at e; exact I.gh a o e
theorem PIv.ext (I:PIv K H0 G ρ σ H) (x:Ext G H G' H'):PIv K H0 G' ρ σ H' where
 g0 a o e l:=x.gg a o (I.g0 a o e l)
 gl a o e l:=x.keep a o (I.hh a o e) l (I.gl a o e l)
 gh:=x.gh
 hh:=I.hh.trans x.hh
 len:=I.len
 sl i s o h1 h2:=by
  have:=I.sl i s o h1 h2
  cases s with
  | un=>trivial
  | val w=>obtain ⟨v,e,r⟩:=this; exact ⟨v,e,r.same x.gg⟩
  | par w=>obtain ⟨v,e,r⟩:=this; exact ⟨v,e,r.same (join_same x.gg)⟩
  | own ws=>
   obtain ⟨a,vs,e,h,g,h0,r⟩:=this
   exact ⟨a,vs,e,x.hh a _ h,x.keep a _ h rfl g,h0,r.same x.gg⟩
  | dic ks=>
   obtain ⟨a,kvs,e,h,g,h0,r⟩:=this
   exact ⟨a,kvs,e,x.hh a _ h,x.keep a _ h rfl g,h0,r⟩
  | dik ks=>
   obtain ⟨a,kvs,e,h,g,h0,r⟩:=this
   exact ⟨a,kvs,e,x.hh a _ h,x.keep a _ h rfl g,h0,r⟩
  | iop p ws=>
   obtain ⟨e,vs,h,r⟩:=this
   exact ⟨e,vs,h,r.same x.gg⟩
  | hz w=>obtain ⟨v,e,r⟩:=this; exact ⟨v,e,r.same (join_same (noLG_same x.gg))⟩
 ne:=I.ne
theorem join_noL {a:Addr} {o:HO} (h:join H0 G a=some o) (l:isL o=false):G a=some o:=by
 unfold join at h
 cases q:H0 a with
 | none=>rw [q] at h; exact h
 | some u=>
  rw [q] at h
  dsimp only at h
  by_cases hl:isL u=true
  ·rw [if_pos hl] at h; cases h; rw [hl] at l; cases l
  ·rw [if_neg hl] at h; exact h
theorem XD.clean {od:Option Addr}:∀ {i:Option Int},XD (join H0 G) od i->XD G od i
 | none,h=>h
 | some _,⟨d,h1,h2⟩=>⟨d,h1,join_noL h2 rfl⟩
theorem Rep.clean (I:PIv K H0 G ρ σ H) {v:V} {w:W} (r:Rep K (join H0 G) v w):noL w=true->Rep K G v w:=
 @Rep.rec K (join H0 G) (fun v w _=>noL w=true->Rep K G v w) (fun vs ws _=>noLs ws=true->Reps K G vs ws) (fun _=>.non) (fun _=>.bl) (fun _=>.int) (fun _=>.str) (fun _=>.ty)
  (fun h _ r n=>.tup (join_noL h rfl) (r n)) (fun _ _ _ n=>by cases n) (fun _ _ _ n=>by cases n) (fun h1 h2 h3 h4 h5 _=>.exc (join_noL h1 rfl) h2 h3 h4 (XD.clean h5)) (fun h _=>.cls h) (fun _=>.nil)
  (fun _ _ a b n=>by rw [noLs,Bool.and_eq_true] at n; exact .cons (a n.1) (b n.2)) v w r
theorem Reps.clean (I:PIv K H0 G ρ σ H) {vs:List V} {ws:List W} (r:Reps K (join H0 G) vs ws):noLs ws=true->Reps K G vs ws:=
 @Reps.rec K (join H0 G) (fun _ _ _=>True) (fun vs ws _=>noLs ws=true->Reps K G vs ws) trivial trivial trivial trivial trivial (fun _ _ _=>trivial) (fun _ _ _=>trivial) (fun _ _ _=>trivial) (fun _ _ _ _ _=>trivial) (fun _=>trivial) (fun _=>.nil)
  (fun h _ _ b n=>by rw [noLs,Bool.and_eq_true] at n; exact .cons (Rep.clean I h n.1) (b n.2)) vs ws r
end
structure XW where
 cls:Str
 at_:Option Int
inductive R (α:Type) where
 | ok (a:α) | ex (e:XW) | stuck
def R.bind {α β:Type} (x:R α) (f:α->R β):R β:=match x with
 | .ok a=>f a
 | .ex e=>.ex e
 | .stuck=>.stuck
instance:Monad R where
 pure:=R.ok
 bind:=R.bind
@[simp] theorem R.ok_bind {α β:Type} (a:α) (f:α->R β):((R.ok a:R α)>>=f)=f a:=rfl
@[simp] theorem R.stuck_bind {α β:Type} (f:α->R β):((R.stuck:R α)>>=f)=.stuck:=rfl
@[simp] theorem R.ex_bind {α β:Type} (e:XW) (f:α->R β):((R.ex e:R α)>>=f)=.ex e:=rfl
@[simp] theorem R.pure_eq {α:Type} (a:α):(pure a:R α)=.ok a:=rfl
inductive Mode where
 | F | V | U | C | B
def Md (K:Frag) (H0 H G' H':Hp) (v:V) (w:W):Mode->Prop
 | .V=>Rep K G' v w
 | .U=>Rep K (join H0 G') v w
 | .F=>match w with
  | .lst ws=>∃ a vs,v=.ref a/\H' a=some (.lst vs)/\G' a=none/\H a=none/\Reps K G' vs ws
  | w=>Rep K G' v w
 | .C=>Rep K G' v w\/∃ a vs ws,v=.ref a/\w=.lst ws/\H' a=some (.lst vs)/\Reps K G' vs ws
 | .B=>Rep K (join H0 G') v w\/∃ a vs ws,v=.ref a/\w=.lst ws/\H' a=some (.lst vs)/\Reps K G' vs ws
abbrev EXT:=XW->Hp->Prop
def Out {α β:Type} (EX:EXT) (G H:Hp) (md:α->β->Hp->Hp->Prop) (r:R α) (Q:β->Hp->Prop):Prop:=match r with
 | .ok w=>∀ v G' H',Ext G H G' H'->md w v G' H'->Q v H'
 | .ex e=>∀ H',Same H H'->EX e H'
 | .stuck=>False
abbrev mdW (K:Frag) (d:Mode) (H0 H:Hp):W->V->Hp->Hp->Prop:=fun w v G' H'=>Md K H0 H G' H' v w d
abbrev mdB:Bool->Bool->Hp->Hp->Prop:=fun b c _ _=>c=b
inductive MdA (K:Frag) (d:Mode) (H0 H G' H':Hp):List W->List V->Prop where
 | nil:MdA K d H0 H G' H' [] []
 | cons {w:W} {v:V} {ws:List W} {vs:List V}:Md K H0 H G' H' v w d->MdA K d H0 H G' H' ws vs->MdA K d H0 H G' H' (w::ws) (v::vs)
def MdAI (K:Frag) (d:Mode) (H0 H G' H':Hp) (vs:List V):List W->Prop
 | []=>vs = []
 | w::ws=>∃ v us,vs=v::us/\Md K H0 H G' H' v w d/\MdA K d H0 H G' H' ws us
theorem MdA.inv {K:Frag} {d:Mode} {H0 H G' H':Hp} {ws:List W} {vs:List V} (h:MdA K d H0 H G' H' ws vs):MdAI K d H0 H G' H' vs ws:=
 @MdA.rec K d H0 H G' H' (fun ws vs _=>MdAI K d H0 H G' H' vs ws) rfl (fun h t _=>⟨_,_,rfl,h,t⟩) ws vs h
abbrev mdA (K:Frag) (d:Mode) (H0 H:Hp):List W->List V->Hp->Hp->Prop:=fun ws vs G' H'=>MdA K d H0 H G' H' ws vs
def tM (K:Frag) (EX:EXT) (d:Mode) (m:Rho->R W):TE:=fun σ H Q=>∃ H0 G ρ,PIv K H0 G ρ σ H/\Out EX G H (mdW K d H0 H) (m ρ) Q
def tT (K:Frag) (EX:EXT) (m:Rho->R Bool):TT:=fun σ H Q=>∃ H0 G ρ,PIv K H0 G ρ σ H/\Out EX G H mdB (m ρ) Q
def tA (K:Frag) (EX:EXT) (d:Mode) (m:Rho->R (List W)):TA:=fun σ H Q=>∃ H0 G ρ,PIv K H0 G ρ σ H/\Out EX G H (mdA K d H0 H) (m ρ) Q
section
variable {K:Frag} {EX:EXT} {H0 G H G1 H1 G2 H2:Hp} {ρ:Rho} {σ:St}
theorem Out.bind {α β γ δ:Type} {md:α->β->Hp->Hp->Prop} {md':γ->δ->Hp->Hp->Prop} {m:R α} {k:α->R γ} {Q:δ->Hp->Prop} {Q1:β->Hp->Prop} (o:Out EX G H md' (m>>=k) Q)
  (h:∀ x G1 H1 w,Ext G H G1 H1->md w x G1 H1->Out EX G1 H1 md' (k w) Q->Q1 x H1):Out EX G H md m Q1:=by
 cases m with
 | ok w=>
  intro v G' H' e d
  refine h v G' H' w e d ?_
  rw [R.ok_bind] at o
  revert o
  cases k w with
  | ok u=>exact fun o v2 G2 H2 e2 d2=>o v2 G2 H2 (e.trans e2) d2
  | ex x=>exact fun o H2 s2=>o H2 (e.hh.trans s2)
  | stuck=>exact fun o=>o
 | ex x=>exact o
 | stuck=>exact o
theorem Md.start {v:V} {w:W} {d:Mode} (s:Same H H1) (h:Md K H0 H1 G2 H2 v w d):Md K H0 H G2 H2 v w d:=by
 cases d with
 | F=>
  cases w with
  | lst ws=>obtain ⟨a,vs,e,h1,h2,h3,r⟩:=h; exact ⟨a,vs,e,h1,h2,s.free h3,r⟩
  | _=>exact h
 | _=>exact h
theorem Md.move {v:V} {w:W} {d:Mode} (x:Ext G1 H1 G2 H2) (h:Md K H0 H G1 H1 v w d):Md K H0 H G2 H2 v w d:=by
 cases d with
 | V=>exact Rep.same x.gg h
 | U=>exact Rep.same (join_same x.gg) h
 | F=>
  cases w with
  | lst ws=>obtain ⟨a,vs,e,h1,h2,h3,r⟩:=h; exact ⟨a,vs,e,x.hh _ _ h1,x.keep _ _ h1 rfl h2,h3,r.same x.gg⟩
  | non=>exact Rep.same x.gg h
  | bl _=>exact Rep.same x.gg h
  | int _=>exact Rep.same x.gg h
  | str _=>exact Rep.same x.gg h
  | ty _=>exact Rep.same x.gg h
  | tup _=>exact Rep.same x.gg h
  | scr _=>exact Rep.same x.gg h
  | exc _ _=>exact Rep.same x.gg h
  | cls _=>exact Rep.same x.gg h
 | C=>
  rcases h with h | ⟨a,vs,ws,e,e2,h1,r⟩
  ·exact .inl (h.same x.gg)
  ·exact .inr ⟨a,vs,ws,e,e2,x.hh _ _ h1,r.same x.gg⟩
 | B=>
  rcases h with h | ⟨a,vs,ws,e,e2,h1,r⟩
  ·exact .inl (h.same (join_same x.gg))
  ·exact .inr ⟨a,vs,ws,e,e2,x.hh _ _ h1,r.same x.gg⟩
theorem Md.CB {v:V} {w:W} (I:PIv K H0 G1 ρ σ H1) (h:Md K H0 H G1 H1 v w .C):Md K H0 H G1 H1 v w .B:=by
 rcases h with h | h
 ·exact .inl (h.same I.G_join)
 ·exact .inr h
def sca:W->Bool
 | .tup _=>false
 | .scr _=>false
 | .lst _=>false
 | _=>true
theorem Md.sca {v:V} {w:W} (hs:sca w=true) (r:∀ F,Rep K F v w) (d:Mode):Md K H0 H G1 H1 v w d:=by
 cases d with
 | V=>exact r _
 | U=>exact r _
 | C=>exact .inl (r _)
 | B=>exact .inl (r _)
 | F=>cases w <;> first | exact r _ | cases hs
theorem Md.repB {v:V} {w:W} (h:Md K H0 H G1 H1 v w .B) (n:∀ us,w≠.lst us):Rep K (join H0 G1) v w:=Or.elim h id fun zz64=>by obtain ⟨_,_,us,_,e,_⟩:=zz64; exact absurd e (n us)
theorem Md.repC {v:V} {w:W} (h:Md K H0 H G1 H1 v w .C) (n:∀ us,w≠.lst us):Rep K G1 v w:=Or.elim h id fun zz65=>by obtain ⟨_,_,us,_,e,_⟩:=zz65; exact absurd e (n us)
theorem Md.lstB {v:V} {ws:List W} (I:PIv K H0 G1 ρ σ H1) (h:Md K H0 H G1 H1 v (.lst ws) .B):∃ a vs,v=.ref a/\H1 a=some (.lst vs)/\Reps K (join H0 G1) vs ws:=by
 rcases h with h | ⟨a,vs,us,e,e2,h1,r⟩
 ·obtain ⟨a,vs,e,s,r⟩:=h.inv; exact ⟨a,vs,e,I.join_H _ _ s,r⟩
 ·rw [W.lst.inj e2]; exact ⟨a,vs,e,h1,r.same I.G_join⟩
theorem Md.scrB {v:V} {ws:List W} (I:PIv K H0 G1 ρ σ H1) (h:Md K H0 H G1 H1 v (.scr ws) .B):∃ a vs,v=.ref a/\SqL K H1 a vs/\Reps K (join H0 G1) vs ws:=by
 obtain ⟨a,vs,e,s,r⟩:=(h.repB fun _=>W.noConfusion).inv; exact ⟨a,vs,e,Same.seq I.join_H s,r⟩
theorem Md.lstC {v:V} {ws:List W} (I:PIv K H0 G1 ρ σ H1) (h:Md K H0 H G1 H1 v (.lst ws) .C):∃ a vs,v=.ref a/\H1 a=some (.lst vs)/\Reps K G1 vs ws:=by
 rcases h with h | ⟨a,vs,us,e,e2,h1,r⟩
 ·obtain ⟨a,vs,e,s,r⟩:=h.inv; exact ⟨a,vs,e,I.gh _ _ s,r⟩
 ·rw [W.lst.inj e2]; exact ⟨a,vs,e,h1,r⟩
theorem Md.tupB {v:V} {ws:List W} (I:PIv K H0 G1 ρ σ H1) (h:Md K H0 H G1 H1 v (.tup ws) .B):∃ a vs,v=.ref a/\H1 a=some (.tup vs)/\Reps K (join H0 G1) vs ws:=by
 obtain ⟨a,vs,e,s,r⟩:=(h.repB fun _=>W.noConfusion).inv; exact ⟨a,vs,e,I.join_H _ _ s,r⟩
theorem Md.tupC {v:V} {ws:List W} (I:PIv K H0 G1 ρ σ H1) (h:Md K H0 H G1 H1 v (.tup ws) .C):∃ a vs,v=.ref a/\H1 a=some (.tup vs)/\Reps K G1 vs ws:=by
 obtain ⟨a,vs,e,s,r⟩:=(h.repC fun _=>W.noConfusion).inv; exact ⟨a,vs,e,I.gh _ _ s,r⟩
theorem Md.intB {v:V} {i:Int} (h:Md K H0 H G1 H1 v (.int i) .B):v=.int i:=(h.repB fun _=>W.noConfusion).inv
theorem Md.blB {v:V} {i:Bool} (h:Md K H0 H G1 H1 v (.bl i) .B):v=.bl i:=(h.repB fun _=>W.noConfusion).inv
theorem Md.strB {v:V} {i:Str} (h:Md K H0 H G1 H1 v (.str i) .B):v=.str i:=(h.repB fun _=>W.noConfusion).inv
theorem Md.nonB {v:V} (h:Md K H0 H G1 H1 v .non .B):v=.non:=(h.repB fun _=>W.noConfusion).inv
theorem Md.tyB {v:V} {n:String} (h:Md K H0 H G1 H1 v (.ty n) .B):v=.ty n:=(h.repB fun _=>W.noConfusion).inv
theorem mode_FV {m:Rho->R W} {Q:VK} (h:tM K EX .V m σ H Q):tM K EX .F m σ H Q:=by
 obtain ⟨H0,G,ρ,I,o⟩:=h
 refine ⟨H0,G,ρ,I,?_⟩
 revert o
 cases m ρ with
 | ex e=>exact id
 | stuck=>exact id
 | ok w=>
  intro o v G' H' e d
  cases w with
  | lst ws=>
   obtain ⟨a,vs,rfl,h1,h2,h3,r⟩:=d
   have s1:Same G' (upd G' a (.lst vs)):=fun b o q=>by rw [upd_ne (ne_of_none q h2)]; exact q
   refine o _ (upd G' a (.lst vs)) H' ⟨e.gg.trans s1,e.hh,fun b o q=>?_,fun b o q l g=>?_⟩ (.lst upd_same (r.same s1))
   ·by_cases hb:b=a
    ·subst hb; rw [upd_same] at q; cases q; exact h1
    ·rw [upd_ne hb] at q; exact e.gh b o q
   ·rw [upd_ne (ne_of_none q h3)]; exact e.keep b o q l g
  | _=>exact o v G' H' e d
theorem mode_VU {m:Rho->R W} {Q:VK} (h:tM K EX .U m σ H Q):tM K EX .V m σ H Q:=by
 obtain ⟨H0,G,ρ,I,o⟩:=h
 refine ⟨H0,G,ρ,I,?_⟩
 revert o
 cases m ρ with
 | ex e=>exact id
 | stuck=>exact id
 | ok w=>exact fun o v G' H' e d=>o v G' H' e (Rep.same (I.ext e).G_join d)
theorem mode_VC {m:Rho->R W} {Q:VK} (h:tM K EX .C m σ H Q):tM K EX .V m σ H Q:=by
 obtain ⟨H0,G,ρ,I,o⟩:=h
 refine ⟨H0,G,ρ,I,?_⟩
 revert o
 cases m ρ with
 | ex e=>exact id
 | stuck=>exact id
 | ok w=>exact fun o v G' H' e d=>o v G' H' e (.inl d)
theorem mode_UB {m:Rho->R W} {Q:VK} (h:tM K EX .B m σ H Q):tM K EX .U m σ H Q:=by
 obtain ⟨H0,G,ρ,I,o⟩:=h
 refine ⟨H0,G,ρ,I,?_⟩
 revert o
 cases m ρ with
 | ex e=>exact id
 | stuck=>exact id
 | ok w=>exact fun o v G' H' e d=>o v G' H' e (.inl d)
theorem mode_CB {m:Rho->R W} {Q:VK} (h:tM K EX .B m σ H Q):tM K EX .C m σ H Q:=by
 obtain ⟨H0,G,ρ,I,o⟩:=h
 refine ⟨H0,G,ρ,I,?_⟩
 revert o
 cases m ρ with
 | ex e=>exact id
 | stuck=>exact id
 | ok w=>exact fun o v G' H' e d=>o v G' H' e (Md.CB (H:=H) (I.ext e) d)
theorem mode_FC {m:Rho->R W} {Q:VK} (h:tM K EX .C m σ H Q):tM K EX .F m σ H Q:=by
 obtain ⟨H0,G,ρ,I,o⟩:=h
 refine ⟨H0,G,ρ,I,?_⟩
 revert o
 cases m ρ with
 | ex e=>exact id
 | stuck=>exact id
 | ok w=>
  intro o v G' H' e d
  cases w with
  | lst ws=>obtain ⟨a,vs,rfl,h1,h2,h3,r⟩:=d; exact o _ G' H' e (.inr ⟨a,vs,ws,rfl,rfl,h1,r⟩)
  | _=>exact o v G' H' e (.inl d)
def chk (w:W):R W:=if noL w then .ok w else .stuck
theorem noL_F {v:V} {w:W} (n:noL w=true) (r:Rep K G1 v w):Md K H0 H G1 H1 v w .F:=by
 cases w with
 | lst ws=>cases n
 | _=>exact r
theorem mode_chk {m:Rho->R W} {Q:VK} {d:Mode} (hd:d=.F\/d=.V) (h:tM K EX d (fun ρ=>m ρ>>=chk) σ H Q):tM K EX .U m σ H Q:=by
 obtain ⟨H0,G,ρ,I,o⟩:=h
 refine ⟨H0,G,ρ,I,Out.bind o fun x G1 H1 w e m1 o1=>?_⟩
 unfold chk at o1
 by_cases n:noL w=true
 ·rw [if_pos n] at o1
  have r:=Rep.clean (I.ext e) m1 n
  refine o1 x G1 H1 (Ext.refl e.gh) ?_
  rcases hd with rfl | rfl
  ·exact noL_F n r
  ·exact r
 ·rw [if_neg n] at o1; exact o1.elim
end
end TP
namespace TP
open PySem L2
section
variable {K:Frag} {EX:EXT} {H0 G H G1 H1 G2 H2:Hp} {ρ:Rho} {σ:St} {d:Mode} {Q:VK}
theorem c_const {v:V} {w:W} (hs:sca w=true) (r:∀ F,Rep K F v w) (h:tM K EX d (fun _=>.ok w) σ H Q):tC v σ H Q:=by
 obtain ⟨H0,G,ρ,I,o⟩:=h
 exact o v G H (Ext.refl I.gh) (Md.sca hs r d)
def mVar (d:Mode) (i:Nat):Rho->R W:=fun ρ=>match ρ[i]? with
 | some (.val w)=>(match d with | .F=>chk w | _=>.ok w)
 | some (.par w)=>(match d with | .F=>chk w | .V=>chk w | .C=>chk w | _=>.ok w)
 | some (.own ws)=>(match d with | .C=>.ok (.lst ws) | .B=>.ok (.lst ws) | _=>.stuck)
 | some (.iop _ ws)=>(match d with | .B=>.ok (.lst ws) | .U=>.ok (.lst ws) | _=>.stuck)
 | some (.hz w)=>(match d with | .B=>.ok w | .U=>.ok w | _=>.stuck)
 | _=>.stuck
theorem Out.chk {α:Type} {v:V} {w:W} {md:W->α->Hp->Hp->Prop} {Q:α->Hp->Prop} (o:Out EX G H md (chk w) Q):noL w=true/\Out EX G H md (.ok w) Q:=by
 unfold TP.chk at o
 by_cases n:noL w=true
 ·rw [if_pos n] at o; exact ⟨n,o⟩
 ·rw [if_neg n] at o; exact o.elim
theorem c_var {i:Nat} (h:tM K EX d (mVar d i) σ H Q):tVar i σ H Q:=by
 obtain ⟨H0,G,ρ,I,o⟩:=h
 unfold mVar at o
 cases e:ρ[i]? with
 | none=>rw [e] at o; exact o.elim
 | some s=>
  rw [e] at o
  have hi:i<σ.length:=by rw [<- I.len]; exact (List.getElem?_eq_some_iff.mp e).1
  have es:σ[i]?=some σ[i]:=by simp
  have r:=I.sl i s _ e es
  cases s with
  | un=>exact o.elim
  | val w=>
   obtain ⟨v,ev,r⟩:=r
   refine ⟨v,by rw [es,ev],?_⟩
   cases d with
   | F=>obtain ⟨n,o⟩:=Out.chk (v:=v) o; exact o v G H (Ext.refl I.gh) (noL_F n r)
   | V=>exact o v G H (Ext.refl I.gh) r
   | U=>exact o v G H (Ext.refl I.gh) (r.same I.G_join)
   | C=>exact o v G H (Ext.refl I.gh) (.inl r)
   | B=>exact o v G H (Ext.refl I.gh) (.inl (r.same I.G_join))
  | par w=>
   obtain ⟨v,ev,r⟩:=r
   refine ⟨v,by rw [es,ev],?_⟩
   cases d with
   | F=>obtain ⟨n,o⟩:=Out.chk (v:=v) o; exact o v G H (Ext.refl I.gh) (noL_F n (Rep.clean I r n))
   | V=>obtain ⟨n,o⟩:=Out.chk (v:=v) o; exact o v G H (Ext.refl I.gh) (Rep.clean I r n)
   | U=>exact o v G H (Ext.refl I.gh) r
   | C=>obtain ⟨n,o⟩:=Out.chk (v:=v) o; exact o v G H (Ext.refl I.gh) (.inl (Rep.clean I r n))
   | B=>exact o v G H (Ext.refl I.gh) (.inl r)
  | own ws=>
   obtain ⟨a,vs,ev,ha,hg,h0,r⟩:=r
   refine ⟨.ref a,by rw [es,ev],?_⟩
   cases d with
   | F=>exact o.elim
   | V=>exact o.elim
   | U=>exact o.elim
   | C=>exact o _ G H (Ext.refl I.gh) (.inr ⟨a,vs,ws,rfl,rfl,ha,r⟩)
   | B=>exact o _ G H (Ext.refl I.gh) (.inr ⟨a,vs,ws,rfl,rfl,ha,r⟩)
  | dic ks=>exact o.elim
  | dik ks=>exact o.elim
  | hz w=>
   obtain ⟨v,ev,r⟩:=r
   refine ⟨v,by rw [es,ev],?_⟩
   have rj:=r.same (join_same (H0:=H0) (noLG_sub (G:=G)))
   cases d with
   | F=>exact o.elim
   | V=>exact o.elim
   | C=>exact o.elim
   | U=>exact o v G H (Ext.refl I.gh) rj
   | B=>exact o v G H (Ext.refl I.gh) (.inl rj)
  | iop p ws=>
   obtain ⟨ev,vs,h0,r⟩:=r
   refine ⟨.ref p,by rw [es,ev],?_⟩
   have rj:Rep K (join H0 G) (.ref p) (.lst ws):=by
    refine .lst (vs:=vs) ?_ (r.same I.G_join)
    unfold join
    rw [h0]; rfl
   cases d with
   | F=>exact o.elim
   | V=>exact o.elim
   | U=>exact o _ G H (Ext.refl I.gh) rj
   | C=>exact o.elim
   | B=>exact o _ G H (Ext.refl I.gh) (.inl rj)
def Op2 (K:Frag) (b d:Mode) (r:R2) (f:W->W->R W):Prop:=∀ (EX:EXT) (H0 Hs G H:Hp) (ρ:Rho) (σ:St) (Ha Hb:Hp) (x y:V) (u v:W) (Q:VK),PIv K H0 G ρ σ H->Same Hs H->Md K H0 Ha G H x u b->Md K H0 Hb G H y v b ->
 Out EX G H (mdW K d H0 Hs) (f u v) Q->r x y H Q
theorem c_op {b:Mode} {r:R2} {f:W->W->R W} {ma mb:Rho->R W} (hr:Op2 K b d r f) (h:tM K EX d (fun ρ=>ma ρ>>=fun x=>mb ρ>>=fun y=>f x y) σ H Q):tOp r (tM K EX b ma) (tM K EX b mb) σ H Q:=by
 obtain ⟨H0,G,ρ,I,o⟩:=h
 refine ⟨H0,G,ρ,I,Out.bind o fun x G1 H1 u e1 m1 o1=>⟨H0,G1,ρ,I.ext e1,Out.bind o1 fun y G2 H2 v e2 m2 o2=>?_⟩⟩
 exact hr EX H0 H G2 H2 ρ σ H H1 x y u v Q ((I.ext e1).ext e2) (e1.hh.trans e2.hh) (m1.move e2) m2 o2
def Op1 (K:Frag) (b d:Mode) (r:V->Hp->VK->Prop) (f:W->R W):Prop:=∀ (EX:EXT) (H0 Hs G H:Hp) (ρ:Rho) (σ:St) (Ha:Hp) (x:V) (u:W) (Q:VK),PIv K H0 G ρ σ H->Same Hs H->Md K H0 Ha G H x u b ->
 Out EX G H (mdW K d H0 Hs) (f u) Q->r x H Q
theorem c_un {b:Mode} {r:V->Hp->VK->Prop} {f:W->R W} {ma:Rho->R W} (hr:Op1 K b d r f) (h:tM K EX d (fun ρ=>ma ρ>>=fun x=>f x) σ H Q):tUn r (tM K EX b ma) σ H Q:=by
 obtain ⟨H0,G,ρ,I,o⟩:=h
 exact ⟨H0,G,ρ,I,Out.bind o fun x G1 H1 u e1 m1 o1=>hr EX H0 H G1 H1 ρ σ H x u Q (I.ext e1) e1.hh m1 o1⟩
def fI (C:Int->Int->Prop) [∀ i j,Decidable (C i j)] (g:Int->Int->W):W->W->R W
 | .int i,.int j=>if C i j then .ok (g i j) else .stuck
 | _,_=>.stuck
def fI0 (g:Int->Int->W):W->W->R W
 | .int i,.int j=>.ok (g i j)
 | _,_=>.stuck
theorem o2_I {C:Int->Int->Prop} [∀ i j,Decidable (C i j)] {g:Int->Int->W} {gv:Int->Int->V} (hs:∀ i j,sca (g i j)=true) (hg:∀ i j F,Rep K F (gv i j) (g i j)):Op2 K .B d (rI C gv) (fI C g):=by
 intro EX H0 Hs G H ρ σ Ha Hb x y u v Q I s mx my o
 cases u <;> first | exact o.elim | skip
 all_goals (cases v <;> first | exact o.elim | skip)
 rename_i i j
 have o':Out EX G H (mdW K d H0 Hs) (if C i j then R.ok (g i j) else .stuck) Q:=o
 by_cases c:C i j
 ·rw [if_pos c] at o'
  exact ⟨i,j,mx.intB,my.intB,c,o' _ G H (Ext.refl I.gh) (Md.sca (hs i j) (hg i j) d)⟩
 ·rw [if_neg c] at o'; exact o'.elim
theorem o2_I0 {g:Int->Int->W} {gv:Int->Int->V} (hs:∀ i j,sca (g i j)=true) (hg:∀ i j F,Rep K F (gv i j) (g i j)):Op2 K .B d (rI0 gv) (fI0 g):=by
 intro EX H0 Hs G H ρ σ Ha Hb x y u v Q I s mx my o
 cases u <;> first | exact o.elim | skip
 all_goals (cases v <;> first | exact o.elim | skip)
 rename_i i j
 exact ⟨i,j,mx.intB,my.intB,o _ G H (Ext.refl I.gh) (Md.sca (hs i j) (hg i j) d)⟩
def fU (g:Int->W):W->R W
 | .int i=>.ok (g i)
 | _=>.stuck
theorem o1_U {g:Int->W} {gv:Int->V} (hs:∀ i,sca (g i)=true) (hg:∀ i F,Rep K F (gv i) (g i)):Op1 K .B d (rU gv) (fU g):=by
 intro EX H0 Hs G H ρ σ Ha x u Q I s mx o
 cases u <;> first | exact o.elim | skip
 rename_i i
 exact ⟨i,mx.intB,o _ G H (Ext.refl I.gh) (Md.sca (hs i) (hg i) d)⟩
def isN:W->Bool
 | .non=>true
 | _=>false
def fIsN (neg:Bool):W->W->R W
 | u,.non=>.ok (.bl (if neg then !isN u else isN u))
 | _,_=>.stuck
theorem isN_of {b:Mode} (hb:b=.B\/b=.U\/b=.V\/b=.C) {v:V} {w:W} {Hs:Hp} (h:Md K H0 Hs G1 H1 v w b):decide (v=.non)=isN w:=by
 have key:∀ F,Rep K F v w->decide (v=.non)=isN w:=fun F r=>by
  cases r <;> first | rfl | (apply decide_eq_false; intro z; cases z)
 rcases hb with rfl | rfl | rfl | rfl
 ·rcases h with h | ⟨a,vs,ws,rfl,rfl,_⟩
  ·exact key _ h
  ·apply decide_eq_false; intro z; cases z
 ·exact key _ h
 ·exact key _ h
 ·rcases h with h | ⟨a,vs,ws,rfl,rfl,_⟩
  ·exact key _ h
  ·apply decide_eq_false; intro z; cases z
theorem o2_isN:Op2 K .B d (fun x y H Q=>y=.non/\Q (.bl (decide (x=.non))) H) (fIsN false):=by
 intro EX H0 Hs G H ρ σ Ha Hb x y u v Q I s mx my o
 cases v <;> first | exact o.elim | skip
 refine ⟨my.nonB,?_⟩
 rw [isN_of (.inl rfl) mx]
 exact o _ G H (Ext.refl I.gh) (Md.sca rfl (fun _=>.bl) d)
def toB:W->R Bool
 | .bl b=>.ok b
 | _=>.stuck
theorem c_test {ma:Rho->R W} {Q:Bool->Hp->Prop} (h:tT K EX (fun ρ=>ma ρ>>=toB) σ H Q):tTest (tM K EX .B ma) σ H Q:=by
 obtain ⟨H0,G,ρ,I,o⟩:=h
 refine ⟨H0,G,ρ,I,Out.bind o fun x G1 H1 u e1 m1 o1=>?_⟩
 cases u <;> first | exact o1.elim | skip
 rename_i b
 exact ⟨b,m1.blB,o1 b G1 H1 (Ext.refl e1.gh) rfl⟩
theorem c_tB {ma:Rho->R W} {Q:Bool->Hp->Prop} (h:tT K EX (fun ρ=>ma ρ>>=toB) σ H Q):tB (tM K EX .B ma) σ H Q:=c_test h
def rAnd (a b:R Bool):R Bool:=a>>=fun c=>if c then b else .ok false
def rOr (a b:R Bool):R Bool:=a>>=fun c=>if c then .ok true else b
def rNot (a:R Bool):R Bool:=a>>=fun c=>.ok (!c)
theorem c_or {ma mb:Rho->R Bool} {Q:Bool->Hp->Prop} (h:tT K EX (fun ρ=>rOr (ma ρ) (mb ρ)) σ H Q):tOr (tT K EX ma) (tT K EX mb) σ H Q:=by
 obtain ⟨H0,G,ρ,I,o⟩:=h
 refine ⟨H0,G,ρ,I,Out.bind o fun x G1 H1 u e1 m1 o1=>?_⟩
 cases m1
 cases x with
 | true=>exact o1 true G1 H1 (Ext.refl e1.gh) rfl
 | false=>exact ⟨H0,G1,ρ,I.ext e1,o1⟩
theorem c_not {ma:Rho->R Bool} {Q:Bool->Hp->Prop} (h:tT K EX (fun ρ=>rNot (ma ρ)) σ H Q):tNot (tT K EX ma) σ H Q:=by
 obtain ⟨H0,G,ρ,I,o⟩:=h
 refine ⟨H0,G,ρ,I,Out.bind o fun x G1 H1 u e1 m1 o1=>?_⟩
 cases m1
 exact o1 _ G1 H1 (Ext.refl e1.gh) rfl
def rAndV (a b:R W):R W:=a>>=fun x=>toB x>>=fun c=>if c then b else .ok (.bl false)
def rOrV (a b:R W):R W:=a>>=fun x=>toB x>>=fun c=>if c then .ok (.bl true) else b
def rNotV (a:R W):R W:=a>>=fun x=>toB x>>=fun c=>.ok (.bl (!c))
theorem Out.restart {r:R W} (s:Same H H1) (o:Out EX G1 H1 (mdW K d H0 H) r Q):Out EX G1 H1 (mdW K d H0 H1) r Q:=by
 revert o
 cases r with
 | ok w=>exact fun o v G2 H2 e2 m2=>o v G2 H2 e2 (m2.start s)
 | ex _=>exact id
 | stuck=>exact id
theorem c_if {mc:Rho->R Bool} {ma mb:Rho->R W} (h:tM K EX d (fun ρ=>mc ρ>>=fun c=>if c then ma ρ else mb ρ) σ H Q):tIf (tT K EX mc) (tM K EX d ma) (tM K EX d mb) σ H Q:=by
 obtain ⟨H0,G,ρ,I,o⟩:=h
 refine ⟨H0,G,ρ,I,Out.bind o fun x G1 H1 u e1 m1 o1=>?_⟩
 cases m1
 cases x with
 | true=>exact ⟨H0,G1,ρ,I.ext e1,Out.restart e1.hh o1⟩
 | false=>exact ⟨H0,G1,ρ,I.ext e1,Out.restart e1.hh o1⟩
theorem c_nil {QA:List V->Hp->Prop} (h:tA K EX d (fun _=>.ok []) σ H QA):tNil σ H QA:=by
 obtain ⟨H0,G,ρ,I,o⟩:=h
 exact o [] G H (Ext.refl I.gh) .nil
theorem c_cons {ma:Rho->R W} {mr:Rho->R (List W)} {QA:List V->Hp->Prop} (h:tA K EX d (fun ρ=>ma ρ>>=fun x=>mr ρ>>=fun xs=>.ok (x::xs)) σ H QA):tCons (tM K EX d ma) (tA K EX d mr) σ H QA:=by
 obtain ⟨H0,G,ρ,I,o⟩:=h
 refine ⟨H0,G,ρ,I,Out.bind o fun x G1 H1 u e1 m1 o1=>⟨H0,G1,ρ,I.ext e1,Out.bind o1 fun xs G2 H2 us e2 m2 o2=>?_⟩⟩
 refine o2 (x::xs) G2 H2 (Ext.refl e2.gh) (.cons (m1.move e2) ?_)
 have go:∀ {ws:List W} {vs:List V},MdA K d H0 H1 G2 H2 ws vs->MdA K d H0 H G2 H2 ws vs:=fun {ws vs} q=>by
  induction q with
  | nil=>exact .nil
  | cons a _ ih=>exact .cons (a.start e1.hh) ih
 exact go m2
theorem MdA.reps {ws:List W} {vs:List V} (h:MdA K .V H0 H G1 H1 ws vs):Reps K G1 vs ws:=
 @MdA.rec K .V H0 H G1 H1 (fun ws vs _=>Reps K G1 vs ws) .nil (fun h _ b=>.cons h b) ws vs h
theorem MdA.repsU {ws:List W} {vs:List V} (h:MdA K .U H0 H G1 H1 ws vs):Reps K (join H0 G1) vs ws:=
 @MdA.rec K .U H0 H G1 H1 (fun ws vs _=>Reps K (join H0 G1) vs ws) .nil (fun h _ b=>.cons h b) ws vs h
theorem new_ext {p:Addr} {o:HO} (hG:Same G H) (hp:H p=none):Ext G H G (upd H p o):=
 ⟨Same.refl G,fun b u q=>by rw [upd_ne (ne_of_none q hp)]; exact q,fun b u q=>by rw [upd_ne (ne_of_none (hG b u q) hp)]; exact hG b u q,fun _ _ _ _ e=>e⟩
theorem new_extG {p:Addr} {o:HO} (hG:Same G H) (hp:H p=none):Ext G H (upd G p o) (upd H p o):=by
 have gp:G p=none:=hG.free hp
 refine ⟨fun b u q=>by rw [upd_ne (ne_of_none q gp)]; exact q,fun b u q=>by rw [upd_ne (ne_of_none q hp)]; exact q,fun b u q=>?_,fun b u q l g=>?_⟩
 ·by_cases hb:b=p
  ·subst hb; rw [upd_same] at q ⊢; exact q
  ·rw [upd_ne hb] at q ⊢; exact hG b u q
 ·rw [upd_ne (ne_of_none q hp)]; exact g
theorem Out.newL {p:Addr} {vs:List V} {ws:List W} {Hs:Hp} (I:PIv K H0 G ρ σ H) (s:Same Hs H) (r:Reps K G vs ws) (hp:H p=none) (o:Out EX G H (mdW K .F H0 Hs) (.ok (.lst ws)) Q):Q (.ref p) (upd H p (.lst vs)):=
 o _ G _ (new_ext I.gh hp) ⟨p,vs,rfl,upd_same,I.gh.free hp,s.free hp,r⟩
theorem Out.newTF {p:Addr} {vs:List V} {ws:List W} {Hs:Hp} (I:PIv K H0 G ρ σ H) (r:Reps K G vs ws) (hp:H p=none) (o:Out EX G H (mdW K .F H0 Hs) (.ok (.tup ws)) Q):Q (.ref p) (upd H p (.tup vs)):=
 o _ (upd G p (.tup vs)) _ (new_extG I.gh hp) (.tup upd_same (r.same fun b u q=>by rw [upd_ne (ne_of_none q (I.gh.free hp))]; exact q))
def lim (n:Nat) (w:W):R W:=if n<=1000 then .ok w else .stuck
theorem Out.lim {α:Type} {n:Nat} {w:W} {md:W->α->Hp->Hp->Prop} {Q:α->Hp->Prop} (o:Out EX G H md (lim n w) Q):n<=1000/\Out EX G H md (.ok w) Q:=by
 unfold TP.lim at o
 by_cases n:n<=1000
 ·rw [if_pos n] at o; exact ⟨n,o⟩
 ·rw [if_neg n] at o; exact o.elim
theorem le_line {n:Nat} (h:n<=1000):n<=sizeLine:=Nat.le_trans h (by decide)
theorem c_tup {ma:Rho->R (List W)} (h:tM K EX .F (fun ρ=>ma ρ>>=fun ws=>lim ws.length (.tup ws)) σ H Q):tTup (tA K EX .V ma) σ H Q:=by
 obtain ⟨H0,G,ρ,I,o⟩:=h
 refine ⟨H0,G,ρ,I,Out.bind o fun xs G1 H1 ws e1 m1 o1=>?_⟩
 obtain ⟨hl,o2⟩:=Out.lim o1
 have r:=MdA.reps m1
 exact ⟨by rw [r.length]; exact le_line hl,fun p hp=>Out.newTF (I.ext e1) r hp o2⟩
theorem c_lst {ma:Rho->R (List W)} (h:tM K EX .F (fun ρ=>ma ρ>>=fun ws=>lim ws.length (.lst ws)) σ H Q):tLst (tA K EX .V ma) σ H Q:=by
 obtain ⟨H0,G,ρ,I,o⟩:=h
 refine ⟨H0,G,ρ,I,Out.bind o fun xs G1 H1 ws e1 m1 o1=>?_⟩
 obtain ⟨hl,o2⟩:=Out.lim o1
 have r:=MdA.reps m1
 exact ⟨by rw [r.length]; exact le_line hl,fun p hp=>Out.newL (I.ext e1) e1.hh r hp o2⟩
theorem join_upd {p:Addr} {o:HO} (h:H0 p=none):join H0 (upd G p o)=upd (join H0 G) p o:=by
 funext b
 by_cases hb:b=p
 ·subst hb; unfold join; rw [h]; dsimp only; rw [upd_same,upd_same]
 ·rw [upd_ne hb]; unfold join; cases H0 b with
  | none=>dsimp only; rw [upd_ne hb]
  | some u=>dsimp only; rw [upd_ne hb]
theorem c_tupU {ma:Rho->R (List W)} (h:tM K EX .U (fun ρ=>ma ρ>>=fun ws=>lim ws.length (.tup ws)) σ H Q):tTup (tA K EX .U ma) σ H Q:=by
 obtain ⟨H0,G,ρ,I,o⟩:=h
 refine ⟨H0,G,ρ,I,Out.bind o fun xs G1 H1 ws e1 m1 o1=>?_⟩
 obtain ⟨hl,o2⟩:=Out.lim o1
 have r:=MdA.repsU m1
 have I1:=I.ext e1
 refine ⟨by rw [r.length]; exact le_line hl,fun p hp=>o2 _ (upd G1 p (.tup xs)) _ (new_extG I1.gh hp) ?_⟩
 show Rep K (join H0 (upd G1 p (.tup xs))) _ _
 rw [join_upd (I1.hh.free hp)]
 exact .tup upd_same (r.same fun b u q=>by rw [upd_ne (ne_of_none (I1.join_H b u q) hp)]; exact q)
end
end TP
namespace TP
open PySem L2
inductive Fl where
 | nx (ρ:Rho) | rt (w:W) | bk (ρ:Rho) | ct (ρ:Rho)
def OutS (K:Frag) (EX:EXT) (d:Mode) (H0 G:Hp) (r:R Fl) (D:Ends):Prop:=match r with
 | .ok (.nx ρ)=>∀ G' σ' H',Same G G'->PIv K H0 G' ρ σ' H'->D.nx σ' H'
 | .ok (.bk ρ)=>∀ G' σ' H',Same G G'->PIv K H0 G' ρ σ' H'->D.bk σ' H'
 | .ok (.ct ρ)=>∀ G' σ' H',Same G G'->PIv K H0 G' ρ σ' H'->D.ct σ' H'
 | .ok (.rt w)=>∀ v G' H',Same G G'->Same G' H'->Same H0 H'->(∀ a o,H0 a=some o->isL o=true->G' a=none)->Md K H0 H0 G' H' v w d->D.rt v H'
 | .ex e=>∀ H',Same H0 H'->EX e H'
 | .stuck=>False
def tSt (K:Frag) (EX:EXT) (d:Mode) (m:Rho->R Fl):TS:=fun D σ H=>∃ H0 G ρ,PIv K H0 G ρ σ H/\OutS K EX d H0 G (m ρ) D
section
variable {K:Frag} {EX:EXT} {H0 G H G1 H1 G2 H2:Hp} {ρ:Rho} {σ:St} {d:Mode} {D:Ends}
theorem OutS.move {r:R Fl} (s:Same G G1) (o:OutS K EX d H0 G r D):OutS K EX d H0 G1 r D:=by
 cases r with
 | stuck=>exact o
 | ex e=>exact o
 | ok f=>
  cases f with
  | nx ρ'=>exact fun G' σ' H' s' I'=>o G' σ' H' (s.trans s') I'
  | bk ρ'=>exact fun G' σ' H' s' I'=>o G' σ' H' (s.trans s') I'
  | ct ρ'=>exact fun G' σ' H' s' I'=>o G' σ' H' (s.trans s') I'
  | rt w=>exact fun v G' H' s0 s1 s2 c md=>o v G' H' (s.trans s0) s1 s2 c md
theorem OutS.bind {α β:Type} {md:α->β->Hp->Hp->Prop} {m:R α} {k:α->R Fl} {Q1:β->Hp->Prop} (I:PIv K H0 G ρ σ H) (o:OutS K EX d H0 G (m>>=k) D)
  (h:∀ x G1 H1 w,Ext G H G1 H1->md w x G1 H1->OutS K EX d H0 G1 (k w) D->Q1 x H1):Out EX G H md m Q1:=by
 cases m with
 | ok w=>exact fun v G' H' e q=>h v G' H' w e q (OutS.move e.gg o)
 | ex e=>exact fun H' s=>o H' (I.hh.trans s)
 | stuck=>exact o
def mSeq (m n:Rho->R Fl):Rho->R Fl:=fun ρ=>m ρ>>=fun f=>match f with
 | .nx ρ'=>n ρ'
 | .rt w=>.ok (.rt w)
 | .bk ρ'=>.ok (.bk ρ')
 | .ct ρ'=>.ok (.ct ρ')
theorem c_next (h:tSt K EX d (fun ρ=>.ok (.nx ρ)) D σ H):tNext D σ H:=by
 obtain ⟨H0,G,ρ,I,o⟩:=h
 exact o G σ H (Same.refl G) I
theorem c_seq {m n:Rho->R Fl} (h:tSt K EX d (mSeq m n) D σ H):tSeq (tSt K EX d m) (tSt K EX d n) D σ H:=by
 obtain ⟨H0,G,ρ,I,o⟩:=h
 refine ⟨H0,G,ρ,I,?_⟩
 unfold mSeq at o
 revert o
 cases m ρ with
 | stuck=>exact id
 | ex e=>exact id
 | ok f=>
  cases f with
  | nx ρ'=>exact fun o G' σ' H' s' I'=>⟨H0,G',ρ',I',OutS.move s' o⟩
  | _=>exact id
theorem c_ret {m:Rho->R W} (h:tSt K EX d (fun ρ=>m ρ>>=fun w=>.ok (.rt w)) D σ H):tRet (tM K EX d m) D σ H:=by
 obtain ⟨H0,G,ρ,I,o⟩:=h
 refine ⟨H0,G,ρ,I,OutS.bind I o fun x G1 H1 w e1 m1 o1=>?_⟩
 have I1:=I.ext e1
 exact o1 x G1 H1 (Same.refl _) e1.gh I1.hh I1.gl (m1.start I.hh)
def mRetVar (d:Mode) (i:Nat):Rho->R Fl:=fun ρ=>match ρ[i]? with
 | some (.own ws)=>.ok (.rt (.lst ws))
 | _=>mVar d i ρ>>=fun w=>.ok (.rt w)
theorem c_retVar {i:Nat} (hd:d=.F\/d=.V) (h:tSt K EX d (mRetVar d i) D σ H):tRet (tVar i) D σ H:=by
 obtain ⟨H0,G,ρ,I,o⟩:=h
 unfold mRetVar at o
 by_cases ho:∃ ws,ρ[i]?=some (.own ws)
 ·obtain ⟨ws,e⟩:=ho
  rw [e] at o
  have hi:i<σ.length:=by rw [<- I.len]; exact (List.getElem?_eq_some_iff.mp e).1
  have es:σ[i]?=some σ[i]:=by simp
  obtain ⟨a,vs,ev,ha,hg,h0,r⟩:=I.sl i _ _ e es
  refine ⟨.ref a,by rw [es,ev],?_⟩
  rcases hd with rfl | rfl
  ·exact o _ G H (Same.refl _) I.gh I.hh I.gl ⟨a,vs,rfl,ha,hg,h0,r⟩
  ·have s1:Same G (upd G a (.lst vs)):=fun b o q=>by rw [upd_ne (ne_of_none q hg)]; exact q
   refine o _ (upd G a (.lst vs)) H s1 (fun b o q=>?_) I.hh (fun b u q l=>?_) (.lst upd_same (r.same s1))
   ·by_cases hb:b=a
    ·subst hb; rw [upd_same] at q; cases q; exact ha
    ·rw [upd_ne hb] at q; exact I.gh b o q
   ·rw [upd_ne (ne_of_none q h0)]; exact I.gl b u q l
 ·have o':OutS K EX d H0 G (mVar d i ρ>>=fun w=>.ok (.rt w)) D:=by
   revert o
   split
   ·rename_i ws e; exact absurd ⟨ws,e⟩ ho
   ·exact id
  have c:tRet (tM K EX d (mVar d i)) D σ H:=c_ret (m:=mVar d i) ⟨H0,G,ρ,I,o'⟩
  exact c_var c
theorem PIv.setV {i:Nat} {v:V} {w:W} (I:PIv K H0 G ρ σ H) (r:Rep K G v w):PIv K H0 G (ρ.set i (.val w)) (σ.set i (some v)) H where
 g0:=I.g0
 gl:=I.gl
 gh:=I.gh
 hh:=I.hh
 len:=by rw [List.length_set,List.length_set]; exact I.len
 sl j x o h1 h2:=by
  by_cases hj:i=j
  ·subst hj
   rw [List.getElem?_set] at h1 h2
   simp only [if_true] at h1 h2
   split at h1 <;> split at h2 <;> simp only [Option.some.injEq,reduceCtorEq] at h1 h2
   subst h1; subst h2
   exact ⟨v,rfl,r⟩
  ·rw [List.getElem?_set_ne hj] at h1 h2; exact I.sl j x o h1 h2
 ne a b ws us c hab h1 h2 h3 h4:=by
  have na:i≠a:=by
   rintro rfl
   rw [List.getElem?_set] at h1
   simp only [if_true] at h1
   split at h1 <;> simp at h1
  have nb:i≠b:=by
   rintro rfl
   rw [List.getElem?_set] at h2
   simp only [if_true] at h2
   split at h2 <;> simp at h2
  rw [List.getElem?_set_ne na] at h1 h3
  rw [List.getElem?_set_ne nb] at h2 h4
  exact I.ne a b ws us c hab h1 h2 h3 h4
theorem PIv.setU {i:Nat} {v:V} {w:W} (I:PIv K H0 G ρ σ H) (r:Rep K (join H0 G) v w):PIv K H0 G (ρ.set i (.par w)) (σ.set i (some v)) H where
 g0:=I.g0
 gl:=I.gl
 gh:=I.gh
 hh:=I.hh
 len:=by rw [List.length_set,List.length_set]; exact I.len
 sl j x o h1 h2:=by
  by_cases hj:i=j
  ·subst hj
   rw [List.getElem?_set] at h1 h2
   simp only [if_true] at h1 h2
   split at h1 <;> split at h2 <;> simp only [Option.some.injEq,reduceCtorEq] at h1 h2
   subst h1; subst h2
   exact ⟨v,rfl,r⟩
  ·rw [List.getElem?_set_ne hj] at h1 h2; exact I.sl j x o h1 h2
 ne a b ws us c hab h1 h2 h3 h4:=by
  have na:i≠a:=by
   rintro rfl
   rw [List.getElem?_set] at h1
   simp only [if_true] at h1
   split at h1 <;> simp at h1
  have nb:i≠b:=by
   rintro rfl
   rw [List.getElem?_set] at h2
   simp only [if_true] at h2
   split at h2 <;> simp at h2
  rw [List.getElem?_set_ne na] at h1 h3
  rw [List.getElem?_set_ne nb] at h2 h4
  exact I.ne a b ws us c hab h1 h2 h3 h4
theorem PIv.setO {i:Nat} {a:Addr} {vs:List V} {ws:List W} (I:PIv K H0 G ρ σ H) (ha:H a=some (.lst vs)) (hg:G a=none) (h0:H0 a=none) (r:Reps K G vs ws)
  (nw:∀ (j:Nat) (us:List W),ρ[j]?=some (Sl.own us)->σ[j]?≠some (some (V.ref a))):PIv K H0 G (ρ.set i (.own ws)) (σ.set i (some (.ref a))) H where
 g0:=I.g0
 gl:=I.gl
 gh:=I.gh
 hh:=I.hh
 len:=by rw [List.length_set,List.length_set]; exact I.len
 sl j x o h1 h2:=by
  by_cases hj:i=j
  ·subst hj
   rw [List.getElem?_set] at h1 h2
   simp only [if_true] at h1 h2
   split at h1 <;> split at h2 <;> simp only [Option.some.injEq,reduceCtorEq] at h1 h2
   subst h1; subst h2
   exact ⟨a,vs,rfl,ha,hg,h0,r⟩
  ·rw [List.getElem?_set_ne hj] at h1 h2; exact I.sl j x o h1 h2
 ne p q ws' us c hab h1 h2 h3 h4:=by
  by_cases hp:i=p
  ·subst hp
   rw [List.getElem?_set_ne hab] at h2 h4
   rw [List.getElem?_set] at h3
   simp only [if_true] at h3
   split at h3 <;> simp only [Option.some.injEq,reduceCtorEq,V.ref.injEq] at h3
   subst h3
   exact nw q us h2 h4
  ·rw [List.getElem?_set_ne hp] at h1 h3
   by_cases hq:i=q
   ·subst hq
    rw [List.getElem?_set] at h4
    simp only [if_true] at h4
    split at h4 <;> simp only [Option.some.injEq,reduceCtorEq,V.ref.injEq] at h4
    subst h4
    exact nw p ws' h1 h3
   ·rw [List.getElem?_set_ne hq] at h2 h4
    exact I.ne p q ws' us c hab h1 h2 h3 h4
def slotF:W->Sl
 | .lst ws=>.own ws
 | w=>.val w
theorem c_setV {i:Nat} {m:Rho->R W} (h:tSt K EX d (fun ρ=>m ρ>>=fun w=>.ok (.nx (ρ.set i (.val w)))) D σ H):tAsg (tM K EX .V m) (gName i) D σ H:=by
 obtain ⟨H0,G,ρ,I,o⟩:=h
 exact ⟨H0,G,ρ,I,OutS.bind I o fun x G1 H1 w e1 m1 o1=>o1 G1 _ H1 (Same.refl _) ((I.ext e1).setV m1)⟩
theorem c_setU {i:Nat} {m:Rho->R W} (h:tSt K EX d (fun ρ=>m ρ>>=fun w=>.ok (.nx (ρ.set i (.par w)))) D σ H):tAsg (tM K EX .U m) (gName i) D σ H:=by
 obtain ⟨H0,G,ρ,I,o⟩:=h
 exact ⟨H0,G,ρ,I,OutS.bind I o fun x G1 H1 w e1 m1 o1=>o1 G1 _ H1 (Same.refl _) ((I.ext e1).setU m1)⟩
theorem c_setF {i:Nat} {m:Rho->R W} (h:tSt K EX d (fun ρ=>m ρ>>=fun w=>.ok (.nx (ρ.set i (slotF w)))) D σ H):tAsg (tM K EX .F m) (gName i) D σ H:=by
 obtain ⟨H0,G,ρ,I,o⟩:=h
 refine ⟨H0,G,ρ,I,OutS.bind I o fun x G1 H1 w e1 m1 o1=>?_⟩
 have I1:=I.ext e1
 cases w with
 | lst ws=>
  obtain ⟨a,vs,rfl,h1,h2,h3,r⟩:=m1
  refine o1 G1 _ H1 (Same.refl _) (I1.setO h1 h2 (I.hh.free h3) r fun j us q z=>?_)
  obtain ⟨b,us',eb,hb,_⟩:=I.sl j _ _ q z
  cases eb
  rw [h3] at hb; cases hb
 | non=>exact o1 G1 _ H1 (Same.refl _) (I1.setV m1)
 | bl _=>exact o1 G1 _ H1 (Same.refl _) (I1.setV m1)
 | int _=>exact o1 G1 _ H1 (Same.refl _) (I1.setV m1)
 | str _=>exact o1 G1 _ H1 (Same.refl _) (I1.setV m1)
 | ty _=>exact o1 G1 _ H1 (Same.refl _) (I1.setV m1)
 | tup _=>exact o1 G1 _ H1 (Same.refl _) (I1.setV m1)
 | scr _=>exact o1 G1 _ H1 (Same.refl _) (I1.setV m1)
 | exc _ _=>exact o1 G1 _ H1 (Same.refl _) (I1.setV m1)
 | cls _=>exact o1 G1 _ H1 (Same.refl _) (I1.setV m1)
instance:DecidableEq Mode:=fun a b=>by cases a <;> cases b <;> first | exact isTrue rfl | exact isFalse (by intro h; cases h)
def Gt (K:Frag) (e:Mode) (g:TG) (mg:W->Rho->Option Rho):Prop:=∀ (H0 Hs G:Hp) (ρ:Rho) (σ:St) (H:Hp) (v:V) (w:W) (ρ':Rho) (Q:St->Hp->Prop),PIv K H0 G ρ σ H->Md K H0 Hs G H v w e->mg w ρ=some ρ' ->
 (∀ σ',PIv K H0 G ρ' σ' H->Q σ' H)->g v σ H Q
def Gts (K:Frag) (e:Mode) (g:TGs) (mg:List W->Rho->Option Rho):Prop:=∀ (H0 G:Hp) (ρ:Rho) (σ:St) (H:Hp) (vs:List V) (ws:List W) (ρ':Rho) (Q:St->Hp->Prop),PIv K H0 G ρ σ H->Reps K (if e=.V then G else join H0 G) vs ws->mg ws ρ=some ρ' ->
 (∀ σ',PIv K H0 G ρ' σ' H->Q σ' H)->g vs σ H Q
def gN (e:Mode) (i:Nat):W->Rho->Option Rho:=fun w ρ=>some (ρ.set i (if e=.V then .val w else .par w))
theorem gt_U {i:Nat}:Gt K .U (gName i) (gN .U i):=fun H0 Hs G ρ σ H v w ρ' Q I m e h=>by
 cases e; exact h _ (I.setU m)
def gsNil:List W->Rho->Option Rho
 | [],ρ=>some ρ
 | _,_=>none
def gsCons (f:W->Rho->Option Rho) (g:List W->Rho->Option Rho):List W->Rho->Option Rho
 | w::ws,ρ=>(f w ρ).bind (g ws)
 | [],_=>none
theorem gts_nil {e:Mode}:Gts K e gNil gsNil:=fun H0 G ρ σ H vs ws ρ' Q I r e h=>by
 cases r with
 | nil=>cases e; exact ⟨rfl,h _ I⟩
 | cons _ _=>cases e
theorem gts_cons {e:Mode} {t:TG} {u:TGs} {f:W->Rho->Option Rho} {g:List W->Rho->Option Rho} (he:e=.V\/e=.U) (h1:Gt K e t f) (h2:Gts K e u g):Gts K e (gCons t u) (gsCons f g):=fun H0 G ρ σ H vs ws ρ' Q I r q h=>by
 cases r with
 | nil=>cases q
 | cons a b=>
  unfold gsCons at q
  obtain ⟨ρ1,q1,q2⟩:=Option.bind_eq_some_iff.mp q
  refine ⟨_,_,rfl,h1 H0 H G ρ σ H _ _ ρ1 _ I ?_ q1 fun σ1 I1=>h2 H0 G ρ1 σ1 H _ _ ρ' Q I1 b q2 h⟩
  rcases he with rfl | rfl
  ·exact a
  ·exact a
def gT (n:Nat) (g:List W->Rho->Option Rho):W->Rho->Option Rho
 | .tup ws,ρ=>if ws.length=n then g ws ρ else none
 | _,_=>none
theorem gt_tup {e:Mode} {n:Nat} {u:TGs} {g:List W->Rho->Option Rho} (he:e=.V\/e=.U) (h:Gts K e u g):Gt K e (gTup K n u) (gT n g):=fun H0 Hs G ρ σ H v w ρ' Q I m q k=>by
 cases w <;> first | cases q | skip
 rename_i ws
 have q':(if ws.length=n then g ws ρ else none)=some ρ':=q
 by_cases hn:ws.length=n
 ·rw [if_pos hn] at q'
  rcases he with rfl | rfl
  ·obtain ⟨a,vs,e,s,r⟩:=Rep.inv m
   exact ⟨a,vs,e,SqT.of (I.gh _ _ s),by rw [r.length]; exact hn,h H0 G ρ σ H _ ws ρ' Q I (by rw [if_pos rfl]; exact r) q' k⟩
  ·obtain ⟨a,vs,e,s,r⟩:=Rep.inv m
   exact ⟨a,vs,e,SqT.of (I.join_H _ _ s),by rw [r.length]; exact hn,h H0 G ρ σ H _ ws ρ' Q I (by rw [if_neg (by intro z; cases z)]; exact r) q' k⟩
 ·rw [if_neg hn] at q'; cases q'
def toR {α:Type}:Option α->R α
 | some a=>.ok a
 | none=>.stuck
theorem PIv.own_upd {i:Nat} {a:Addr} {vs':List V} {ws ws':List W} (I:PIv K H0 G ρ σ H) (e:ρ[i]?=some (.own ws)) (es:σ[i]?=some (some (.ref a))) (r:Reps K G vs' ws'):PIv K H0 G (ρ.set i (.own ws')) σ (upd H a (.lst vs')):=by
 obtain ⟨a',vs,ev,ha,hg,h0,_⟩:=I.sl i _ _ e es
 cases ev
 refine ⟨I.g0,I.gl,fun b o q=>by rw [upd_ne (ne_of_none q hg)]; exact I.gh b o q,fun b o q=>by rw [upd_ne (ne_of_none q h0)]; exact I.hh b o q,by rw [List.length_set]; exact I.len,fun j x o h1 h2=>?_,fun p q ws1 us c hab h1 h2 h3 h4=>?_⟩
 ·by_cases hj:i=j
  ·subst hj
   rw [List.getElem?_set] at h1
   simp only [if_true] at h1
   split at h1 <;> simp only [Option.some.injEq,reduceCtorEq] at h1
   subst h1
   rw [es] at h2; cases h2
   exact ⟨a,vs',rfl,upd_same,hg,h0,r⟩
  ·rw [List.getElem?_set_ne hj] at h1
   have:=I.sl j x o h1 h2
   cases x with
   | own us=>
    obtain ⟨b,us',eb,hb,hgb,h0b,rb⟩:=this
    subst eb
    have hne:b≠a:=by
     rintro rfl
     exact I.ne i j ws us b hj e h1 es h2
    exact ⟨b,us',rfl,by rw [upd_ne hne]; exact hb,hgb,h0b,rb⟩
   | dic ks=>
    obtain ⟨b,us',eb,hb,hgb,h0b,rb⟩:=this
    have hne:b≠a:=by
     rintro rfl
     rw [ha] at hb; cases hb
    exact ⟨b,us',eb,by rw [upd_ne hne]; exact hb,hgb,h0b,rb⟩
   | dik ks=>
    obtain ⟨b,us',eb,hb,hgb,h0b,rb⟩:=this
    have hne:b≠a:=by
     rintro rfl
     rw [ha] at hb; cases hb
    exact ⟨b,us',eb,by rw [upd_ne hne]; exact hb,hgb,h0b,rb⟩
   | un=>exact this
   | val _=>exact this
   | par _=>exact this
   | iop _ _=>exact this
   | hz _=>exact this
 ·have key:∀ {k:Nat} {us:List W},(ρ.set i (.own ws'))[k]?=some (.own us)->∃ us',ρ[k]?=some (.own us'):=fun {k us} hk=>by
   by_cases hik:i=k
   ·subst hik; exact ⟨ws,e⟩
   ·rw [List.getElem?_set_ne hik] at hk; exact ⟨us,hk⟩
  obtain ⟨w1,k1⟩:=key h1
  obtain ⟨w2,k2⟩:=key h2
  exact I.ne p q w1 w2 c hab k1 k2 h3 h4
theorem PIv.own_at {i:Nat} {ws:List W} (I:PIv K H0 G ρ σ H) (e:ρ[i]?=some (.own ws)):∃ a vs,σ[i]?=some (some (.ref a))/\H a=some (.lst vs)/\G a=none/\H0 a=none/\Reps K G vs ws:=by
 have hi:i<σ.length:=by rw [<- I.len]; exact (List.getElem?_eq_some_iff.mp e).1
 have es:σ[i]?=some σ[i]:=by simp
 obtain ⟨a,vs,ev,r⟩:=I.sl i _ _ e es
 exact ⟨a,vs,by rw [es,ev],r⟩
def mApp (i:Nat) (m:Rho->R W):Rho->R Fl:=fun ρ=>match ρ[i]? with
 | some (.own ws)=>m ρ>>=fun w=>if ws.length<1000 then .ok (.nx (ρ.set i (.own (ws ++ [w])))) else .stuck
 | _=>.stuck
theorem c_app {i:Nat} {m:Rho->R W} (h:tSt K EX d (mApp i m) D σ H):tDrop (tApp (tVar i) (tM K EX .V m)) D σ H:=by
 obtain ⟨H0,G,ρ,I,o⟩:=h
 unfold mApp at o
 split at o
 ·rename_i ws e
  obtain ⟨a,vs,es,ha,hg,h0,r⟩:=I.own_at e
  refine ⟨.ref a,es,a,rfl,⟨vs,ha⟩,H0,G,ρ,I,OutS.bind I o fun x G1 H1 w e1 m1 o1=>?_⟩
  by_cases hl:ws.length<1000
  ·rw [if_pos hl] at o1
   have h1:=e1.hh a _ ha
   dsimp only
   rw [h1]
   dsimp only
   have hlen:vs.length=ws.length:=r.length
   exact ⟨Nat.lt_of_lt_of_le (by omega:vs.length<1000) (by decide),o1 G1 σ _ (Same.refl _) ((I.ext e1).own_upd e es ((r.same e1.gg).snoc m1))⟩
  ·rw [if_neg hl] at o1; exact o1.elim
 ·exact o.elim
def mSet (i:Nat) (mk me:Rho->R W):Rho->R Fl:=fun ρ=>match ρ[i]? with
 | some (.own ws)=>me ρ>>=fun w=>mk ρ>>=fun k=>(match k with
  | .int k=>(match ixN ws.length k with
   | some j=>.ok (.nx (ρ.set i (.own (ws.set j w))))
   | none=>.stuck)
  | _=>.stuck)
 | _=>.stuck
theorem c_set {i:Nat} {mk me:Rho->R W} (h:tSt K EX d (mSet i mk me) D σ H):tAsg (tM K EX .V me) (gSub (tVar i) (tM K EX .B mk) rSetL) D σ H:=by
 obtain ⟨H0,G,ρ,I,o⟩:=h
 unfold mSet at o
 split at o
 ·rename_i ws e
  obtain ⟨a,vs,es,ha,hg,h0,r⟩:=I.own_at e
  refine ⟨H0,G,ρ,I,OutS.bind I o fun x G1 H1 w e1 m1 o1=>⟨.ref a,es,H0,G1,ρ,I.ext e1,OutS.bind (I.ext e1) o1 fun y G2 H2 k e2 m2 o2=>?_⟩⟩
  cases k <;> first | exact o2.elim | skip
  rename_i k
  dsimp only at o2
  cases q:ixN ws.length k with
  | none=>rw [q] at o2; exact o2.elim
  | some j=>
   rw [q] at o2
   refine ⟨a,vs,k,j,rfl,m2.intB,e2.hh _ _ (e1.hh _ _ ha),by rw [r.length]; exact q,?_⟩
   exact o2 G2 σ _ (Same.refl _) (((I.ext e1).ext e2).own_upd e es (Reps.set (Rep.same e2.gg m1) j ((r.same e1.gg).same e2.gg)))
 ·exact o.elim
def mAug (i:Nat) (f:Int->Int->Int) (m:Rho->R W):Rho->R Fl:=fun ρ=>mVar .B i ρ>>=fun x=>m ρ>>=fun y=>match x,y with
 | .int a,.int b=>.ok (.nx (ρ.set i (.val (.int (f a b)))))
 | _,_=>.stuck
theorem c_aug {i:Nat} {f:Int->Int->Int} {m:Rho->R W} (h:tSt K EX d (mAug i f m) D σ H):tAug i (tM K EX .B m) (ipI f) D σ H:=by
 obtain ⟨H0,G,ρ,I,o⟩:=h
 unfold mAug at o
 have c:tM K EX .B (mVar .B i) σ H (fun x H1=>∃ G1 w,Ext G H G1 H1/\Md K H0 H G1 H1 x w .B/\OutS K EX d H0 G1 (m ρ>>=fun y=>match w,y with
   | .int a,.int b=>.ok (.nx (ρ.set i (.val (.int (f a b)))))
   | _,_=>.stuck) D):=⟨H0,G,ρ,I,OutS.bind I o fun x G1 H1 w e1 m1 o1=>⟨G1,w,e1,m1,o1⟩⟩
 obtain ⟨v,es,G1,w,e1,m1,o1⟩:=c_var c
 have I1:=I.ext e1
 refine ⟨v,es,H0,G1,ρ,I1,OutS.bind I1 o1 fun y G2 H2 u e2 m2 o2=>?_⟩
 cases w <;> first | exact o2.elim | skip
 cases u <;> first | exact o2.elim | skip
 rename_i a b
 exact ⟨a,b,m1.intB,m2.intB,o2 G2 _ H2 (Same.refl _) ((I1.ext e2).setV .int)⟩
def mIf (c:Rho->R Bool) (m n:Rho->R Fl):Rho->R Fl:=fun ρ=>c ρ>>=fun b=>if b then m ρ else n ρ
theorem c_ifS {c:Rho->R Bool} {m n:Rho->R Fl} (h:tSt K EX d (mIf c m n) D σ H):tIfS (tT K EX c) (tSt K EX d m) (tSt K EX d n) D σ H:=by
 obtain ⟨H0,G,ρ,I,o⟩:=h
 refine ⟨H0,G,ρ,I,OutS.bind I o fun x G1 H1 w e1 m1 o1=>?_⟩
 cases m1
 cases x with
 | true=>exact ⟨H0,G1,ρ,I.ext e1,o1⟩
 | false=>exact ⟨H0,G1,ρ,I.ext e1,o1⟩
def frz (i:Nat) (ρ:Rho):Rho:=match ρ[i]? with
 | some (.own ws)=>ρ.set i (.val (.lst ws))
 | _=>ρ
theorem PIv.frz {i:Nat} (I:PIv K H0 G ρ σ H):∃ G',Same G G'/\PIv K H0 G' (frz i ρ) σ H:=by
 unfold TP.frz
 split
 ·rename_i ws e
  obtain ⟨a,vs,es,ha,hg,h0,r⟩:=I.own_at e
  have s1:Same G (upd G a (.lst vs)):=fun b o q=>by rw [upd_ne (ne_of_none q hg)]; exact q
  refine ⟨upd G a (.lst vs),s1,?_⟩
  have I1:PIv K H0 G (ρ.set i .un) σ H:=by
   refine ⟨I.g0,I.gl,I.gh,I.hh,by rw [List.length_set]; exact I.len,fun j x o h1 h2=>?_,fun p q ws1 us c hab h1 h2 h3 h4=>?_⟩
   ·by_cases hj:i=j
    ·subst hj
     rw [List.getElem?_set] at h1
     simp only [if_true] at h1
     split at h1 <;> simp only [Option.some.injEq,reduceCtorEq] at h1
     subst h1; trivial
    ·rw [List.getElem?_set_ne hj] at h1; exact I.sl j x o h1 h2
   ·have na:i≠p:=by
     rintro rfl
     rw [List.getElem?_set] at h1
     simp only [if_true] at h1
     split at h1 <;> simp at h1
    have nb:i≠q:=by
     rintro rfl
     rw [List.getElem?_set] at h2
     simp only [if_true] at h2
     split at h2 <;> simp at h2
    rw [List.getElem?_set_ne na] at h1
    rw [List.getElem?_set_ne nb] at h2
    exact I.ne p q ws1 us c hab h1 h2 h3 h4
  have I2:PIv K H0 (upd G a (.lst vs)) (ρ.set i .un) σ H:=by
   refine ⟨fun b o q l=>s1 b o (I.g0 b o q l),fun b o q l=>by rw [upd_ne (ne_of_none q h0)]; exact I.gl b o q l,fun b o q=>?_,I.hh,I1.len,fun j x o h1 h2=>?_,I1.ne⟩
   ·by_cases hb:b=a
    ·subst hb; rw [upd_same] at q; cases q; exact ha
    ·rw [upd_ne hb] at q; exact I.gh b o q
   ·have:=I1.sl j x o h1 h2
    cases x with
    | un=>trivial
    | val w=>obtain ⟨v,e1,r1⟩:=this; exact ⟨v,e1,r1.same s1⟩
    | par w=>obtain ⟨v,e1,r1⟩:=this; exact ⟨v,e1,r1.same (join_same s1)⟩
    | own us=>
     obtain ⟨b,us',eb,hb,hgb,h0b,rb⟩:=this
     subst eb
     have hij:i≠j:=by
      rintro rfl
      rw [List.getElem?_set] at h1
      simp only [if_true] at h1
      split at h1 <;> simp at h1
     rw [List.getElem?_set_ne hij] at h1
     have hne:b≠a:=by
      rintro rfl
      exact I.ne i j ws us b hij e h1 es h2
     exact ⟨b,us',rfl,hb,by rw [upd_ne hne]; exact hgb,h0b,rb.same s1⟩
    | dic ks=>
     obtain ⟨b,us',eb,hb,hgb,h0b,rb⟩:=this
     have hne:b≠a:=by
      rintro rfl
      rw [ha] at hb; cases hb
     exact ⟨b,us',eb,hb,by rw [upd_ne hne]; exact hgb,h0b,rb⟩
    | dik ks=>
     obtain ⟨b,us',eb,hb,hgb,h0b,rb⟩:=this
     have hne:b≠a:=by
      rintro rfl
      rw [ha] at hb; cases hb
     exact ⟨b,us',eb,hb,by rw [upd_ne hne]; exact hgb,h0b,rb⟩
    | iop p us=>obtain ⟨e1,vs1,h1',r1⟩:=this; exact ⟨e1,vs1,h1',r1.same s1⟩
    | hz w=>obtain ⟨v,e,r⟩:=this; exact ⟨v,e,r.same (join_same (noLG_same s1))⟩
  have I3:=I2.setV (i:=i) (v:=.ref a) (w:=.lst ws) (.lst upd_same (r.same s1))
  have e3:σ.set i (some (V.ref a))=σ:=by
   apply List.ext_getElem?
   intro j
   by_cases hj:i=j
   ·subst hj; rw [es,List.getElem?_set]; simp only [if_true]; rw [if_pos (List.getElem?_eq_some_iff.mp es).1]
   ·rw [List.getElem?_set_ne hj]
  rw [e3,List.set_set] at I3
  exact I3
 ·exact ⟨G,Same.refl G,I⟩
theorem c_frz {i:Nat} {m:Rho->R Fl} (h:tSt K EX d (fun ρ=>m (frz i ρ)) D σ H):tSt K EX d m D σ H:=by
 obtain ⟨H0,G,ρ,I,o⟩:=h
 obtain ⟨G',s,I'⟩:=I.frz (i:=i)
 exact ⟨H0,G',_,I',OutS.move s o⟩
end
end TP
namespace TP
open PySem L2
section
variable {K:Frag} {EX:EXT} {H0 G H G1 H1 G2 H2:Hp} {ρ:Rho} {σ:St} {d:Mode} {D:Ends}
structure ItOk (K:Frag) (e:Mode) (H0 Z G:Hp) (J:It) (ws:List W):Prop where
 go:∀ i H,i<ws.length->Same Z H->J.go i H
 stop:∀ H,Same Z H->J.stop ws.length H
 yld:∀ i H x H' w,ws[i]?=some w->Same Z H->J.yld i H x H'->∀ G2 ρ σ,PIv K H0 G2 ρ σ H->Same G G2->∃ G3,Ext G2 H G3 H'/\Md K H0 H G3 H' x w e
def OutI (K:Frag) (EX:EXT) (lp:Bool) (e:Mode) (H0 G H:Hp) (r:R (List W)) (Rr:It->Hp->Prop):Prop:=match r with
 | .ok ws=>∀ J G' H',Ext G H G' H'->ItOk K e H0 (if lp then join H0 G' else H') G' J ws->Rr J H'
 | .ex x=>∀ H',Same H H'->EX x H'
 | .stuck=>False
def tIt (K:Frag) (EX:EXT) (lp:Bool) (e:Mode) (m:Rho->R (List W)):TI:=fun σ H Rr=>∃ H0 G ρ,PIv K H0 G ρ σ H/\OutI K EX lp e H0 G H (m ρ) Rr
def mFor (mg:W->Rho->Option Rho) (mb:Rho->R Fl):List W->Rho->R Fl
 | [],ρ=>.ok (.nx ρ)
 | w::ws,ρ=>toR (mg w ρ)>>=fun ρ1=>mb ρ1>>=fun f=>match f with
  | .nx ρ2=>mFor mg mb ws ρ2
  | .ct ρ2=>mFor mg mb ws ρ2
  | .bk ρ2=>.ok (.nx ρ2)
  | .rt w=>.ok (.rt w)
theorem c_for {e:Mode} {g:TG} {mg:W->Rho->Option Rho} {mi:Rho->R (List W)} {mb:Rho->R Fl} (hg:Gt K e g mg) (h:tSt K EX d (fun ρ=>mi ρ>>=fun ws=>mFor mg mb ws ρ) D σ H) :
  tFor (tIt K EX true e mi) g (tSt K EX d mb) D σ H:=by
 obtain ⟨H0,G,ρ,I,o⟩:=h
 refine ⟨H0,G,ρ,I,?_⟩
 replace o:OutS K EX d H0 G (mi ρ>>=fun ws=>mFor mg mb ws ρ) D:=o
 revert o
 cases mi ρ with
 | stuck=>exact id
 | ex x=>exact fun o H' s=>o H' (I.hh.trans s)
 | ok ws=>
  intro o J G1 H1 e1 T
  have o1:OutS K EX d H0 G1 (mFor mg mb ws ρ) D:=OutS.move e1.gg o
  refine ⟨fun i m σ H=>m=ws.length-i/\i<=ws.length/\∃ G2 ρ2,Same G1 G2/\PIv K H0 G2 ρ2 σ H/\OutS K EX d H0 G2 (mFor mg mb (ws.drop i) ρ2) D,⟨_,rfl,Nat.zero_le _,G1,ρ,Same.refl _,I.ext e1,o1⟩,?_⟩
  rintro i m σ2 Hh ⟨rfl,hi,G2,ρ2,s2,I2,o2⟩
  have hz:Same (join H0 G1) Hh:=(join_same s2).trans I2.join_H
  by_cases hlt:i<ws.length
  ·refine .inr ⟨T.go i Hh hlt hz,fun σ' H'=>∃ G4 ρ4,Same G1 G4/\PIv K H0 G4 ρ4 σ' H'/\OutS K EX d H0 G4 (mFor mg mb (ws.drop (i+1)) ρ4) D,fun σ' H' zz66=>by obtain ⟨G4,ρ4,s4,I4,o4⟩:=zz66; exact ⟨ws.length-(i+1),by omega,rfl,hlt,G4,ρ4,s4,I4,o4⟩,fun x H' y=>?_⟩
   obtain ⟨G3,e3,m3⟩:=T.yld i Hh x H' ws[i] (by simp) hz y G2 ρ2 σ2 I2 s2
   rw [List.drop_eq_getElem_cons hlt] at o2
   unfold mFor at o2
   cases q:mg ws[i] ρ2 with
   | none=>rw [q] at o2; exact o2.elim
   | some ρ'=>
    rw [q] at o2
    refine hg H0 Hh G3 ρ2 σ2 H' x _ ρ' _ (I2.ext e3) m3 q fun σ' I'=>⟨H0,G3,ρ',I',?_⟩
    have o3:OutS K EX d H0 G3 (mb ρ'>>=fun f=>match f with
     | .nx ρ2=>mFor mg mb (ws.drop (i+1)) ρ2
     | .ct ρ2=>mFor mg mb (ws.drop (i+1)) ρ2
     | .bk ρ2=>.ok (.nx ρ2)
     | .rt w=>.ok (.rt w)) D:=OutS.move e3.gg o2
    revert o3
    have s3:Same G1 G3:=s2.trans e3.gg
    cases mb ρ' with
    | stuck=>exact id
    | ex x=>exact id
    | ok f=>
     cases f with
     | nx ρ4=>exact fun o4 G4 σ4 H4 s4 I4=>⟨G4,ρ4,s3.trans s4,I4,OutS.move s4 o4⟩
     | ct ρ4=>exact fun o4 G4 σ4 H4 s4 I4=>⟨G4,ρ4,s3.trans s4,I4,OutS.move s4 o4⟩
     | bk ρ4=>exact id
     | rt w=>exact id
  ·have e:i=ws.length:=by omega
   subst e
   refine .inl ⟨T.stop Hh hz,?_⟩
   rw [List.drop_length] at o2
   exact o2 G2 σ2 Hh (Same.refl _) I2
def iterW (c:Rho->R Bool) (b:Rho->R Fl):Nat->Rho->Option (R Fl)
 | 0,_=>none
 | n+1,ρ=>match c ρ with
  | .ok false=>some (.ok (.nx ρ))
  | .ok true=>(match b ρ with
   | .ok (.nx ρ')=>iterW c b n ρ'
   | .ok (.ct ρ')=>iterW c b n ρ'
   | .ok (.bk ρ')=>some (.ok (.nx ρ'))
   | .ok (.rt w)=>some (.ok (.rt w))
   | .ex e=>some (.ex e)
   | .stuck=>some .stuck)
  | .ex e=>some (.ex e)
  | .stuck=>some .stuck
theorem iterW_more {c:Rho->R Bool} {b:Rho->R Fl}:∀ (n:Nat) (ρ:Rho) (r:R Fl),iterW c b n ρ=some r->∀ m,n<=m->iterW c b m ρ=some r:=by
 intro n
 induction n with
 | zero=>intro ρ r h; cases h
 | succ n ih=>
  intro ρ r h m hm
  obtain ⟨k,rfl⟩:∃ k,m=k+1:=⟨m-1,by omega⟩
  have hk:=Nat.le_of_succ_le_succ hm
  unfold iterW at h ⊢
  revert h
  cases c ρ with
  | ex e=>exact id
  | stuck=>exact id
  | ok t=>
   cases t with
   | false=>exact id
   | true=>
    cases b ρ with
    | ex e=>exact id
    | stuck=>exact id
    | ok f=>
     cases f with
     | nx ρ'=>exact fun h=>ih ρ' r h k hk
     | ct ρ'=>exact fun h=>ih ρ' r h k hk
     | bk ρ'=>exact id
     | rt w=>exact id
open Classical in
def mWhile (c:Rho->R Bool) (b:Rho->R Fl):Rho->R Fl:=fun ρ=>if h:∃ r n,iterW c b n ρ=some r then h.choose else .stuck
theorem mWhile_eq {c:Rho->R Bool} {b:Rho->R Fl} {n:Nat} {r:R Fl} (h:iterW c b n ρ=some r):mWhile c b ρ=r:=by
 unfold mWhile
 have hx:∃ r n,iterW c b n ρ=some r:=⟨r,n,h⟩
 rw [dif_pos hx]
 obtain ⟨m,hm⟩:=hx.choose_spec
 have a:=iterW_more n ρ r h (max n m) (Nat.le_max_left _ _)
 have b:=iterW_more m ρ _ hm (max n m) (Nat.le_max_right _ _)
 rw [a] at b
 exact (Option.some.inj b).symm
theorem c_while {c:Rho->R Bool} {b:Rho->R Fl} (h:tSt K EX d (mWhile c b) D σ H):tWhile (tT K EX c) (tSt K EX d b) D σ H:=by
 obtain ⟨H0,G,ρ,I,o⟩:=h
 by_cases hx:∃ r n,iterW c b n ρ=some r
 ·obtain ⟨r,n,hn⟩:=hx
  rw [mWhile_eq hn] at o
  refine ⟨fun m σ2 Hh=>∃ G2 ρ2,Same G G2/\PIv K H0 G2 ρ2 σ2 Hh/\iterW c b m ρ2=some r,⟨n,G,ρ,Same.refl _,I,hn⟩,?_⟩
  rintro m σ2 Hh ⟨G2,ρ2,s2,I2,h2⟩
  have o2:OutS K EX d H0 G2 r D:=OutS.move s2 o
  refine ⟨H0,G2,ρ2,I2,?_⟩
  cases m with
  | zero=>cases h2
  | succ m=>
   unfold iterW at h2
   revert h2
   cases c ρ2 with
   | stuck=>intro h2; cases h2; exact o2
   | ex x=>intro h2; cases h2; exact fun H' s=>o2 H' (I2.hh.trans s)
   | ok t=>
    cases t with
    | false=>
     intro h2; cases h2
     intro v G3 H3 e3 q
     cases q
     rw [if_neg Bool.false_ne_true]
     exact o2 G3 σ2 H3 e3.gg (I2.ext e3)
    | true=>
     intro h2 v G3 H3 e3 q
     cases q
     rw [if_pos rfl]
     refine ⟨fun σ' H'=>∃ G4 ρ4,Same G G4/\PIv K H0 G4 ρ4 σ' H'/\iterW c b m ρ4=some r,fun σ' H' zz67=>by obtain ⟨G4,ρ4,s4,I4,h4⟩:=zz67; exact ⟨m,Nat.lt_succ_self m,G4,ρ4,s4,I4,h4⟩,H0,G3,ρ2,I2.ext e3,?_⟩
     have o3:OutS K EX d H0 G3 r D:=OutS.move e3.gg o2
     have s3:Same G G3:=s2.trans e3.gg
     revert h2
     cases b ρ2 with
     | stuck=>intro h2; cases h2; exact o3
     | ex x=>intro h2; cases h2; exact o3
     | ok f=>
      cases f with
      | nx ρ4=>exact fun h2 G4 σ4 H4 s4 I4=>⟨G4,ρ4,s3.trans s4,I4,h2⟩
      | ct ρ4=>exact fun h2 G4 σ4 H4 s4 I4=>⟨G4,ρ4,s3.trans s4,I4,h2⟩
      | bk ρ4=>intro h2; cases h2; exact o3
      | rt w=>intro h2; cases h2; exact o3
 ·unfold mWhile at o
  rw [dif_neg hx] at o
  exact o.elim
theorem Md.whole {v:V} {w:W} {Hs:Hp} (I:PIv K H0 G ρ σ H) (h:Md K H0 Hs G H v w .B):Rep K H v w:=by
 rcases h with h | ⟨a,vs,ws,rfl,rfl,h1,r⟩
 ·exact h.same I.join_H
 ·exact .lst h1 (r.same I.gh)
theorem MdA.whole {Hs:Hp} (I:PIv K H0 G ρ σ H) {ws:List W} {vs:List V} (h:MdA K .B H0 Hs G H ws vs):Reps K H vs ws:=
 @MdA.rec K .B H0 Hs G H (fun ws vs _=>Reps K H vs ws) .nil (fun h _ b=>.cons (h.whole I) b) ws vs h
def XE (_:XK):EXT:=fun _ _=>False
def spM (K:Frag) (n:Nat) (d:Mode) (f:List W->R W):Sp:=fun vs H Q E=>vs.length=n/\∃ ws,Reps K H vs ws/\match f ws with
 | .ok w=>∀ v G' H',Same H H'->Same G' H'->(∀ a o,H a=some o->isL o=true->G' a=none)->Md K H H G' H' v w d->Q v H'
 | .ex e=>∀ H',Same H H'->XE E e H'
 | .stuck=>False
def runB (n N:Nat) (m:Rho->R Fl) (ws:List W):R W:=if ws.length=n then (m (ws.map Sl.par++List.replicate (N-n) Sl.un)>>=fun f=>match f with
 | .rt w=>.ok w
 | .nx _=>.ok .non
 | _=>.stuck) else .stuck
theorem runB_len {n N:Nat} {m:Rho->R Fl} (ws:List W) (h:runB n N m ws≠.stuck):ws.length=n:=by
 unfold runB at h
 by_cases e:ws.length=n
 ·exact e
 ·rw [if_neg e] at h; exact absurd rfl h
def both (G G':Hp):Hp:=fun b=>match G b with
 | some o=>some o
 | none=>G' b
theorem c_call {n:Nat} {f:List W->R W} {E:XK} {ma:Rho->R (List W)} {Q:VK} (hd:d=.F\/d=.V) (hf:∀ ws,f ws≠.stuck->ws.length=n) (hE:∀ e H,EX e H->XE E e H) (h:tM K EX d (fun ρ=>ma ρ>>=fun ws=>f ws) σ H Q) :
  tCall (spM K n d f) [] E (tA K EX .B ma) σ H Q:=by
 obtain ⟨H0,G,ρ,I,o⟩:=h
 refine ⟨H0,G,ρ,I,Out.bind o fun xs G1 H1 ws e1 m1 o1=>?_⟩
 have I1:=I.ext e1
 have r:=MdA.whole I1 m1
 rw [List.append_nil]
 refine ⟨?_,ws,r,?_⟩
 ·rw [r.length]
  refine hf ws fun z=>?_
  rw [z] at o1; exact o1
 ·revert o1
  cases f ws with
  | stuck=>exact id
  | ex e=>exact fun o1 H' s=>hE e H' (o1 H' s)
  | ok w=>
   intro o1 v G' H' sH gH cl md
   have sB:Same G1 (both G1 G'):=fun b o q=>by unfold both; rw [q]
   have sB':Same G' (both G1 G'):=fun b o q=>by
    unfold both
    cases q1:G1 b with
    | none=>exact q
    | some u=>
     have a1:=sH b u (I1.gh b u q1)
     rw [gH b o q] at a1
     exact a1.symm
   have sHB:Same (both G1 G') H':=fun b o q=>by
    unfold both at q
    cases q1:G1 b with
    | none=>rw [q1] at q; exact gH b o q
    | some u=>rw [q1] at q; cases q; exact sH b _ (I1.gh b _ q1)
   have ex:Ext G1 H1 (both G1 G') H':=⟨sB,sH,sHB,fun b o q l g=>by unfold both; rw [g]; exact cl b o q l⟩
   refine o1 v (both G1 G') H' ex ?_
   rcases hd with rfl | rfl
   ·cases w with
    | lst us=>
     obtain ⟨a,vs,rfl,h1,h2,h3,r3⟩:=md
     exact ⟨a,vs,rfl,h1,by unfold both; rw [I1.gh.free h3]; exact h2,e1.hh.free h3,r3.same sB'⟩
    | non=>exact Rep.same sB' md
    | bl _=>exact Rep.same sB' md
    | int _=>exact Rep.same sB' md
    | str _=>exact Rep.same sB' md
    | ty _=>exact Rep.same sB' md
    | tup _=>exact Rep.same sB' md
    | scr _=>exact Rep.same sB' md
    | exc _ _=>exact Rep.same sB' md
    | cls _=>exact Rep.same sB' md
   ·exact Rep.same sB' md
def noLH (H:Hp):Hp:=fun a=>match H a with
 | some o=>if isL o then none else some o
 | none=>none
theorem join_noLH:join H (noLH H)=H:=by
 funext a
 unfold join noLH
 cases q:H a with
 | none=>rfl
 | some o=>
  dsimp only
  cases isL o <;> rfl
theorem Reps.slots {vs:List V} {ws:List W} {i:Nat} {x:Sl} {o:Option V} {k k':Nat} (r:Reps K H vs ws):(ws.map Sl.par++List.replicate k Sl.un)[i]?=some x->(vs.map some++List.replicate k' none)[i]?=some o->x=.un\/∃ v w,x=.par w/\o=some v/\Rep K H v w:=
 Reps.ind (P:=fun vs ws=>∀ i,(ws.map Sl.par++List.replicate k Sl.un)[i]?=some x->(vs.map some++List.replicate k' none)[i]?=some o->x=.un\/∃ v w,x=.par w/\o=some v/\Rep K H v w) (fun i h1 h2=>by
  have h1:(List.replicate k Sl.un)[i]?=some x:=h1
  rw [List.getElem?_replicate] at h1
  by_cases hk:i<k
  ·rw [if_pos hk] at h1; exact .inl (Option.some.inj h1).symm
  ·rw [if_neg hk] at h1; cases h1) (fun r _ b i h1 h2=>by
  cases i with
  | zero=>exact .inr ⟨_,_,(Option.some.inj h1).symm,(Option.some.inj h2).symm,r⟩
  | succ i=>exact b i h1 h2) r i
theorem PIv.begin {vs:List V} {ws:List W} {k k':Nat} (r:Reps K H vs ws) (hk:k=k'):PIv K H (noLH H) (ws.map Sl.par++List.replicate k Sl.un) (vs.map some++List.replicate k' none) H where
 g0 a o e l:=by unfold noLH; rw [e]; dsimp only; rw [l]; rfl
 gl a o e l:=by unfold noLH; rw [e]; dsimp only; rw [l]; rfl
 gh a o e:=by
  unfold noLH at e
  cases q:H a with
  | none=>rw [q] at e; cases e
  | some u=>
   rw [q] at e
   dsimp only at e
   cases hl:isL u
   ·rw [hl] at e; exact e
   ·rw [hl] at e; cases e
 hh:=Same.refl H
 len:=by subst hk; simp [r.length]
 sl i x o h1 h2:=by
  rcases Reps.slots r h1 h2 with rfl | ⟨v,w,rfl,rfl,q⟩
  ·trivial
  ·exact ⟨v,rfl,by rw [join_noLH]; exact q⟩
 ne i j us xs a hij h1 _ _ _:=by
  have:∀ (i:Nat) (us:List W),(ws.map Sl.par++List.replicate k Sl.un)[i]?≠some (Sl.own us):=fun i us q=>by
   rw [List.getElem?_append] at q
   split at q
   ·rw [List.getElem?_map] at q
    cases hh:ws[i]? <;> rw [hh] at q <;> cases q
   ·rw [List.getElem?_replicate] at q
    split at q <;> cases q
  exact absurd h1 (this i us)
theorem c_body {n:Nat} {Nl:List Str} {m:Rho->R Fl} {vs:List V} {Q:VK} {E:XK} (hd:d=.F\/d=.V) (h:spM K n d (runB n Nl.length m) vs H Q E):tSt K (fun _ _=>False) d m { nx:=fun _ H'=>Q .non H',rt:=Q } (L2.start Nl vs) H:=by
 obtain ⟨hl,ws,r,o⟩:=h
 have hw:ws.length=n:=by rw [<- r.length]; exact hl
 unfold runB at o
 rw [if_pos hw] at o
 refine ⟨H,noLH H,_,PIv.begin (k:=Nl.length-n) r (by rw [hl]),?_⟩
 revert o
 cases m (ws.map Sl.par++List.replicate (Nl.length-n) Sl.un) with
 | stuck=>exact id
 | ex e=>exact fun o=>(o H (Same.refl H)).elim
 | ok f=>
  cases f with
  | nx ρ'=>exact fun o G' σ' H' s' I'=>o .non G' H' I'.hh I'.gh I'.gl (Md.sca rfl (fun _=>.non) d)
  | rt w=>exact fun o v G' H' _ s1 s2 c md=>o v G' H' s2 s1 c md
  | bk _=>exact fun o=>o.elim
  | ct _=>exact fun o=>o.elim
end
end TP
namespace TP
open PySem L2
section
variable {K:Frag} {EX:EXT} {H0 G H G1 H1 G2 H2:Hp} {ρ:Rho} {σ:St} {d:Mode} {D:Ends}
def elR (mg:W->Rho->Option Rho) (mc:Rho->R Bool) (me:Rho->R W) (ρ:Rho) (w:W):R (Option W):=match mg w ρ with
 | none=>.stuck
 | some ρ1=>(match mc ρ1 with
  | .ok true=>(match me ρ1 with
   | .ok y=>.ok (some y)
   | _=>.stuck)
  | .ok false=>.ok none
  | _=>.stuck)
def mapR (f:W->R (Option W)):List W->R (List W)
 | []=>.ok []
 | w::ws=>match f w,mapR f ws with
  | .ok (some y),.ok ys=>.ok (y::ys)
  | .ok none,.ok ys=>.ok ys
  | _,_=>.stuck
def mComp (N':Nat) (mg:W->Rho->Option Rho) (mc:Rho->R Bool) (me:Rho->R W) (ws:List W) (ρ:Rho):R W:=
 if ws.length<=1000 then (match mapR (elR mg mc me (ρ++List.replicate (N'-ρ.length) Sl.un)) ws with
  | .ok ys=>.ok (.lst ys)
  | _=>.stuck) else .stuck
theorem mapR_ok {f:W->R (Option W)}:∀ {ws ys:List W},mapR f ws=.ok ys->(∀ w∈ws,∃ o,f w=.ok o)/\ys=ws.filterMap fun w=>match f w with
  | .ok o=>o
  | _=>none:=by
 intro ws
 induction ws with
 | nil=>intro ys h; cases h; exact ⟨by simp,rfl⟩
 | cons w ws ih=>
  intro ys h
  unfold mapR at h
  cases hf:f w with
  | stuck=>rw [hf] at h; cases h
  | ex e=>rw [hf] at h; cases h
  | ok o=>
   rw [hf] at h
   cases hm:mapR f ws with
   | stuck=>rw [hm] at h; cases o <;> cases h
   | ex e=>rw [hm] at h; cases o <;> cases h
   | ok zs=>
    rw [hm] at h
    obtain ⟨h1,h2⟩:=ih hm
    refine ⟨fun u hu=>?_,?_⟩
    ·rcases List.mem_cons.mp hu with rfl | hu
     ·exact ⟨o,hf⟩
     ·exact h1 u hu
    ·cases o with
     | none=>cases h; rw [List.filterMap_cons,hf]; exact h2
     | some y=>cases h; rw [List.filterMap_cons,hf,h2]
theorem PIv.inner {N':List Str} (I:PIv K H0 G ρ σ H):PIv K H0 G (ρ++List.replicate (N'.length-ρ.length) Sl.un) (inner N' σ) H:=by
 have hl:=I.len
 unfold L2.inner
 rw [hl]
 refine ⟨I.g0,I.gl,I.gh,I.hh,by simp [hl],fun i x o h1 h2=>?_,fun p q ws us c hab h1 h2 h3 h4=>?_⟩
 ·by_cases hi:i<ρ.length
  ·rw [List.getElem?_append_left hi] at h1
   rw [List.getElem?_append_left (by omega)] at h2
   exact I.sl i x o h1 h2
  ·rw [List.getElem?_append_right (by omega),List.getElem?_replicate] at h1
   split at h1 <;> simp only [Option.some.injEq,reduceCtorEq] at h1
   subst h1; trivial
 ·have key:∀ {k:Nat} {us:List W},(ρ++List.replicate (N'.length-σ.length) Sl.un)[k]?=some (Sl.own us)->k<ρ.length/\ρ[k]?=some (Sl.own us):=fun {k us} hk=>by
   by_cases hi:k<ρ.length
   ·rw [List.getElem?_append_left hi] at hk; exact ⟨hi,hk⟩
   ·rw [List.getElem?_append_right (by omega),List.getElem?_replicate] at hk
    split at hk <;> simp at hk
  obtain ⟨l1,k1⟩:=key h1
  obtain ⟨l2,k2⟩:=key h2
  rw [List.getElem?_append_left (by omega)] at h3 h4
  exact I.ne p q ws us c hab k1 k2 h3 h4
open Classical in
def rest (G H:Hp) (Dd:Addr) (H':Hp):Hp:=fun b=>if b=Dd\/∃ o,H b=some o/\isL o=true/\G b=none then none else H' b
theorem rest_none {Dd b:Addr} {H':Hp} (h:b=Dd\/∃ o,H b=some o/\isL o=true/\G b=none):rest G H Dd H' b=none:=by unfold rest; rw [if_pos h]
theorem rest_some {Dd b:Addr} {H':Hp} (h:¬ (b=Dd\/∃ o,H b=some o/\isL o=true/\G b=none)):rest G H Dd H' b=H' b:=by unfold rest; rw [if_neg h]
theorem rest_of {Dd b:Addr} {H':Hp} {o:HO} (h:rest G H Dd H' b=some o):H' b=some o/\¬ (b=Dd\/∃ o,H b=some o/\isL o=true/\G b=none):=by
 by_cases c:b=Dd\/∃ o,H b=some o/\isL o=true/\G b=none
 ·rw [rest_none c] at h; cases h
 ·rw [rest_some c] at h; exact ⟨h,c⟩
theorem PIv.rest {Dd:Addr} {H':Hp} (I:PIv K H0 G ρ σ H) (hD:H Dd=none) (s:Same H H'):Same G (rest G H Dd H')/\PIv K H0 (rest G H Dd H') ρ σ H':=by
 have sG:Same G (TP.rest G H Dd H'):=fun b o q=>by
  rw [rest_some]
  ·exact s b o (I.gh b o q)
  ·rintro (rfl | ⟨u,h1,h2,h3⟩)
   ·rw [I.gh _ _ q] at hD; cases hD
   ·rw [q] at h3; cases h3
 refine ⟨sG,fun a o e l=>sG a o (I.g0 a o e l),fun a o e l=>rest_none (.inr ⟨o,I.hh a o e,l,I.gl a o e l⟩),fun b o q=>(rest_of q).1,I.hh.trans s,I.len,fun i x o h1 h2=>?_,I.ne⟩
 have:=I.sl i x o h1 h2
 cases x with
 | un=>trivial
 | val w=>obtain ⟨v,e,r⟩:=this; exact ⟨v,e,r.same sG⟩
 | par w=>obtain ⟨v,e,r⟩:=this; exact ⟨v,e,r.same (join_same sG)⟩
 | own ws=>
  obtain ⟨a,vs,e,h,g,h0,r⟩:=this
  exact ⟨a,vs,e,s a _ h,rest_none (.inr ⟨_,h,rfl,g⟩),h0,r.same sG⟩
 | dic ks=>
  obtain ⟨a,vs,e,h,g,h0,r⟩:=this
  exact ⟨a,vs,e,s a _ h,rest_none (.inr ⟨_,h,rfl,g⟩),h0,r⟩
 | dik ks=>
  obtain ⟨a,vs,e,h,g,h0,r⟩:=this
  exact ⟨a,vs,e,s a _ h,rest_none (.inr ⟨_,h,rfl,g⟩),h0,r⟩
 | iop p ws=>obtain ⟨e1,vs1,h1',r1⟩:=this; exact ⟨e1,vs1,h1',r1.same sG⟩
 | hz w=>obtain ⟨v,e,r⟩:=this; exact ⟨v,e,r.same (join_same (noLG_same sG))⟩
theorem rest_mono {Dd:Addr} {Ha Hb:Hp} (s:∀ b o,b≠Dd->Ha b=some o->Hb b=some o):Same (rest G H Dd Ha) (rest G H Dd Hb):=fun b o q=>by
 obtain ⟨h,c⟩:=rest_of q
 rw [rest_some c]
 exact s b o (fun z=>c (.inl z)) h
theorem rest_ext {Dd:Addr} {Ha Hb G':Hp} (hl:∃ ys,Ha Dd=some (.lst ys)) (s:Same H Ha) (e:Ext (rest G H Dd Ha) Ha G' Hb):Same G' (rest G H Dd Hb):=fun b o q=>by
 rw [rest_some]
 ·exact e.gh b o q
 ·rintro (rfl | ⟨u,h1,h2,h3⟩)
  ·obtain ⟨ys,hl⟩:=hl
   rw [e.keep _ _ hl rfl (rest_none (.inl rfl))] at q; cases q
  ·rw [e.keep _ _ (s _ _ h1) h2 (rest_none (.inr ⟨u,h1,h2,h3⟩))] at q; cases q
theorem c_comp {Q:VK} {e:Mode} {N':List Str} {g:TG} {mg:W->Rho->Option Rho} {mi:Rho->R (List W)} {mc:Rho->R Bool} {me:Rho->R W} (hg:Gt K e g mg) (h:tM K EX .F (fun ρ=>mi ρ>>=fun ws=>mComp N'.length mg mc me ws ρ) σ H Q) :
  tComp N' (tIt K EX false e mi) g (tT K EX mc) (tM K EX .V me) σ H Q:=by
 obtain ⟨H0,G,ρ,I,o⟩:=h
 refine ⟨H0,G,ρ,I,?_⟩
 replace o:Out EX G H (mdW K .F H0 H) (mi ρ>>=fun ws=>mComp N'.length mg mc me ws ρ) Q:=o
 revert o
 cases mi ρ with
 | stuck=>exact id
 | ex x=>exact id
 | ok ws=>
  intro o J G1 H1 e1 T Dd hD
  have I1:=I.ext e1
  replace o:Out EX G H (mdW K .F H0 H) (mComp N'.length mg mc me ws ρ) Q:=o
  unfold mComp at o
  by_cases hlen:ws.length<=1000
  ·rw [if_pos hlen] at o
   cases hm:mapR (elR mg mc me (ρ++List.replicate (N'.length-ρ.length) Sl.un)) ws with
   | stuck=>rw [hm] at o; exact o.elim
   | ex x=>rw [hm] at o; exact o.elim
   | ok ys=>
    rw [hm] at o
    obtain ⟨hall,hys⟩:=mapR_ok hm
    have T':ItOk K e H0 H1 G1 J ws:=by
     have:=T
     rw [if_neg Bool.false_ne_true] at this
     exact this
    generalize hρ:ρ++List.replicate (N'.length-ρ.length) Sl.un=ρi at hm hall hys
    refine ⟨fun i m H2=>m=ws.length-i/\i<=ws.length/\Same H1 H2/\∃ vs,H2 Dd=some (.lst vs)/\vs.length<=i/\Reps K (rest G1 H1 Dd H2) vs ((ws.take i).filterMap fun w=>match elR mg mc me ρi w with
     | .ok o=>o
     | _=>none),⟨_,rfl,Nat.zero_le _,fun b u q=>by rw [upd_ne (ne_of_none q hD)]; exact q,[],upd_same,Nat.le_refl _,.nil⟩,?_⟩
    rintro i m H2 ⟨rfl,hi,s2,vs,hDv,hvl,r2⟩
    by_cases hlt:i<ws.length
    ·refine .inr ⟨T'.go i H2 hlt s2,fun x H3 y=>?_⟩
     obtain ⟨sG,I2⟩:=I1.rest (Dd:=Dd) hD s2
     have I2i:=I2.inner (N':=N')
     obtain ⟨G3,e3,m3⟩:=T'.yld i H2 x H3 ws[i] (by simp) s2 y _ _ _ I2i sG
     obtain ⟨op,hop⟩:=hall ws[i] (List.getElem_mem hlt)
     have hop':=hop
     unfold elR at hop
     rw [<- hρ] at hop
     have htake:ws.take (i+1)=ws.take i ++ [ws[i]]:=by rw [List.take_succ_eq_append_getElem hlt]
     cases q:mg ws[i] (ρ++List.replicate (N'.length-ρ.length) Sl.un) with
     | none=>rw [q] at hop; cases hop
     | some ρ1=>
      rw [q] at hop
      dsimp only at hop
      refine hg H0 H2 G3 _ _ H3 x _ ρ1 _ (I2i.ext e3) m3 q fun σ4 I4=>⟨H0,G3,ρ1,I4,?_⟩
      cases hc:mc ρ1 with
      | stuck=>rw [hc] at hop; cases hop
      | ex x=>rw [hc] at hop; cases hop
      | ok b=>
       intro b' G5 H5 e5 eb
       cases eb
       rw [hc] at hop
       cases b with
       | false=>
        rw [if_neg Bool.false_ne_true]
        have hop2:op=none:=by cases hop; rfl
        have s5:Same H2 H5:=e3.hh.trans e5.hh
        refine ⟨ws.length-(i+1),by omega,rfl,hlt,s2.trans s5,vs,s5 _ _ hDv,by omega,?_⟩
        rw [htake,List.filterMap_append]
        have:([ws[i]].filterMap fun w=>match elR mg mc me ρi w with
         | .ok o=>o
         | _=>none) = []:=by
         rw [List.filterMap_cons,hop',hop2]; rfl
        rw [this,List.append_nil]
        exact r2.same (rest_mono fun b o _ q=>s5 b o q)
       | true=>
        dsimp only at hop
        rw [if_pos rfl]
        refine ⟨H0,G5,ρ1,I4.ext e5,?_⟩
        cases hme:me ρ1 with
        | stuck=>rw [hme] at hop; cases hop
        | ex x=>rw [hme] at hop; cases hop
        | ok z=>
         rw [hme] at hop
         have hop2:op=some z:=by cases hop; rfl
         intro yv G6 H6 e6 m6
         have e36:Ext (TP.rest G1 H1 Dd H2) H2 G6 H6:=(e3.trans e5).trans e6
         have s6:Same H2 H6:=e36.hh
         refine ⟨vs,s6 _ _ hDv,Nat.lt_of_le_of_lt hvl (Nat.lt_of_lt_of_le (by omega:i<1000) (by decide)),ws.length-(i+1),by omega,rfl,hlt,fun b u q=>by rw [upd_ne (ne_of_none q hD)]; exact s6 b u (s2 b u q),vs ++ [yv],upd_same,by rw [List.length_append]; simp; omega,?_⟩
         rw [htake,List.filterMap_append]
         have:([ws[i]].filterMap fun w=>match elR mg mc me ρi w with
          | .ok o=>o
          | _=>none) = [z]:=by
          rw [List.filterMap_cons,hop',hop2]; rfl
         rw [this]
         have k1:Same (TP.rest G1 H1 Dd H2) (TP.rest G1 H1 Dd (upd H6 Dd (.lst (vs ++ [yv])))):=rest_mono fun b o hb q=>by rw [upd_ne hb]; exact s6 b o q
         have k2:Same G6 (TP.rest G1 H1 Dd (upd H6 Dd (.lst (vs ++ [yv])))):=(rest_ext ⟨vs,hDv⟩ s2 e36).trans (rest_mono fun b o hb q=>by rw [upd_ne hb]; exact q)
         exact (r2.same k1).snoc (Rep.same k2 m6)
    ·have ei:i=ws.length:=by omega
     subst ei
     refine .inl ⟨T'.stop H2 s2,?_⟩
     rw [List.take_length,<- hys] at r2
     obtain ⟨sG,I2⟩:=I1.rest (Dd:=Dd) hD s2
     refine o _ (TP.rest G1 H1 Dd H2) H2 ⟨e1.gg.trans sG,e1.hh.trans s2,I2.gh,fun b u q l g=>rest_none (.inr ⟨u,e1.hh b u q,l,e1.keep b u q l g⟩)⟩ ⟨Dd,vs,rfl,hDv,rest_none (.inl rfl),e1.hh.free hD,r2⟩
  ·rw [if_neg hlen] at o; exact o.elim
def seqW:W->R (List W)
 | .lst ws=>.ok ws
 | .tup ws=>.ok ws
 | .scr ws=>.ok ws
 | _=>.stuck
theorem sq_same {t:Bool} {a:Addr} {xs:List V} (e:Same H H1) (h:Sq K H t a xs):Sq K H1 t a xs:=by
 unfold Sq at h ⊢
 split at h
 ·rename_i ht; rw [if_pos ht]; exact sqT_same e h
 ·rename_i ht; rw [if_neg ht]; exact Same.seq e h
theorem sqT {a:Addr} {xs:List V} (h:SqT K H a xs):Sq K H true a xs:=by unfold Sq; rw [if_pos rfl]; exact h
theorem sqL {a:Addr} {xs:List V} (h:SqL K H a xs):Sq K H false a xs:=by unfold Sq; rw [if_neg Bool.false_ne_true]; exact h
theorem Rep.sq {F:Hp} {x:V} {w:W} {ws:List W} (h:Rep K F x w) (hw:seqW w=.ok ws):∃ t a vs,x=.ref a/\Sq K F t a vs/\Reps K F vs ws:=by
 cases w <;> first | (cases hw; done) | skip
 ·obtain ⟨a,vs,e,s,r⟩:=h.inv; exact ⟨true,a,vs,e,sqT (SqT.of s),R.ok.inj hw ▸ r⟩
 ·obtain ⟨a,vs,e,s,r⟩:=h.inv; exact ⟨false,a,vs,e,sqL (SqL.of s),R.ok.inj hw ▸ r⟩
 ·obtain ⟨a,vs,e,s,r⟩:=h.inv; exact ⟨false,a,vs,e,sqL s,R.ok.inj hw ▸ r⟩
def srcM:Bool->Mode->Mode
 | true,e=>e
 | false,.V=>.C
 | false,_=>.B
def fz (e:Mode) (H0 G:Hp):Hp:=if e=.V then G else join H0 G
theorem Md.src {lp:Bool} {e:Mode} {Hs:Hp} {x:V} {w:W} {ws:List W} (he:e=.V\/e=.U) (I:PIv K H0 G ρ σ H) (m:Md K H0 Hs G H x w (srcM lp e)) (hw:seqW w=.ok ws) :
  ∃ t a vs,x=.ref a/\Sq K (if lp then join H0 G else H) t a vs/\Reps K (fz e H0 G) vs ws:=by
 unfold fz
 rcases he with rfl | rfl
 ·rw [if_pos rfl]
  cases lp with
  | true=>
   obtain ⟨t,a,vs,e1,e2,e3⟩:=Rep.sq m hw
   exact ⟨t,a,vs,e1,by rw [if_pos rfl]; exact sq_same I.G_join e2,e3⟩
  | false=>
   rw [if_neg Bool.false_ne_true]
   rcases m with m | ⟨a,vs,us,rfl,rfl,h1,r⟩
   ·obtain ⟨t,a,vs,e1,e2,e3⟩:=Rep.sq m hw
    exact ⟨t,a,vs,e1,sq_same I.gh e2,e3⟩
   ·cases hw; exact ⟨false,a,vs,rfl,sqL (SqL.of h1),r⟩
 ·rw [if_neg (show ¬ (Mode.U=Mode.V) by intro z; cases z)]
  cases lp with
  | true=>
   obtain ⟨t,a,vs,e1,e2,e3⟩:=Rep.sq m hw
   exact ⟨t,a,vs,e1,by rw [if_pos rfl]; exact e2,e3⟩
  | false=>
   rw [if_neg Bool.false_ne_true]
   rcases m with m | ⟨a,vs,us,rfl,rfl,h1,r⟩
   ·obtain ⟨t,a,vs,e1,e2,e3⟩:=Rep.sq m hw
    exact ⟨t,a,vs,e1,sq_same I.join_H e2,e3⟩
   ·cases hw; exact ⟨false,a,vs,rfl,sqL (SqL.of h1),r.same I.G_join⟩
theorem Md.of_fz {e:Mode} {Hs:Hp} {v:V} {w:W} (he:e=.V\/e=.U) (h:Rep K (fz e H0 G) v w):Md K H0 Hs G H v w e:=by
 unfold fz at h
 rcases he with rfl | rfl
 ·rw [if_pos rfl] at h; exact h
 ·rw [if_neg (show ¬ (Mode.U=Mode.V) by intro z; cases z)] at h; exact h
theorem fz_same {e:Mode} (s:Same G G1):Same (fz e H0 G) (fz e H0 G1):=by
 unfold fz
 split
 ·exact s
 ·exact join_same s
theorem itok_sq {e:Mode} {Z:Hp} {t:Bool} {a:Addr} {vs:List V} {ws:List W} (he:e=.V\/e=.U) (s:Sq K Z t a vs) (r:Reps K (fz e H0 G) vs ws):ItOk K e H0 Z G (ItQ K t a) ws:=by
 have hl:=r.length
 cases t with
 | true=>
  have hq:∀ H,Same Z H->SqT K H a vs:=fun H z=>by have:=sq_same z s; unfold Sq at this; rw [if_pos rfl] at this; exact this
  refine ⟨fun i H hi z=>⟨vs,vs[i]'(by omega),hq H z,by simp⟩,fun H z=>⟨vs,hq H z,by omega⟩,fun i H x H' w hw z zz68 G2 ρ σ I sg=>?_⟩
  obtain ⟨e1,y⟩:=zz68
  subst e1
  have hx:=y vs (hq _ z)
  obtain ⟨v,hv,rv⟩:=Reps.get r hw
  rw [hx] at hv; cases hv
  exact ⟨G2,Ext.refl I.gh,Md.of_fz he (rv.same (fz_same sg))⟩
 | false=>
  have hq:∀ H,Same Z H->SqL K H a vs:=fun H z=>by have:=sq_same z s; unfold Sq at this; rw [if_neg Bool.false_ne_true] at this; exact this
  refine ⟨fun i H hi z=>⟨vs,vs[i]'(by omega),hq H z,by simp⟩,fun H z=>⟨vs,hq H z,by omega⟩,fun i H x H' w hw z zz69 G2 ρ σ I sg=>?_⟩
  obtain ⟨e1,y⟩:=zz69
  subst e1
  have hx:=y vs (hq _ z)
  obtain ⟨v,hv,rv⟩:=Reps.get r hw
  rw [hx] at hv; cases hv
  exact ⟨G2,Ext.refl I.gh,Md.of_fz he (rv.same (fz_same sg))⟩
theorem lp_H {lp:Bool} (I:PIv K H0 G ρ σ H):Same (if lp then join H0 G else H) H:=by
 cases lp
 ·exact Same.refl H
 ·exact I.join_H
theorem c_iSq {lp:Bool} {e:Mode} {ml:Rho->R W} {Rr:It->Hp->Prop} (he:e=.V\/e=.U) (h:tIt K EX lp e (fun ρ=>ml ρ>>=seqW) σ H Rr):iSq K (tM K EX (srcM lp e) ml) σ H Rr:=by
 obtain ⟨H0,G,ρ,I,o⟩:=h
 refine ⟨H0,G,ρ,I,?_⟩
 replace o:OutI K EX lp e H0 G H (ml ρ>>=seqW) Rr:=o
 revert o
 cases ml ρ with
 | stuck=>exact id
 | ex x=>exact id
 | ok w=>
  intro o x G1 H1 e1 m1
  have I1:=I.ext e1
  have o':OutI K EX lp e H0 G H (seqW w) Rr:=o
  cases q:seqW w with
  | stuck=>rw [q] at o'; exact o'.elim
  | ex z=>cases w <;> cases q
  | ok ws=>
   rw [q] at o'
   obtain ⟨t,a,vs,ex,s,r⟩:=Md.src he I1 m1 q
   exact ⟨a,ex,t,vs,sq_same (lp_H I1) s,o' _ G1 H1 e1 (itok_sq he s r)⟩
def rngW (lo hi:Int):R (List W):=if -1000000<=lo/\lo<=1000000 /\ -1000000<=hi/\hi<=1000000 then .ok ((List.range (hi-lo).toNat).map fun k=>W.int (lo+(k:Nat))) else .stuck
def rng1:List W->R (List W)
 | [.int j]=>rngW 0 j
 | _=>.stuck
def rng2:List W->R (List W)
 | [.int i,.int j]=>rngW i j
 | _=>.stuck
theorem itok_rng {e:Mode} {Z:Hp} {lo:Int} {n:Nat} (he:e=.V\/e=.U):ItOk K e H0 Z G (Itr lo n) ((List.range n).map fun k=>W.int (lo+(k:Nat))):=by
 refine ⟨fun i H hi _=>by show i<n; simpa using hi,fun H _=>by simp [Itr],fun i H x H' w hw _ zz70 G2 ρ σ I _=>?_⟩
 obtain ⟨e1,e2⟩:=zz70
 subst e1; subst e2
 rw [List.getElem?_map] at hw
 cases q:(List.range n)[i]? with
 | none=>rw [q] at hw; cases hw
 | some k=>
  rw [q] at hw
  have hk:k=i:=by
   have:=List.getElem?_eq_some_iff.mp q
   obtain ⟨h1,h2⟩:=this
   simpa using h2.symm
  subst hk
  cases hw
  refine ⟨G2,Ext.refl I.gh,Md.sca rfl (fun _=>.int) e⟩
theorem tIt_bind {lp:Bool} {e b:Mode} {ma:Rho->R (List W)} {k:List W->R (List W)} {Rr:It->Hp->Prop} {Q:List V->Hp->Prop} (h:tIt K EX lp e (fun ρ=>ma ρ>>=k) σ H Rr)
  (hq:∀ H0 G ρ G1 H1 xs ws us,PIv K H0 G ρ σ H->Ext G H G1 H1->MdA K b H0 H G1 H1 ws xs->k ws=.ok us->(∀ J G' H',Ext G H G' H'->ItOk K e H0 (if lp then join H0 G' else H') G' J us->Rr J H')->Q xs H1)
  (hx:∀ ws e,k ws≠.ex e):tA K EX b ma σ H Q:=by
 obtain ⟨H0,G,ρ,I,o⟩:=h
 refine ⟨H0,G,ρ,I,?_⟩
 replace o:OutI K EX lp e H0 G H (ma ρ>>=k) Rr:=o
 revert o
 cases ma ρ with
 | stuck=>exact id
 | ex x=>exact id
 | ok ws=>
  intro o xs G1 H1 e1 m1
  have o':OutI K EX lp e H0 G H (k ws) Rr:=o
  cases q:k ws with
  | stuck=>rw [q] at o'; exact o'.elim
  | ex z=>exact absurd q (hx ws z)
  | ok us=>rw [q] at o'; exact hq H0 G ρ G1 H1 xs ws us I e1 m1 q o'
theorem rngW_ok {lo hi:Int} {us:List W} (h:rngW lo hi=.ok us):(-1000000<=lo/\lo<=1000000 /\ -1000000<=hi/\hi<=1000000)/\us=(List.range (hi-lo).toNat).map fun k=>W.int (lo+(k:Nat)):=by
 unfold rngW at h
 split at h
 ·cases h; rename_i c; exact ⟨c,rfl⟩
 ·cases h
theorem rngW_nex {lo hi:Int} {e:XW} (h:rngW lo hi=.ex e):False:=by
 unfold rngW at h
 by_cases c:-1000000<=lo/\lo<=1000000 /\ -1000000<=hi/\hi<=1000000
 ·rw [if_pos c] at h; cases h
 ·rw [if_neg c] at h; cases h
theorem c_rng1 {lp:Bool} {e:Mode} {ma:Rho->R (List W)} {Rr:It->Hp->Prop} (he:e=.V\/e=.U) (h:tIt K EX lp e (fun ρ=>ma ρ>>=rng1) σ H Rr):iRng1 (tA K EX .B ma) σ H Rr:=by
 refine tIt_bind h (fun H0 G ρ G1 H1 xs ws us I e1 m1 q o=>?_) (fun ws e z=>?_)
 ·cases m1 with
  | nil=>cases q
  | @cons w _ _ _ a t=>
   cases t with
   | cons _ _=>first | (cases q; done) | (cases w <;> cases q)
   | nil=>
    cases w <;> first | (cases q; done) | skip
    rename_i j
    obtain ⟨c,rfl⟩:=rngW_ok (show rngW 0 j=_ from q)
    refine ⟨j,by rw [Md.intB a],by omega,by omega,?_⟩
    have:=o (Itr 0 j.toNat) G1 H1 e1
    rw [Int.sub_zero] at this
    exact this (itok_rng he)
 ·cases ws with
  | nil=>cases z
  | cons w t=>
   cases t with
   | cons _ _=>first | (cases z; done) | (cases w <;> cases z)
   | nil=>
    cases w <;> first | (cases z; done) | skip
    exact rngW_nex (lo:=0) z
theorem c_rng2 {lp:Bool} {e:Mode} {ma:Rho->R (List W)} {Rr:It->Hp->Prop} (he:e=.V\/e=.U) (h:tIt K EX lp e (fun ρ=>ma ρ>>=rng2) σ H Rr):iRng2 (tA K EX .B ma) σ H Rr:=by
 refine tIt_bind h (fun H0 G ρ G1 H1 xs ws us I e1 m1 q o=>?_) (fun ws e z=>?_)
 ·cases m1 with
  | nil=>cases q
  | @cons w _ _ _ a t=>
   cases t with
   | nil=>first | (cases q; done) | (cases w <;> cases q)
   | @cons w2 _ _ _ b t=>
    cases t with
    | cons _ _=>first | (cases q; done) | (cases w <;> first | (cases q; done) | (cases w2 <;> cases q))
    | nil=>
     cases w <;> first | (cases q; done) | skip
     cases w2 <;> first | (cases q; done) | skip
     rename_i i j
     obtain ⟨c,rfl⟩:=rngW_ok (show rngW i j=_ from q)
     exact ⟨i,j,by rw [Md.intB a,Md.intB b],⟨by omega,by omega,by omega,by omega⟩,o _ G1 H1 e1 (itok_rng he)⟩
 ·cases ws with
  | nil=>cases z
  | cons w t=>
   cases t with
   | nil=>first | (cases z; done) | (cases w <;> cases z)
   | cons w2 t=>
    cases t with
    | cons _ _=>first | (cases z; done) | (cases w <;> first | (cases z; done) | (cases w2 <;> cases z))
    | nil=>
     cases w <;> first | (cases z; done) | skip
     cases w2 <;> first | (cases z; done) | skip
     exact rngW_nex z
def zipW:List (List W)->List (List W)
 | [xs,ys]=>xs.zipWith (fun x y=>[x,y]) ys
 | [xs,ys,zs]=>(xs.zip ys).zipWith (fun p z=>[p.1,p.2,z]) zs
 | _=>[]
def seqWs:List W->R (List (List W))
 | []=>.ok []
 | w::ws=>match seqW w,seqWs ws with
  | .ok x,.ok xs=>.ok (x::xs)
  | _,_=>.stuck
def zipR (ws:List W):R (List W):=if ws.length=2\/ws.length=3 then (match seqWs ws with
 | .ok xs=>.ok ((zipW xs).map W.tup)
 | _=>.stuck) else .stuck
theorem rep_new {e:Mode} {p:Addr} {vs:List V} {ws:List W} {Hs:Hp} (he:e=.V\/e=.U) (I:PIv K H0 G ρ σ H) (hp:H p=none) (r:Reps K (fz e H0 G) vs ws):Ext G H (upd G p (.tup vs)) (upd H p (.tup vs))/\Md K H0 Hs (upd G p (.tup vs)) (upd H p (.tup vs)) (.ref p) (.tup ws) e:=by
 refine ⟨new_extG I.gh hp,?_⟩
 have gp:G p=none:=I.gh.free hp
 rcases he with rfl | rfl
 ·unfold fz at r
  rw [if_pos rfl] at r
  exact .tup upd_same (r.same fun b u q=>by rw [upd_ne (ne_of_none q gp)]; exact q)
 ·unfold fz at r
  rw [if_neg (show ¬ (Mode.U=Mode.V) by intro z; cases z)] at r
  show Rep K (join H0 (upd G p (.tup vs))) _ _
  rw [join_upd (I.hh.free hp)]
  exact .tup upd_same (r.same fun b u q=>by rw [upd_ne (ne_of_none (I.join_H b u q) hp)]; exact q)
theorem itok_zip2 {e:Mode} {Z:Hp} {t u:Bool} {a b:Addr} {xs ys:List V} {us vs:List W} (he:e=.V\/e=.U) (s1:Sq K Z t a xs) (s2:Sq K Z u b ys) (r1:Reps K (fz e H0 G) xs us) (r2:Reps K (fz e H0 G) ys vs) :
  ItOk K e H0 Z G (ItZ K [(t,a),(u,b)]) ((us.zipWith (fun x y=>[x,y]) vs).map W.tup):=by
 have Rn:=runs_zip2 s1 s2
 have l1:=r1.length
 have l2:=r2.length
 have hl:((us.zipWith (fun x y=>[x,y]) vs).map W.tup).length=min xs.length ys.length:=by simp [l1,l2]
 refine ⟨fun i H hi z=>Rn.go i H (by omega) z,fun H z=>by rw [hl]; exact Rn.stop H z,fun i H x H' w hw z y G2 ρ σ I sg=>?_⟩
 have hi:i<min xs.length ys.length:=by
  rw [<- hl]; exact (List.getElem?_eq_some_iff.mp hw).1
 obtain ⟨p,y1,z1,rfl,hp,rfl,hy,hz⟩:=Rn.yld i H x H' hi z y
 obtain ⟨w1,e1,q1⟩:=Reps.get' r1 hy
 obtain ⟨w2,e2,q2⟩:=Reps.get' r2 hz
 have hw':w=.tup [w1,w2]:=by
  rw [List.getElem?_map,List.getElem?_zipWith,e1,e2] at hw
  cases hw; rfl
 subst hw'
 obtain ⟨x1,x2⟩:=rep_new (Hs:=H) he I hp (.cons (q1.same (fz_same sg)) (.cons (q2.same (fz_same sg)) .nil))
 exact ⟨_,x1,x2⟩
theorem itok_zip3 {e:Mode} {Z:Hp} {t u v:Bool} {a b c:Addr} {xs ys zs:List V} {us vs ts:List W} (he:e=.V\/e=.U) (s1:Sq K Z t a xs) (s2:Sq K Z u b ys) (s3:Sq K Z v c zs) (r1:Reps K (fz e H0 G) xs us) (r2:Reps K (fz e H0 G) ys vs) (r3:Reps K (fz e H0 G) zs ts) :
  ItOk K e H0 Z G (ItZ K [(t,a),(u,b),(v,c)]) (((us.zip vs).zipWith (fun p z=>[p.1,p.2,z]) ts).map W.tup):=by
 have Rn:=runs_zip3 s1 s2 s3
 have l1:=r1.length
 have l2:=r2.length
 have l3:=r3.length
 have hl:(((us.zip vs).zipWith (fun p z=>[p.1,p.2,z]) ts).map W.tup).length=min xs.length (min ys.length zs.length):=by simp [l1,l2,l3,Nat.min_assoc]
 refine ⟨fun i H hi z=>Rn.go i H (by omega) z,fun H z=>by rw [hl]; exact Rn.stop H z,fun i H x H' w hw z y G2 ρ σ I sg=>?_⟩
 have hi:i<min xs.length (min ys.length zs.length):=by
  rw [<- hl]; exact (List.getElem?_eq_some_iff.mp hw).1
 obtain ⟨p,y1,z1,t1,rfl,hp,rfl,hy,hz,ht⟩:=Rn.yld i H x H' hi z y
 obtain ⟨w1,e1,q1⟩:=Reps.get' r1 hy
 obtain ⟨w2,e2,q2⟩:=Reps.get' r2 hz
 obtain ⟨w3,e3,q3⟩:=Reps.get' r3 ht
 have hw':w=.tup [w1,w2,w3]:=by
  rw [List.getElem?_map,List.getElem?_zipWith,List.zip,List.getElem?_zipWith,e1,e2,e3] at hw
  cases hw; rfl
 subst hw'
 obtain ⟨x1,x2⟩:=rep_new (Hs:=H) he I hp (.cons (q1.same (fz_same sg)) (.cons (q2.same (fz_same sg)) (.cons (q3.same (fz_same sg)) .nil)))
 exact ⟨_,x1,x2⟩
theorem seqWs_cons {w:W} {ws:List W} {xs:List (List W)} (h:seqWs (w::ws)=.ok xs):∃ y ys,seqW w=.ok y/\seqWs ws=.ok ys/\xs=y::ys:=by
 unfold seqWs at h
 cases h1:seqW w with
 | stuck=>rw [h1] at h; cases h
 | ex _=>rw [h1] at h; cases h
 | ok y=>
  rw [h1] at h
  cases h2:seqWs ws with
  | stuck=>rw [h2] at h; cases h
  | ex _=>rw [h2] at h; cases h
  | ok ys=>rw [h2] at h; cases h; exact ⟨y,ys,rfl,rfl,rfl⟩
theorem c_zip {lp:Bool} {e:Mode} {ma:Rho->R (List W)} {Rr:It->Hp->Prop} (he:e=.V\/e=.U) (h:tIt K EX lp e (fun ρ=>ma ρ>>=zipR) σ H Rr):iZip K (tA K EX (srcM lp e) ma) σ H Rr:=by
 refine tIt_bind h (fun H0 G ρ G1 H1 xs ws us I e1 m1 q o=>?_) (fun ws e z=>?_)
 ·have I1:=I.ext e1
  unfold zipR at q
  split at q
  ·rename_i hn
   cases hs:seqWs ws with
   | stuck=>rw [hs] at q; cases q
   | ex _=>rw [hs] at q; cases q
   | ok ls=>
    rw [hs] at q
    cases q
    cases m1 with
    | nil=>simp at hn
    | cons a1 m1=>
     cases m1 with
     | nil=>simp at hn
     | cons a2 m1=>
      obtain ⟨y1,ys,h1,hs1,rfl⟩:=seqWs_cons hs
      obtain ⟨y2,ys,h2,hs2,rfl⟩:=seqWs_cons hs1
      obtain ⟨t1,p1,v1,rfl,q1,r1⟩:=Md.src he I1 a1 h1
      obtain ⟨t2,p2,v2,rfl,q2,r2⟩:=Md.src he I1 a2 h2
      have k1:=sq_same (lp_H I1) q1
      have k2:=sq_same (lp_H I1) q2
      cases m1 with
      | nil=>
       cases hs2
       refine ⟨[(t1,p1),(t2,p2)],rfl,.inl rfl,fun u hu=>?_,o _ G1 H1 e1 (itok_zip2 he q1 q2 r1 r2)⟩
       simp only [List.mem_cons,List.not_mem_nil,or_false] at hu
       rcases hu with rfl | rfl
       ·exact ⟨_,k1⟩
       ·exact ⟨_,k2⟩
      | cons a3 m1=>
       cases m1 with
       | cons _ _=>simp at hn
       | nil=>
        obtain ⟨y3,ys,h3,hs3,rfl⟩:=seqWs_cons hs2
        cases hs3
        obtain ⟨t3,p3,v3,rfl,q3,r3⟩:=Md.src he I1 a3 h3
        refine ⟨[(t1,p1),(t2,p2),(t3,p3)],rfl,.inr rfl,fun u hu=>?_,o _ G1 H1 e1 (itok_zip3 he q1 q2 q3 r1 r2 r3)⟩
        simp only [List.mem_cons,List.not_mem_nil,or_false] at hu
        rcases hu with rfl | rfl | rfl
        ·exact ⟨_,k1⟩
        ·exact ⟨_,k2⟩
        ·exact ⟨_,sq_same (lp_H I1) q3⟩
  ·cases q
 ·unfold zipR at z
  split at z
  ·split at z <;> cases z
  ·cases z
end
end TP
namespace TP
open PySem L2
section
variable {K:Frag} {EX:EXT} {H0 G H G1 H1 G2 H2:Hp} {ρ:Rho} {σ:St} {d:Mode} {D:Ends} {Q:VK}
theorem Reps.atI {F:Hp} {vs:List V} {ws:List W} {i:Int} {w:W} (r:Reps K F vs ws) (h:L2.atI ws i=some w):∃ v,L2.atI vs i=some v/\Rep K F v w:=by
 unfold L2.atI at h ⊢
 rw [r.length]
 cases q:ixN ws.length i with
 | none=>rw [q] at h; cases h
 | some j=>rw [q] at h; exact Reps.get r h
def fIx:W->W->R W
 | .lst ws,.int i=>toR (L2.atI ws i)
 | .tup ws,.int i=>toR (L2.atI ws i)
 | .scr ws,.int i=>toR (L2.atI ws i)
 | _,_=>.stuck
theorem o2_ixU:Op2 K .B .U (rIx K) fIx:=by
 intro EX H0 Hs G H ρ σ Ha Hb x y u v Q I s mx my o
 cases u <;> first | exact o.elim | skip
 all_goals (cases v <;> first | exact o.elim | skip)
 ·rename_i ws i
  obtain ⟨a,vs,rfl,hs,r⟩:=mx.tupB I
  replace o:Out EX G H (mdW K .U H0 Hs) (toR (L2.atI ws i)) Q:=o
  cases q:L2.atI ws i with
  | none=>rw [q] at o; exact o.elim
  | some w=>
   rw [q] at o
   obtain ⟨v,hv,rv⟩:=r.atI q
   exact .inr (.inl ⟨a,vs,i,v,rfl,my.intB,SqT.of hs,hv,o v G H (Ext.refl I.gh) rv⟩)
 ·rename_i ws i
  obtain ⟨a,vs,rfl,hs,r⟩:=mx.lstB I
  replace o:Out EX G H (mdW K .U H0 Hs) (toR (L2.atI ws i)) Q:=o
  cases q:L2.atI ws i with
  | none=>rw [q] at o; exact o.elim
  | some w=>
   rw [q] at o
   obtain ⟨v,hv,rv⟩:=r.atI q
   exact .inl ⟨a,vs,i,v,rfl,my.intB,SqL.of hs,hv,o v G H (Ext.refl I.gh) rv⟩
 ·rename_i ws i
  obtain ⟨a,vs,rfl,hs,r⟩:=mx.scrB I
  replace o:Out EX G H (mdW K .U H0 Hs) (toR (L2.atI ws i)) Q:=o
  cases q:L2.atI ws i with
  | none=>rw [q] at o; exact o.elim
  | some w=>
   rw [q] at o
   obtain ⟨v,hv,rv⟩:=r.atI q
   exact .inl ⟨a,vs,i,v,rfl,my.intB,hs,hv,o v G H (Ext.refl I.gh) rv⟩
theorem o2_ixV:Op2 K .C .V (rIx K) fIx:=by
 intro EX H0 Hs G H ρ σ Ha Hb x y u v Q I s mx my o
 cases u <;> first | exact o.elim | skip
 all_goals (cases v <;> first | exact o.elim | skip)
 ·rename_i ws i
  obtain ⟨a,vs,rfl,hs,r⟩:=mx.tupC I
  replace o:Out EX G H (mdW K .V H0 Hs) (toR (L2.atI ws i)) Q:=o
  cases q:L2.atI ws i with
  | none=>rw [q] at o; exact o.elim
  | some w=>
   rw [q] at o
   obtain ⟨v,hv,rv⟩:=r.atI q
   exact .inr (.inl ⟨a,vs,i,v,rfl,Md.intB (Md.CB I my),SqT.of hs,hv,o v G H (Ext.refl I.gh) rv⟩)
 ·rename_i ws i
  obtain ⟨a,vs,rfl,hs,r⟩:=mx.lstC I
  replace o:Out EX G H (mdW K .V H0 Hs) (toR (L2.atI ws i)) Q:=o
  cases q:L2.atI ws i with
  | none=>rw [q] at o; exact o.elim
  | some w=>
   rw [q] at o
   obtain ⟨v,hv,rv⟩:=r.atI q
   exact .inl ⟨a,vs,i,v,rfl,Md.intB (Md.CB I my),SqL.of hs,hv,o v G H (Ext.refl I.gh) rv⟩
 ·rename_i ws i
  obtain ⟨a,vs,rfl,hs,r⟩:=(Md.repC mx fun _=>W.noConfusion).inv
  replace o:Out EX G H (mdW K .V H0 Hs) (toR (L2.atI ws i)) Q:=o
  cases q:L2.atI ws i with
  | none=>rw [q] at o; exact o.elim
  | some w=>
    rw [q] at o
    obtain ⟨v,hv,rv⟩:=r.atI q
    exact .inl ⟨_,_,i,v,rfl,Md.intB (Md.CB I my),Same.seq I.gh hs,hv,o v G H (Ext.refl I.gh) rv⟩
def tOp_ (K:Frag) (EX:EXT) (m:Rho->R (Option Int)):TO:=fun σ H Q=>∃ H0 G ρ,PIv K H0 G ρ σ H/\Out EX G H (fun (b c:Option Int) _ _=>c=b) (m ρ) Q
def partW:W->R (Option Int)
 | .int i=>.ok (some i)
 | _=>.stuck
theorem c_noPart {Q:Option Int->Hp->Prop} (h:tOp_ K EX (fun _=>.ok none) σ H Q):tNoPart σ H Q:=by
 obtain ⟨H0,G,ρ,I,o⟩:=h
 exact o none G H (Ext.refl I.gh) rfl
theorem c_part {m:Rho->R W} {Q:Option Int->Hp->Prop} (h:tOp_ K EX (fun ρ=>m ρ>>=partW) σ H Q):tPart (tM K EX .B m) σ H Q:=by
 obtain ⟨H0,G,ρ,I,o⟩:=h
 refine ⟨H0,G,ρ,I,Out.bind o fun x G1 H1 u e1 m1 o1=>?_⟩
 cases u <;> first | exact o1.elim | skip
 rename_i i
 exact ⟨i,m1.intB,o1 _ G1 H1 (Ext.refl e1.gh) rfl⟩
def cutW (xs:List W) (lo hi:Option Int):List W:=(xs.drop (HT.sIx xs.length 0 lo)).take (HT.sIx xs.length xs.length hi-HT.sIx xs.length 0 lo)
theorem Reps.cut {F:Hp} {vs:List V} {ws:List W} (r:Reps K F vs ws) (lo hi:Option Int):Reps K F (cutV vs lo hi) (cutW ws lo hi):=by
 unfold cutV cutW
 rw [r.length]
 exact (r.drop _).take _
def lstOf:W->Option (List W)
 | .lst ws=>some ws
 | .scr ws=>some ws
 | _=>none
def chks (c:Bool) (ws:List W):R W:=if c||noLs ws then .ok (.lst ws) else .stuck
def cb (c:Bool):Mode:=if c then .C else .B
theorem Md.lstOf {c:Bool} {Ha:Hp} {x:V} {w:W} {ws:List W} (I:PIv K H0 G ρ σ H) (m:Md K H0 Ha G H x w (cb c)) (h:lstOf w=some ws):∃ a vs,x=.ref a/\SqL K H a vs/\Reps K (if c then G else join H0 G) vs ws:=by
 cases c with
 | true=>
  rw [if_pos rfl]
  cases w <;> first | cases h | skip
  ·obtain ⟨a,vs,e,hs,r⟩:=Md.lstC (H:=Ha) I m
   exact ⟨a,vs,e,SqL.of hs,r⟩
  ·obtain ⟨a,vs,e,hs,r⟩:=(Md.repC m fun _=>W.noConfusion).inv
   exact ⟨a,vs,e,Same.seq I.gh hs,r⟩
 | false=>
  rw [if_neg Bool.false_ne_true]
  cases w <;> first | cases h | skip
  ·obtain ⟨a,vs,e,hs,r⟩:=Md.lstB (H:=Ha) I m
   exact ⟨a,vs,e,SqL.of hs,r⟩
  ·exact Md.scrB (H:=Ha) I m
theorem Out.chks {c:Bool} {Hs:Hp} {vs:List V} {ws:List W} (I:PIv K H0 G ρ σ H) (s:Same Hs H) (r:Reps K (if c then G else join H0 G) vs ws) (o:Out EX G H (mdW K .F H0 Hs) (chks c ws) Q):∀ p,H p=none->Q (.ref p) (upd H p (.lst vs)):=by
 unfold TP.chks at o
 by_cases n:(c||noLs ws)=true
 ·rw [if_pos n] at o
  have r':Reps K G vs ws:=by
   cases c with
   | true=>rw [if_pos rfl] at r; exact r
   | false=>rw [if_neg Bool.false_ne_true] at r; exact Reps.clean I r (by simpa using n)
  exact fun p hp=>Out.newL I s r' hp o
 ·rw [if_neg n] at o; exact o.elim
theorem c_sl {c:Bool} {m:Rho->R W} {ml mh:Rho->R (Option Int)} (h:tM K EX .F (fun ρ=>m ρ>>=fun x=>ml ρ>>=fun l=>mh ρ>>=fun u=>toR (lstOf x)>>=fun ws=>chks c (cutW ws l u)) σ H Q) :
  tSl (rSlL K) (tM K EX (cb c) m) (tOp_ K EX ml) (tOp_ K EX mh) σ H Q:=by
 obtain ⟨H0,G,ρ,I,o⟩:=h
 refine ⟨H0,G,ρ,I,Out.bind o fun x G1 H1 w e1 m1 o1=>⟨H0,G1,ρ,I.ext e1,Out.bind o1 fun l' G2 H2 l e2 m2 o2=>⟨H0,G2,ρ,(I.ext e1).ext e2,Out.bind o2 fun u' G3 H3 u e3 m3 o3=>?_⟩⟩⟩
 subst m2; subst m3
 have I3:=((I.ext e1).ext e2).ext e3
 cases q:lstOf w with
 | none=>rw [q] at o3; exact o3.elim
 | some ws=>
  rw [q] at o3
  obtain ⟨a,vs,ex,hs,r⟩:=Md.lstOf I3 ((m1.move e2).move e3) q
  refine ⟨a,vs,ex,hs,Out.chks I3 ((e1.hh.trans e2.hh).trans e3.hh) (c:=c) ?_ o3⟩
  cases c with
  | true=>rw [if_pos rfl] at r ⊢; exact r.cut _ _
  | false=>rw [if_neg Bool.false_ne_true] at r ⊢; exact r.cut _ _
def Cal (K:Frag) (b d:Mode) (r:List V->Hp->VK->Prop) (f:List W->R W):Prop:=∀ (EX:EXT) (H0 Hs G H:Hp) (ρ:Rho) (σ:St) (Ha:Hp) (vs:List V) (ws:List W) (Q:VK),PIv K H0 G ρ σ H->Same Hs H->MdA K b H0 Ha G H ws vs ->
 Out EX G H (mdW K d H0 Hs) (f ws) Q->r vs H Q
theorem c_cb {b:Mode} {r:List V->Hp->VK->Prop} {f:List W->R W} {ma:Rho->R (List W)} (hr:Cal K b d r f) (h:tM K EX d (fun ρ=>ma ρ>>=fun ws=>f ws) σ H Q):tCB r (tA K EX b ma) σ H Q:=by
 obtain ⟨H0,G,ρ,I,o⟩:=h
 exact ⟨H0,G,ρ,I,Out.bind o fun xs G1 H1 ws e1 m1 o1=>hr EX H0 H G1 H1 ρ σ H xs ws Q (I.ext e1) e1.hh m1 o1⟩
def fLen:List W->R W
 | [w]=>seqW w>>=fun ws=>.ok (.int ws.length)
 | _=>.stuck
theorem b_len:Cal K .B d (fun xs H Q=>∃ p ys,xs = [.ref p]/\(SqL K H p ys\/SqT K H p ys)/\Q (.int ys.length) H) fLen:=by
 intro EX H0 Hs G H ρ σ Ha vs ws Q I s m o
 cases m with
 | nil=>exact o.elim
 | cons a t=>
  cases t with
  | cons _ _=>exact o.elim
  | nil=>
   rename_i w v
   cases w <;> first | exact o.elim | skip
   ·obtain ⟨p,ys,rfl,hs,r⟩:=a.tupB I
    exact ⟨p,ys,rfl,.inr (SqT.of hs),by rw [r.length]; exact o _ G H (Ext.refl I.gh) (Md.sca rfl (fun _=>.int) d)⟩
   ·obtain ⟨p,ys,rfl,hs,r⟩:=a.lstB I
    exact ⟨p,ys,rfl,.inl (SqL.of hs),by rw [r.length]; exact o _ G H (Ext.refl I.gh) (Md.sca rfl (fun _=>.int) d)⟩
   ·obtain ⟨p,ys,rfl,hs,r⟩:=a.scrB I
    exact ⟨p,ys,rfl,.inl hs,by rw [r.length]; exact o _ G H (Ext.refl I.gh) (Md.sca rfl (fun _=>.int) d)⟩
def fList (c:Bool):List W->R W
 | [w]=>seqW w>>=chks c
 | _=>.stuck
def chkT (c:Bool) (ws:List W):R W:=if c||noLs ws then .ok (.tup ws) else .stuck
def fTup (c:Bool):List W->R W
 | [w]=>seqW w>>=chkT c
 | _=>.stuck
theorem b_tup {c:Bool}:Cal K (cb c) .F (fun xs H Q=>∃ p ys,xs = [.ref p]/\((SqL K H p ys/\∀ l,H l=none->Q (.ref l) (upd H l (.tup ys)))\/(SqT K H p ys/\Q (.ref p) H))) (fTup c):=by
 intro EX H0 Hs G H ρ σ Ha vs ws Q I s m o
 have key:∀ {vs:List V} {us:List W},Reps K (if c then G else join H0 G) vs us->Out EX G H (mdW K .F H0 Hs) (chkT c us) Q->Reps K G vs us/\Out EX G H (mdW K .F H0 Hs) (.ok (.tup us)) Q:=fun {vs us} r o=>by
  unfold chkT at o
  by_cases n:(c||noLs us)=true
  ·rw [if_pos n] at o
   refine ⟨?_,o⟩
   cases c with
   | true=>rw [if_pos rfl] at r; exact r
   | false=>rw [if_neg Bool.false_ne_true] at r; exact Reps.clean I r (by simpa using n)
  ·rw [if_neg n] at o; exact o.elim
 cases m with
 | nil=>exact o.elim
 | cons a t=>
  cases t with
  | cons _ _=>exact o.elim
  | nil=>
   rename_i w v
   cases w <;> first | exact o.elim | skip
   ·rename_i us
    have hx:∃ p ys,v=.ref p/\(if c then G else join H0 G) p=some (.tup ys)/\Reps K (if c then G else join H0 G) ys us:=by
     cases c with
     | true=>rw [if_pos rfl]; exact (Md.repC a fun _=>W.noConfusion).inv
     | false=>rw [if_neg Bool.false_ne_true]; exact (Md.repB a fun _=>W.noConfusion).inv
    obtain ⟨p,ys,rfl,hp,r⟩:=hx
    obtain ⟨r',o'⟩:=key r o
    have hH:H p=some (.tup ys):=by
     cases c with
     | true=>rw [if_pos rfl] at hp; exact I.gh _ _ hp
     | false=>rw [if_neg Bool.false_ne_true] at hp; exact I.join_H _ _ hp
    have hG:G p=some (.tup ys):=by
     cases c with
     | true=>rw [if_pos rfl] at hp; exact hp
     | false=>
      rw [if_neg Bool.false_ne_true] at hp
      unfold join at hp
      cases q:H0 p with
      | none=>rw [q] at hp; exact hp
      | some u=>
       rw [q] at hp
       dsimp only at hp
       by_cases hl:isL u=true
       ·rw [if_pos hl] at hp; cases hp; cases hl
       ·rw [if_neg hl] at hp; exact hp
    exact ⟨p,ys,rfl,.inr ⟨SqT.of hH,o' _ G H (Ext.refl I.gh) (.tup hG r')⟩⟩
   ·obtain ⟨p,ys,rfl,hs,r⟩:=Md.lstOf I a rfl
    obtain ⟨r',o'⟩:=key r o
    exact ⟨p,ys,rfl,.inl ⟨hs,fun l hl=>Out.newTF I r' hl o'⟩⟩
   ·obtain ⟨p,ys,rfl,hs,r⟩:=Md.lstOf I a rfl
    obtain ⟨r',o'⟩:=key r o
    exact ⟨p,ys,rfl,.inl ⟨hs,fun l hl=>Out.newTF I r' hl o'⟩⟩
def f2 (g:Int->Int->Int):List W->R W
 | [.int i,.int j]=>.ok (.int (g i j))
 | _=>.stuck
theorem b_2 {g:Int->Int->Int}:Cal K .B d (fun xs H Q=>∃ i j,xs = [.int i,.int j]/\Q (.int (g i j)) H) (f2 g):=by
 intro EX H0 Hs G H ρ σ Ha vs ws Q I s m o
 unfold f2 at o
 split at o
 ·cases m with
  | cons a t=>
   cases t with
   | cons b t=>
    cases t
    exact ⟨_,_,by rw [a.intB,b.intB],o _ G H (Ext.refl I.gh) (Md.sca rfl (fun _=>.int) d)⟩
 ·exact o.elim
def tyW:W->Option String
 | .non=>some "NoneType"
 | .bl _=>some "bool"
 | .int _=>some "int"
 | .str _=>some "str"
 | .tup _=>some "tuple"
 | .lst _=>some "list"
 | _=>none
def fIsi:List W->R W
 | [x,.ty T]=>toR ((tyW x).bind fun A=>isiB A T)>>=fun b=>.ok (.bl b)
 | _=>.stuck
theorem tyW_of {Ha:Hp} {v:V} {w:W} {A:String} (I:PIv K H0 G ρ σ H) (m:Md K H0 Ha G H v w .B) (h:tyW w=some A):L2.tyB H v=some A:=by
 cases w <;> first | cases h | skip
 ·rw [m.nonB]; rfl
 ·rw [m.blB]; rfl
 ·rw [m.intB]; rfl
 ·rw [m.strB]; rfl
 ·obtain ⟨a,vs,rfl,hs,r⟩:=m.tupB I
  show L2.tyO (H a)=_
  rw [hs]; rfl
 ·obtain ⟨a,vs,rfl,hs,r⟩:=m.lstB I
  show L2.tyO (H a)=_
  rw [hs]; rfl
theorem b_isi:Cal K .B d rIsi fIsi:=by
 intro EX H0 Hs G H ρ σ Ha vs ws Q I s m o
 cases m with
 | nil=>exact o.elim
 | @cons x _ _ _ a t=>
  cases t with
  | nil=>exact o.elim
  | @cons y _ _ _ b t=>
   cases t with
   | cons _ _=>first | exact o.elim | (cases y <;> exact o.elim)
   | nil=>
    cases y <;> first | exact o.elim | skip
    rename_i T
    replace o:Out EX G H (mdW K d H0 Hs) (toR ((tyW x).bind fun A=>isiB A T)>>=fun b=>.ok (.bl b)) Q:=o
    cases q:tyW x with
    | none=>rw [q] at o; exact o.elim
    | some A=>
     rw [q] at o
     replace o:Out EX G H (mdW K d H0 Hs) (toR (isiB A T)>>=fun b=>.ok (.bl b)) Q:=o
     cases q2:isiB A T with
     | none=>rw [q2] at o; exact o.elim
     | some c=>
      rw [q2] at o
      exact ⟨_,T,by rw [b.tyB],A,tyW_of I a q,c,q2,o _ G H (Ext.refl I.gh) (Md.sca rfl (fun _=>.bl) d)⟩
def fCat (c:Bool):W->W->R W
 | .lst us,.lst vs=>if us.length+vs.length<=1000 then chks c (us++vs) else .stuck
 | _,_=>.stuck
theorem o2_cat {c:Bool}:Op2 K (cb c) .F rCat (fCat c):=by
 intro EX H0 Hs G H ρ σ Ha Hb x y u v Q I s mx my o
 cases u <;> first | exact o.elim | skip
 all_goals (cases v <;> first | exact o.elim | skip)
 rename_i us vs
 replace o:Out EX G H (mdW K .F H0 Hs) (if us.length+vs.length<=1000 then chks c (us++vs) else .stuck) Q:=o
 by_cases hn:us.length+vs.length<=1000
 ·rw [if_pos hn] at o
  have h1:∃ a ws,x=.ref a/\H a=some (.lst ws)/\Reps K (if c then G else join H0 G) ws us:=by
   cases c with
   | true=>exact Md.lstC (H:=Ha) I mx
   | false=>exact Md.lstB (H:=Ha) I mx
  have h2:∃ a ws,y=.ref a/\H a=some (.lst ws)/\Reps K (if c then G else join H0 G) ws vs:=by
   cases c with
   | true=>exact Md.lstC (H:=Hb) I my
   | false=>exact Md.lstB (H:=Hb) I my
  obtain ⟨a,xs,rfl,ha,ra⟩:=h1
  obtain ⟨b,ys,rfl,hb,rb⟩:=h2
  exact ⟨a,b,xs,ys,rfl,rfl,ha,hb,by rw [ra.length,rb.length]; exact le_line hn,Out.chks I s (ra.append rb) o⟩
 ·rw [if_neg hn] at o; exact o.elim
def fRep (c:Bool):W->W->R W
 | .lst us,.int k=>if us.length*k.toNat<=1000 /\ -1000<=k/\k<=1000 then chks c (List.replicate k.toNat us).flatten else .stuck
 | _,_=>.stuck
end
end TP
namespace TP
open PySem L2
def mC (w:W):Rho->R W:=fun _=>.ok w
def b1 (f:W->R W) (ma:Rho->R W):Rho->R W:=fun ρ=>ma ρ>>=fun x=>f x
def b2 (f:W->W->R W) (ma mb:Rho->R W):Rho->R W:=fun ρ=>ma ρ>>=fun x=>mb ρ>>=fun y=>f x y
def bA (f:List W->R W) (ma:Rho->R (List W)):Rho->R W:=fun ρ=>ma ρ>>=fun ws=>f ws
def bI (f:List W->R (List W)) (ma:Rho->R (List W)):Rho->R (List W):=fun ρ=>ma ρ>>=f
def bS (ma:Rho->R W):Rho->R (List W):=fun ρ=>ma ρ>>=seqW
def aN:Rho->R (List W):=fun _=>.ok []
def aC (ma:Rho->R W) (mr:Rho->R (List W)):Rho->R (List W):=fun ρ=>ma ρ>>=fun x=>mr ρ>>=fun xs=>.ok (x::xs)
def bChk (ma:Rho->R W):Rho->R W:=fun ρ=>ma ρ>>=chk
def bTest (ma:Rho->R W):Rho->R Bool:=fun ρ=>ma ρ>>=toB
def tAnd' (a b:Rho->R Bool):Rho->R Bool:=fun ρ=>rAnd (a ρ) (b ρ)
def tOr' (a b:Rho->R Bool):Rho->R Bool:=fun ρ=>rOr (a ρ) (b ρ)
def tNot' (a:Rho->R Bool):Rho->R Bool:=fun ρ=>rNot (a ρ)
def vAnd (a b:Rho->R W):Rho->R W:=fun ρ=>rAndV (a ρ) (b ρ)
def vOr (a b:Rho->R W):Rho->R W:=fun ρ=>rOrV (a ρ) (b ρ)
def vNot (a:Rho->R W):Rho->R W:=fun ρ=>rNotV (a ρ)
def vIf (c:Rho->R Bool) (a b:Rho->R W):Rho->R W:=fun ρ=>c ρ>>=fun t=>if t then a ρ else b ρ
def vChain (f f':W->W->R W) (ma mb mc:Rho->R W):Rho->R W:=fun ρ=>ma ρ>>=fun x=>mb ρ>>=fun y=>f x y>>=fun z=>toB z>>=fun c=>if c then mc ρ>>=fun u=>f' y u else .ok (.bl false)
def vTup (ma:Rho->R (List W)):Rho->R W:=fun ρ=>ma ρ>>=fun ws=>lim ws.length (.tup ws)
def vLst (ma:Rho->R (List W)):Rho->R W:=fun ρ=>ma ρ>>=fun ws=>lim ws.length (.lst ws)
def pN:Rho->R (Option Int):=fun _=>.ok none
def pS (m:Rho->R W):Rho->R (Option Int):=fun ρ=>m ρ>>=partW
def vSl (c:Bool) (m:Rho->R W) (ml mh:Rho->R (Option Int)):Rho->R W:=fun ρ=>m ρ>>=fun x=>ml ρ>>=fun l=>mh ρ>>=fun u=>toR (lstOf x)>>=fun ws=>chks c (cutW ws l u)
def vComp (n:Nat) (mi:Rho->R (List W)) (mg:W->Rho->Option Rho) (mc:Rho->R Bool) (me:Rho->R W):Rho->R W:=fun ρ=>mi ρ>>=fun ws=>mComp n mg mc me ws ρ
def yes:Rho->R Bool:=fun _=>.ok true
def sNx:Rho->R Fl:=fun ρ=>.ok (.nx ρ)
def sDrop (m:Rho->R W):Rho->R Fl:=fun ρ=>m ρ>>=fun _=>.ok (.nx ρ)
def sRet (m:Rho->R W):Rho->R Fl:=fun ρ=>m ρ>>=fun w=>.ok (.rt w)
def sRetN:Rho->R Fl:=fun _=>.ok (.rt .non)
def sV (i:Nat) (m:Rho->R W):Rho->R Fl:=fun ρ=>m ρ>>=fun w=>.ok (.nx (ρ.set i (.val w)))
def sU (i:Nat) (m:Rho->R W):Rho->R Fl:=fun ρ=>m ρ>>=fun w=>.ok (.nx (ρ.set i (.par w)))
def sF (i:Nat) (m:Rho->R W):Rho->R Fl:=fun ρ=>m ρ>>=fun w=>.ok (.nx (ρ.set i (slotF w)))
def sG (mg:W->Rho->Option Rho) (m:Rho->R W):Rho->R Fl:=fun ρ=>m ρ>>=fun w=>toR (mg w ρ)>>=fun ρ'=>.ok (.nx ρ')
def sFor (mi:Rho->R (List W)) (mg:W->Rho->Option Rho) (mb:Rho->R Fl):Rho->R Fl:=fun ρ=>mi ρ>>=fun ws=>mFor mg mb ws ρ
def sFrz (i:Nat) (m:Rho->R Fl):Rho->R Fl:=fun ρ=>m (frz i ρ)
def sBk:Rho->R Fl:=fun ρ=>.ok (.bk ρ)
def sCt:Rho->R Fl:=fun ρ=>.ok (.ct ρ)
section
variable {X:Cx} {e:Expr} {es:List Expr} {st:Stmt} {sts:List Stmt}
theorem _root_.L2.PE.mono {t t':TE} (h:PE X e t) (hm:∀ σ H Q,t' σ H Q->t σ H Q):PE X e t':=fun pins s σ H Q I q=>h pins s σ H Q I (hm σ H Q q)
theorem _root_.L2.PT.mono {t t':TT} (h:PT X e t) (hm:∀ σ H Q,t' σ H Q->t σ H Q):PT X e t':=fun pins s σ H Q I q=>h pins s σ H Q I (hm σ H Q q)
theorem _root_.L2.PW.mono {t t':TT} (h:PW X e t) (hm:∀ σ H Q,t' σ H Q->t σ H Q):PW X e t':=fun wh pins s σ H Q I q=>h wh pins s σ H Q I (hm σ H Q q)
theorem _root_.L2.PA.mono {t t':TA} (h:PA X es t) (hm:∀ σ H Q,t' σ H Q->t σ H Q):PA X es t':=fun pos pins s σ H Q I q=>h pos pins s σ H Q I (hm σ H Q q)
theorem _root_.L2.PS.mono {t t':TS} (h:PS X st t) (hm:∀ D σ H,t' D σ H->t D σ H):PS X st t':=fun pins s σ H D I q=>h pins s σ H D I (hm D σ H q)
theorem _root_.L2.PSs.mono {t t':TS} (h:PSs X sts t) (hm:∀ D σ H,t' D σ H->t D σ H):PSs X sts t':=fun pins s σ H D I q=>h pins s σ H D I (hm D σ H q)
theorem _root_.L2.PI.mono {tg:Expr} {t t':TI} (h:PI X tg e t) (hm:∀ σ H Q,t' σ H Q->t σ H Q):PI X tg e t':=fun pins s σ H Q I q=>h pins s σ H Q I (hm σ H Q q)
theorem _root_.L2.PO.mono {oe:Option Expr} {t t':TO} (h:PO X oe t) (hm:∀ σ H Q,t' σ H Q->t σ H Q):PO X oe t':=by
 intro pins s σ H Q I q
 exact h pins s σ H Q I (hm σ H Q q)
end
section
variable {X:Cx} {K:Frag} {EX:EXT} {d b:Mode} {a c e:Expr} {es rest:List Expr} {pos:Pos} {ma mb mc:Rho->R W} {ta tb:Rho->R Bool} {mr:Rho->R (List W)}
theorem q_FV (h:PE X e (tM K EX .F ma)):PE X e (tM K EX .V ma):=h.mono fun _ _ _ q=>mode_FV q
theorem q_VU (h:PE X e (tM K EX .V ma)):PE X e (tM K EX .U ma):=h.mono fun _ _ _ q=>mode_VU q
theorem q_VC (h:PE X e (tM K EX .V ma)):PE X e (tM K EX .C ma):=h.mono fun _ _ _ q=>mode_VC q
theorem q_FC (h:PE X e (tM K EX .F ma)):PE X e (tM K EX .C ma):=h.mono fun _ _ _ q=>mode_FC q
theorem q_UB (h:PE X e (tM K EX .U ma)):PE X e (tM K EX .B ma):=h.mono fun _ _ _ q=>mode_UB q
theorem q_CB (h:PE X e (tM K EX .C ma)):PE X e (tM K EX .B ma):=h.mono fun _ _ _ q=>mode_CB q
theorem q_chkF (h:PE X e (tM K EX .U ma)):PE X e (tM K EX .F (bChk ma)):=h.mono fun _ _ _ q=>mode_chk (.inl rfl) q
theorem qv (d:Mode) (i:Nat) {x:Str} (hN:X.N[i]?=some x:=by rfl) (hv:Vis X.env.scope x:=by first | exact Or.inl rfl | exact Or.inr (Or.inl rfl) | exact Or.inr (Or.inr rfl)) (hd:(x == ("__debug__" : Str))=false:=by decide)
  (hcd:(x == ("__classdict__" : Str))=false:=by decide):PE X (.Name x pos) (tM K EX d (mVar d i)):=(pe_var hN hv hd hcd).mono fun _ _ _ q=>c_var q
theorem q_int {i j}:PE X (.Constant (.int i) j pos) (tM K EX d (mC (.int i))):=pe_int.mono fun _ _ _ q=>c_const rfl (fun _=>.int) q
theorem q_bl {t j}:PE X (.Constant (.bool t) j pos) (tM K EX d (mC (.bl t))):=pe_bl.mono fun _ _ _ q=>c_const rfl (fun _=>.bl) q
theorem q_non {j}:PE X (.Constant .none j pos) (tM K EX d (mC .non)):=pe_non.mono fun _ _ _ q=>c_const rfl (fun _=>.non) q
theorem q_ty {x:Str} {n:String} (hg:Gl X x) (hm:X.mg x=none) (hv:bootBuiltins x=some (.type n)) (hn:x ≠ "__name__" := by decide) (hd:(x == ("__debug__" : Str))=false:=by decide):PE X (.Name x pos) (tM K EX d (mC (.ty n))):=
 (pe_bltn (v:=.ty n) hg hm hv rfl hn hd).mono fun _ _ _ q=>c_const rfl (fun _=>.ty) q
theorem q_op {op:Operator} {r:R2} {f:W->W->R W} (ho:OpR X (binaryOp op) r) (hr:Op2 K b d r f) (ha:PE X a (tM K EX b ma)) (hb:PE X c (tM K EX b mb)):PE X (.BinOp a op c pos) (tM K EX d (b2 f ma mb)):=
 (pe_op ho ha hb).mono fun _ _ _ q=>c_op hr q
theorem q_cmp {op:CmpOp} {r:R2} {f:W->W->R W} (ho:OpR X (compareOp op) r) (hr:Op2 K b d r f) (ha:PE X a (tM K EX b ma)) (hb:PE X c (tM K EX b mb)) (hm:behindInMarks op c=false:=by first | exact nomark _ | rfl):PE X (.Compare a [op] [c] pos) (tM K EX d (b2 f ma mb)):=
 (pe_cmpR ho ha hb hm).mono fun _ _ _ q=>c_op hr q
theorem q_tcmp {op:CmpOp} {r:R2} {f:W->W->R W} (ho:OpR X (compareOp op) r) (hr:Op2 K b .B r f) (ha:PE X a (tM K EX b ma)) (hb:PE X c (tM K EX b mb)) (hm:behindInMarks op c=false:=by first | exact nomark _ | rfl):PT X (.Compare a [op] [c] pos) (tT K EX (bTest (b2 f ma mb))):=
 (pt_cmpR ho ha hb hm).mono fun σ H Q q=>by
  obtain ⟨H0,G,ρ,I,o⟩:=q
  have:=c_test (ma:=b2 f ma mb) ⟨H0,G,ρ,I,o⟩
  exact c_op hr this
theorem q_un {op:UnaryOp} {r:V->Hp->VK->Prop} {f:W->R W} (ho:UnR X (unaryOp op) r) (hr:Op1 K b d r f) (ha:PE X a (tM K EX b ma)):PE X (.UnaryOp op a pos) (tM K EX d (b1 f ma)):=
 (pe_un ho ha).mono fun _ _ _ q=>c_un hr q
theorem q_val (ha:PE X a (tM K EX .B ma)) (he:∀ whole,isTrue a X.env whole=(do let v <- whole; standAt a.pos; holding [v] (truthy v)):=by intro _; rfl):PT X a (tT K EX (bTest ma)):=
 (pt_val ha he).mono fun _ _ _ q=>c_tB q
theorem q_tor1 (ha:PT X a (tT K EX ta)):PW X (.BoolOp .Or [a] pos) (tT K EX ta):=pw_or1 ha
theorem q_tor {b:Expr} (ha:PT X a (tT K EX ta)) (hb:PW X (.BoolOp .Or (b::rest) pos) (tT K EX tb)):PW X (.BoolOp .Or (a::b::rest) pos) (tT K EX (tOr' ta tb)):=(pw_or ha hb).mono fun _ _ _ q=>c_or q
theorem q_tnot (ha:PT X a (tT K EX ta)):PT X (.UnaryOp .Not a pos) (tT K EX (tNot' ta)):=(pt_not ha).mono fun _ _ _ q=>c_not q
theorem q_if {t:Expr} (ht:PT X t (tT K EX ta)) (ha:PE X a (tM K EX d ma)) (hb:PE X c (tM K EX d mb)):PE X (.IfExp t a c pos) (tM K EX d (vIf ta ma mb)):=(pe_ifExp ht ha hb).mono fun _ _ _ q=>c_if q
theorem q_anil:PA X [] (tA K EX d aN):=pa_nil.mono fun _ _ _ q=>c_nil q
theorem q_acons (ha:PE X e (tM K EX d ma)) (hr:PA X es (tA K EX d mr)) (hs:starEach (e::es) X.env=(false,eval e X.env)::starEach es X.env:=by rfl):PA X (e::es) (tA K EX d (aC ma mr)):=(pa_cons ha hr hs).mono fun _ _ _ q=>c_cons q
theorem q_tup {x1} (h:PA X es (tA K EX .V mr)):PE X (.Tuple es x1 pos) (tM K EX .F (vTup mr)):=(pe_tup h).mono fun _ _ _ q=>c_tup q
theorem q_tupU {x1} (h:PA X es (tA K EX .U mr)):PE X (.Tuple es x1 pos) (tM K EX .U (vTup mr)):=(pe_tup h).mono fun _ _ _ q=>c_tupU q
theorem q_lst (h:PA X es (tA K EX .V mr)):PE X (.List es pos) (tM K EX .F (vLst mr)):=(pe_lst h).mono fun _ _ _ q=>c_lst q
theorem q_ixU (ha:PE X a (tM K EX .B ma)) (hb:PE X c (tM K EX .B mb)) (hs:PlainIx c:=by exact fun _ _=>rfl) (hK:X.K=K:=by rfl):PE X (.Subscript a c pos) (tM K EX .U (b2 fIx ma mb)):=by
 subst hK; exact (pe_ix ix_seq ha hb hs).mono fun _ _ _ q=>c_op o2_ixU q
theorem q_ixV (ha:PE X a (tM K EX .C ma)) (hb:PE X c (tM K EX .C mb)) (hs:PlainIx c:=by exact fun _ _=>rfl) (hK:X.K=K:=by rfl):PE X (.Subscript a c pos) (tM K EX .V (b2 fIx ma mb)):=by
 subst hK; exact (pe_ix ix_seq ha hb hs).mono fun _ _ _ q=>c_op o2_ixV q
theorem q_pN:PO X none (tOp_ K EX pN):=po_none.mono fun _ _ _ q=>c_noPart q
theorem q_pS (h:PE X e (tM K EX .B ma)):PO X (some e) (tOp_ K EX (pS ma)):=(po_some h).mono fun _ _ _ q=>c_part q
theorem q_sl (k:Bool) {lo hi:Option Expr} {p2:Pos} {ml mh:Rho->R (Option Int)} (he:PE X e (tM K EX (cb k) ma)) (hl:PO X lo (tOp_ K EX ml)) (hu:PO X hi (tOp_ K EX mh)) (hK:X.K=K:=by rfl):PE X (.Subscript e (.Slice lo hi none p2) pos) (tM K EX .F (vSl k ma ml mh)):=by
 subst hK; exact (pe_slice sl_list he hl hu).mono fun _ _ _ q=>c_sl q
theorem q_cb {x:Str} {id:String} {r:List V->Hp->VK->Prop} {f:List W->R W} {p:Pos} (hc:CallR X (.builtin id) r) (hr:Cal K b d r f) (hg:Gl X x) (hm:X.mg x=none) (hv:bootBuiltins x=some (.builtin id)) (ha:PA X (e::es) (tA K EX b mr))
  (hn:x ≠ "__name__" := by decide) (hdb:(x == ("__debug__" : Str))=false:=by decide) (he:starEach (e::es) X.env=(false,eval e X.env)::starEach es X.env:=by rfl) (hpl:(backTo pos (starEach es X.env)).any (·.1)=false:=by rfl) :
  PE X (.Call (.Name x p) (e::es) [] pos) (tM K EX d (bA f mr)):=(pe_callB hc hg hm hv ha hn hdb he hpl).mono fun _ _ _ q=>c_cb hr q
theorem q_ct {x:Str} {T:String} {r:List V->Hp->VK->Prop} {f:List W->R W} {p:Pos} (hc:CallR X (.type T) r) (hr:Cal K b d r f) (hg:Gl X x) (hm:X.mg x=none) (hv:bootBuiltins x=some (.type T)) (ha:PA X (e::es) (tA K EX b mr))
  (hn:x ≠ "__name__" := by decide) (hdb:(x == ("__debug__" : Str))=false:=by decide) (he:starEach (e::es) X.env=(false,eval e X.env)::starEach es X.env:=by rfl) (hpl:(backTo pos (starEach es X.env)).any (·.1)=false:=by rfl) :
  PE X (.Call (.Name x p) (e::es) [] pos) (tM K EX d (bA f mr)):=(pe_callTy hc hg hm hv ha hn hdb he hpl).mono fun _ _ _ q=>c_cb hr q
theorem K_len (hK:X.K=K:=by rfl):CallR X (.builtin "len") (fun xs H Q=>∃ p ys,xs = [.ref p]/\(SqL K H p ys\/SqT K H p ys)/\Q (.int ys.length) H):=by subst hK; exact call_len_seq
theorem K_tup (hK:X.K=K:=by rfl):CallR X (.type "tuple") (fun xs H Q=>∃ p ys,xs = [.ref p]/\((SqL K H p ys/\∀ l,H l=none->Q (.ref l) (upd H l (.tup ys)))\/(SqT K H p ys/\Q (.ref p) H))):=by subst hK; exact call_tuple_of
theorem q_call {k:Nat} {f:Addr} {fd:FuncData} {ps:List Str} {x:Str} {p:Pos} {n N:Nat} {m:Rho->R Fl} (F:FnOk X.prog X.w X.K X.mg X.base CX0 k f fd ps (spM K n d (runB n N m))) (hd:d=.F\/d=.V) (hr:Room k X.A) (hg:Gl X x) (hm:X.mg x=some (.ref f)) (hk:PySem.W.keepIn X.K (.ref f)=true) (hb:Binds X.K fd ps [])
  (ha:PA X (e::es) (tA K (fun _ _=>False) .B mr)) (hdb:(x == ("__debug__" : Str))=false:=by decide) (he:starEach (e::es) X.env=(false,eval e X.env)::starEach es X.env:=by rfl) (hpl:(backTo pos (starEach es X.env)).any (·.1)=false:=by rfl) :
  PE X (.Call (.Name x p) (e::es) [] pos) (tM K (fun _ _=>False) d (bA (runB n N m) mr)):=
 (pe_call F hr hg hm hk hb .nil pass0 ha hdb he hpl).mono fun _ _ _ q=>c_call hd (fun ws h=>runB_len ws h) (fun _ _ z=>z) q
variable {tg:Expr} {lp:Bool}
theorem q_iSq (h:PE X e (tM K EX (srcM lp .U) ma)) (hK:X.K=K:=by rfl):PI X tg e (tIt K EX lp .U (bS ma)):=by subst hK; exact (pi_sq h).mono fun _ _ _ q=>c_iSq (.inr rfl) q
theorem q_rng1 {p:Pos} (hg:Gl X "range") (hm:X.mg "range" = none) (ha:PA X [a] (tA K EX .B mr)) (hs:starEach [a] X.env = [(false,eval a X.env)]:=by rfl):PI X tg (.Call (.Name "range" p) [a] [] pos) (tIt K EX lp .U (bI rng1 mr)):=
 (pi_range1 hg hm ha hs).mono fun _ _ _ q=>c_rng1 (.inr rfl) q
theorem q_rng2 {p:Pos} {b:Expr} (hg:Gl X "range") (hm:X.mg "range" = none) (ha:PA X [a,b] (tA K EX .B mr)) (hs:starEach [a,b] X.env = [(false,eval a X.env),(false,eval b X.env)]:=by rfl) (hs2:starEach [b] X.env = [(false,eval b X.env)]:=by rfl) :
  PI X tg (.Call (.Name "range" p) [a,b] [] pos) (tIt K EX lp .U (bI rng2 mr)):=(pi_range2 hg hm ha hs hs2).mono fun _ _ _ q=>c_rng2 (.inr rfl) q
theorem q_zip {elts:List Expr} {p tp:Pos} {k:Nat} (hg:Gl X "zip") (hm:X.mg "zip" = none) (ha:PA X (a::es) (tA K EX (srcM lp .U) mr)) (hK:X.K=K:=by rfl) (hs:starEach (a::es) X.env=(false,eval a X.env)::starEach es X.env:=by rfl) (hpl:(backTo pos (starEach es X.env)).any (·.1)=false:=by rfl) :
  PI X (.Tuple elts k tp) (.Call (.Name "zip" p) (a::es) [] pos) (tIt K EX lp .U (bI zipR mr)):=by subst hK; exact (pi_zip hg hm ha hs hpl).mono fun _ _ _ q=>c_zip (.inr rfl) q
end
section
variable {X:Cx} {K:Frag} {EX:EXT} {d b:Mode} {e:Expr} {st:Stmt} {sts:List Stmt} {pos:Pos} {ma mb:Rho->R W} {ta:Rho->R Bool} {m n:Rho->R Fl}
theorem q_comp {cs:Scope} {N':List Str} {tg iter elt:Expr} {ifs:List Expr} {dd:Mode} {g:TG} {mg:W->Rho->Option Rho} {mi:Rho->R (List W)} (S:CompScope X.env.scope cs X.N N') (hc:X.calm=true) (hi:PI X tg iter (tIt K EX false dd mi))
  (hg:∀ cl ex s H,PG (cxComp X cs cl N' ex s H) tg g) (hgt:Gt K dd g mg) (hk:GKeep X.N.length g) (ht:∀ cl ex s H,PIf (cxComp X cs cl N' ex s H) ifs (tT K EX ta)) (he:∀ cl ex s H,PE (cxComp X cs cl N' ex s H) elt (tM K EX .V ma))
  (hs:∀ x,foldedSetIterable iter X.env x=pure x:=by intro _; rfl):PE X (.ListComp elt [⟨tg,iter,ifs,0⟩] cs pos) (tM K EX .F (vComp N'.length mi mg ta ma)):=
 (pe_comp S hc hi hg hk ht he hs).mono fun _ _ _ q=>c_comp hgt q
theorem q_setc {i:Nat} {y:Str} {py:Pos} {cs:Scope} {N':List Str} {tg iter elt:Expr} {ifs:List Expr} {dd:Mode} {g:TG} {mg:W->Rho->Option Rho} {mi:Rho->R (List W)} {cpos:Pos} (S:CompScope X.env.scope cs X.N N') (hc:X.calm=true) (hi:PI X tg iter (tIt K EX false dd mi))
  (hg:∀ cl ex s H,PG (cxComp X cs cl N' ex s H) tg g) (hgt:Gt K dd g mg) (hk:GKeep X.N.length g) (ht:∀ cl ex s H,PIf (cxComp X cs cl N' ex s H) ifs (tT K EX ta)) (he:∀ cl ex s H,PE (cxComp X cs cl N' ex s H) elt (tM K EX .V ma))
  (hN:X.N.Nodup) (hy:X.N[i]?=some y) (hl:Loc X.env.scope y)
  (hsw:swapsWith (.ListComp elt [⟨tg,iter,ifs,0⟩] cs cpos) (some (.Name y py)) pos.line X.env=pure true:=by rfl) (hf:X.fn y=true\/X.env.scope.names.lookup y=some .local:=by first | exact .inl rfl | exact .inr rfl | assumption)
  (hs:∀ x,foldedSetIterable iter X.env x=pure x:=by intro _; rfl):PS X (.Assign [.Name y py] (.ListComp elt [⟨tg,iter,ifs,0⟩] cs cpos) pos) (tSt K EX d (sF i (vComp N'.length mi mg ta ma))):=
 (ps_setc S hc hi hg hk ht he hN hy hl hsw hf hs).mono fun D σ H q=>by
  have:=c_setF (m:=vComp N'.length mi mg ta ma) q
  exact c_comp hgt this
theorem q_pifN:PIf X [] (tT K EX yes):=fun pins s σ H Q I q=>pif_nil pins s σ H Q I (by obtain ⟨H0,G,ρ,I0,o⟩:=q; exact o true G H (Ext.refl I0.gh) rfl)
theorem q_pif1 {c:Expr} (h:PT X c (tT K EX ta)):PIf X [c] (tT K EX ta):=pif_one h
theorem q_nil:PSs X [] (tSt K EX d sNx):=pss_nil.mono fun _ _ _ q=>c_next q
theorem q_cons (h1:PS X st (tSt K EX d m)) (h2:PSs X sts (tSt K EX d n)):PSs X (st::sts) (tSt K EX d (mSeq m n)):=(pss_cons h1 h2).mono fun _ _ _ q=>c_seq q
theorem q_last (h1:PS X st (tSt K EX d m)):PSs X [st] (tSt K EX d m):=pss_one h1
theorem q_frz {i:Nat} (h:PS X st (tSt K EX d m)):PS X st (tSt K EX d (sFrz i m)):=h.mono fun _ _ _ q=>c_frz q
theorem q_ret (he:PE X e (tM K EX d ma)):PS X (.Return (some e) pos) (tSt K EX d (sRet ma)):=(ps_ret he).mono fun _ _ _ q=>c_ret q
theorem q_retv (i:Nat) {x:Str} {p:Pos} (hd:d=.F\/d=.V) (hN:X.N[i]?=some x:=by rfl) (hv:Vis X.env.scope x:=by first | exact Or.inl rfl | exact Or.inr (Or.inl rfl) | exact Or.inr (Or.inr rfl)) (hdd:(x == ("__debug__" : Str))=false:=by decide)
  (hcd:(x == ("__classdict__" : Str))=false:=by decide):PS X (.Return (some (.Name x p)) pos) (tSt K EX d (mRetVar d i)):=(ps_ret (pe_var hN hv hdd hcd)).mono fun _ _ _ q=>c_retVar hd q
theorem q_setV {i:Nat} {x:Str} {pos':Pos} (hN:X.N.Nodup) (hi:X.N[i]?=some x) (hx:Loc X.env.scope x) (he:PE X e (tM K EX .V ma)) (hs:swapsWith e (some (.Name x pos')) pos.line X.env=pure false:=by rfl) (hf:X.fn x=true\/X.env.scope.names.lookup x=some .local:=by first | exact .inl rfl | exact .inr rfl | assumption) :
  PS X (.Assign [.Name x pos'] e pos) (tSt K EX d (sV i ma)):=(ps_set hN hi hx he hs hf).mono fun _ _ _ q=>c_setV q
theorem q_setU {i:Nat} {x:Str} {pos':Pos} (hN:X.N.Nodup) (hi:X.N[i]?=some x) (hx:Loc X.env.scope x) (he:PE X e (tM K EX .U ma)) (hs:swapsWith e (some (.Name x pos')) pos.line X.env=pure false:=by rfl) (hf:X.fn x=true\/X.env.scope.names.lookup x=some .local:=by first | exact .inl rfl | exact .inr rfl | assumption) :
  PS X (.Assign [.Name x pos'] e pos) (tSt K EX d (sU i ma)):=(ps_set hN hi hx he hs hf).mono fun _ _ _ q=>c_setU q
theorem q_setF {i:Nat} {x:Str} {pos':Pos} (hN:X.N.Nodup) (hi:X.N[i]?=some x) (hx:Loc X.env.scope x) (he:PE X e (tM K EX .F ma)) (hs:swapsWith e (some (.Name x pos')) pos.line X.env=pure false:=by rfl) (hf:X.fn x=true\/X.env.scope.names.lookup x=some .local:=by first | exact .inl rfl | exact .inr rfl | assumption) :
  PS X (.Assign [.Name x pos'] e pos) (tSt K EX d (sF i ma)):=(ps_set hN hi hx he hs hf).mono fun _ _ _ q=>c_setF q
theorem q_app {i:Nat} {x:Str} {p apos cpos:Pos} (hN:X.N[i]?=some x) (hv:Vis X.env.scope x) (ha:PE X e (tM K EX .V ma)) (hd:(x == ("__debug__" : Str))=false:=by decide) (hcd:(x == ("__classdict__" : Str))=false:=by decide)
  (hbase:attributeBase (.Name x p) "append" X.env (eval (.Name x p) X.env)=eval (.Name x p) X.env:=by rfl)
  (hfew:((backTo cpos (starEach [e] X.env)).all (fun x=>!x.1)&&(backToKw cpos (keywordEach [] X.env)).all (fun x=>x.1.isSome)
   && decide (([e]:List Expr).length+([]:List Keyword).length+(if ([]:List Keyword).isEmpty then 0 else 1)<30))=true:=by rfl)
  (hline:(apos.endLine == cpos.line)=true:=by rfl) (hs:starEach [e] X.env=(false,eval e X.env)::starEach [] X.env:=by rfl) (hsw:swapsWith (.Call (.Attribute (.Name x p) "append" apos) [e] [] cpos) none pos.line X.env=pure false:=by rfl) :
  PS X (.Expr (.Call (.Attribute (.Name x p) "append" apos) [e] [] cpos) pos) (tSt K EX d (mApp i ma)):=(ps_expr (pe_append (pe_var hN hv hd hcd) ha hbase hfew hline hs) hsw).mono fun _ _ _ q=>c_app q
theorem q_if_ {c:Expr} {x y:List Stmt} (hc:PT X c (tT K EX ta)) (ha:PSs X x (tSt K EX d m)) (hb:PSs X y (tSt K EX d n)):PS X (.If c x y pos) (tSt K EX d (mIf ta m n)):=(ps_if hc ha hb).mono fun _ _ _ q=>c_ifS q
theorem q_while {c:Expr} {body:List Stmt} (hp:PassesOwn (model X.prog X.w) X.A X.env X.xe) (hc:PT X c (tT K EX ta)) (hb:PSs X body (tSt K EX d m)):PS X (.While c body [] pos) (tSt K EX d (mWhile ta m)):=(ps_while hp hc hb).mono fun _ _ _ q=>c_while q
theorem q_for {tg iter:Expr} {body:List Stmt} {dd:Mode} {g:TG} {mg:W->Rho->Option Rho} {mi:Rho->R (List W)} (hp:PassesOwn (model X.prog X.w) X.A X.env X.xe) (hc:X.calm=true) (hi:PI X tg iter (tIt K EX true dd mi)) (hg:PG X tg g) (hgt:Gt K dd g mg) (hb:PSs X body (tSt K EX d m))
  (hs:∀ x,foldedSetIterable iter X.env x=pure x:=by intro _; rfl):PS X (.For tg iter body [] pos) (tSt K EX d (sFor mi mg m)):=(ps_for hp hc hi hg hb hs).mono fun _ _ _ q=>c_for hgt q
theorem q_aug {i:Nat} {x:Str} {op:Operator} {f:Int->Int->Int} {pos':Pos} (hN:X.N.Nodup) (hi:X.N[i]?=some x) (hx:Loc X.env.scope x) (he:PE X e (tM K EX .B ma)) (ho:PIp X op (ipI f)) (hf:X.fn x=true\/X.env.scope.names.lookup x=some .local:=by first | exact .inl rfl | exact .inr rfl | assumption) :
  PS X (.AugAssign (.Name x pos') op e pos) (tSt K EX d (mAug i f ma)):=(ps_aug hN hi hx he ho hf).mono fun _ _ _ q=>c_aug q
theorem q_set {i:Nat} {x:Str} {k:Expr} {p p2:Pos} (hN:X.N[i]?=some x) (hv:Vis X.env.scope x) (hk:PE X k (tM K EX .B mb)) (he:PE X e (tM K EX .V ma)) (hd:(x == ("__debug__" : Str))=false:=by decide) (hcd:(x == ("__classdict__" : Str))=false:=by decide)
  (hg:PG X (.Subscript (.Name x p) k p2) (gSub (tVar i) (tM K EX .B mb) rSetL))
  (hs:swapsWithSole [.Subscript (.Name x p) k p2] e pos.line X.env=pure false:=by rfl) (hw:swappedStores [.Subscript (.Name x p) k p2] e X.env=pure none:=by rfl):PS X (.Assign [.Subscript (.Name x p) k p2] e pos) (tSt K EX d (mSet i mb ma)):=
 (ps_asg he hg hs hw).mono fun _ _ _ q=>c_set q
end
end TP
namespace TP
open PySem L2
abbrev gLt (i j:Int):W:=.bl (decide (i<j))
abbrev gLe (i j:Int):W:=.bl (decide (i<=j))
abbrev gGt (i j:Int):W:=.bl (decide (j<i))
abbrev gGe (i j:Int):W:=.bl (decide (j<=i))
abbrev gAdd (i j:Int):W:=.int (i+j)
abbrev gSub (i j:Int):W:=.int (i-j)
abbrev gMul (i j:Int):W:=.int (i*j)
abbrev gMod (i j:Int):W:=.int (i%j)
abbrev gDiv (i j:Int):W:=.int (i/j)
abbrev gPow (i j:Int):W:=.int (i^j.toNat)
abbrev gNeg (i:Int):W:=.int (-i)
abbrev gMax (i j:Int):Int:=if j>i then j else i
abbrev gMin (i j:Int):Int:=if j<i then j else i
abbrev gAdd_ (i j:Int):Int:=i+j
abbrev gSub_ (i j:Int):Int:=i-j
abbrev cMod (_ j:Int):Prop:=0<j
instance (i j:Int):Decidable (CMul i j):=by unfold CMul; infer_instance
instance (i j:Int):Decidable (CDiv i j):=by unfold CDiv; infer_instance
instance (i j:Int):Decidable (CPow i j):=by unfold CPow; infer_instance
instance (i j:Int):Decidable (CPowB i j):=by unfold CPowB; infer_instance
def vOf:W->Option V
 | .non=>some .non
 | .bl b=>some (.bl b)
 | .int i=>some (.int i)
 | .str x=>some (.str x)
 | _=>none
def eqSc (u v:W):Option Bool:=match vOf u,vOf v with
 | some x,some y=>if scal x y then some (decide (x=y)) else none
 | _,_=>none
def fEqS (neg:Bool) (u v:W):R W:=match eqSc u v with
 | some b=>.ok (.bl (if neg then !b else b))
 | none=>.stuck
section
variable {K:Frag} {H0 G H:Hp} {ρ:Rho} {σ:St} {d:Mode}
theorem vOf_B {Ha:Hp} {v:V} {w:W} {x:V} (h:Md K H0 Ha G H v w .B) (e:vOf w=some x):v=x:=by
 cases w <;> first | cases e | skip
 ·exact h.nonB
 ·exact h.blB
 ·exact h.intB
 ·exact h.strB
theorem o2_eqS:Op2 K .B d rEq (fEqS false):=by
 intro EX H0 Hs G H ρ σ Ha Hb x y u v Q I s mx my o
 unfold fEqS eqSc at o
 cases hu:vOf u with
 | none=>rw [hu] at o; exact o.elim
 | some p=>
  cases hv:vOf v with
  | none=>rw [hu,hv] at o; exact o.elim
  | some q=>
   rw [hu,hv] at o
   cases vOf_B mx hu
   cases vOf_B my hv
   dsimp only at o
   by_cases c:scal x y=true
   ·rw [if_pos c] at o
    exact ⟨c,o _ G H (Ext.refl I.gh) (Md.sca rfl (fun _=>.bl) d)⟩
   ·rw [if_neg c] at o; exact o.elim
theorem o2_neS:Op2 K .B d rNe (fEqS true):=by
 intro EX H0 Hs G H ρ σ Ha Hb x y u v Q I s mx my o
 unfold fEqS eqSc at o
 cases hu:vOf u with
 | none=>rw [hu] at o; exact o.elim
 | some p=>
  cases hv:vOf v with
  | none=>rw [hu,hv] at o; exact o.elim
  | some q=>
   rw [hu,hv] at o
   cases vOf_B mx hu
   cases vOf_B my hv
   dsimp only at o
   by_cases c:scal x y=true
   ·rw [if_pos c] at o
    exact ⟨c,o _ G H (Ext.refl I.gh) (Md.sca rfl (fun _=>.bl) d)⟩
   ·rw [if_neg c] at o; exact o.elim
end
end TP
namespace TP
open PySem L2
mutual
def pd:W->PyData
 | .non=>.none
 | .bl b=>.bool b
 | .int i=>.int i
 | .str x=>.str x
 | .ty _=>.none
 | .exc _ _=>.none
 | .cls _=>.none
 | .tup ws=>.tuple (pds ws)
 | .lst ws=>.list (pds ws)
 | .scr ws=>.list (pds ws)
def pds:List W->List PyData
 | []=>[]
 | w::ws=>pd w::pds ws
end
mutual
def shp:Nat->W->Bool
 | _,.non=>true
 | _,.bl _=>true
 | _,.int _=>true
 | _,.str x=>PyData.strOk x
 | n+1,.tup ws=>shps n ws
 | n+1,.lst ws=>shps n ws
 | n+1,.scr ws=>shps n ws
 | _,_=>false
def shps:Nat->List W->Bool
 | _,[]=>true
 | n,w::ws=>shp n w&&shps n ws
end
theorem shp_ok:∀ (w:W) (n:Nat),shp n w=true->(pd w).canLay0=true/\(pd w).depth<=n:=by
 intro w
 have tl:∀ (ws:List W) (c:List PyData->PyData),(∀ l,(c l).canLay0=PyData.canLayAll0 l)->(∀ l,(c l).depth=PyData.depthAll l+1)->(∀ n:Nat,shps n ws=true->PyData.canLayAll0 (pds ws)=true/\PyData.depthAll (pds ws)<=n)->∀ n:Nat,(match n with | 0=>false | n+1=>shps n ws)=true->(c (pds ws)).canLay0=true/\(c (pds ws)).depth<=n:=fun ws c h1 h2 ih n h=>by
  cases n with
  | zero=>cases h
  | succ n=>have:=ih n h; exact ⟨by rw [h1]; exact this.1,by rw [h2]; exact Nat.succ_le_succ this.2⟩
 have fl:∀ {n:Nat} {w:W} {P:Prop},shp n w=false->shp n w=true->P:=fun h1 h2=>by rw [h1] at h2; cases h2
 induction w using W.rec (motive_2:=fun ws=>∀ n:Nat,shps n ws=true->PyData.canLayAll0 (pds ws)=true/\PyData.depthAll (pds ws)<=n) with
 | non=>exact fun n _=>⟨rfl,Nat.zero_le _⟩
 | bl b=>exact fun n _=>⟨rfl,Nat.zero_le _⟩
 | int i=>exact fun n _=>⟨rfl,Nat.zero_le _⟩
 | str x=>exact fun n h=>⟨by cases n <;> exact h,Nat.zero_le _⟩
 | ty a=>exact fun n h=>fl (by cases n <;> rfl) h
 | exc a b=>exact fun n h=>fl (by cases n <;> rfl) h
 | cls a=>exact fun n h=>fl (by cases n <;> rfl) h
 | tup ws ih=>exact fun n h=>tl ws .tuple (fun _=>rfl) (fun _=>rfl) ih n (by cases n <;> exact h)
 | lst ws ih=>exact fun n h=>tl ws .list (fun _=>rfl) (fun _=>rfl) ih n (by cases n <;> exact h)
 | scr ws ih=>exact fun n h=>tl ws .list (fun _=>rfl) (fun _=>rfl) ih n (by cases n <;> exact h)
 | nil=>exact ⟨rfl,Nat.zero_le _⟩
 | cons w ws h1 h2=>
  rename_i n h
  have h':shp n w=true/\shps n ws=true:=(Bool.and_eq_true _ _).mp h
  have a:=h1 n h'.1
  have b:=h2 n h'.2
  exact ⟨by show (PyData.canLay0 _&&PyData.canLayAll0 _)=true; rw [a.1,b.1]; rfl,Nat.max_le.mpr ⟨a.2,b.2⟩⟩
section
variable {X:Cx} {pins:List (Addr×Obj)} {σ:St} {H:Hp} {s:Shared}
theorem Rep.reads (I:Inv X pins σ H s) {x:V} {w:W} {u:Value} (n:Nat) (r:Rep X.K H x w):shp n w=true->RelV x u->∃ as,Reads s.heap u (pd w) as:=by
 have fl:∀ {n:Nat} {w:W} {P:Prop},shp n w=false->shp n w=true->P:=fun h1 h2=>by rw [h1] at h2; cases h2
 induction r using Rep.rec (motive_2:=fun xs ws _=>∀ (us:List Value) (n:Nat),shps n ws=true->Vals xs us->∃ as,ReadsAll s.heap us (pds ws) as) generalizing u n with
 | non=>intro _ r; cases r; exact ⟨_,.none⟩
 | bl=>intro _ r; cases r; exact ⟨_,.bool _⟩
 | int=>intro _ r; obtain ⟨t,rfl⟩:=r; exact ⟨_,.int _ _⟩
 | str=>intro _ r; obtain ⟨t,rfl⟩:=r; exact ⟨_,.str _ _⟩
 | ty=>exact fun h _=>fl (by cases n <;> rfl) h
 | exc=>exact fun h _=>fl (by cases n <;> rfl) h
 | cls=>exact fun h _=>fl (by cases n <;> rfl) h
 | tup ha _ ih=>
  intro h r
  cases r
  cases n with
  | zero=>cases h
  | succ n=>
   obtain ⟨its,rv,⟨o,e,c,k,dd⟩,_⟩:=I.tuple (SqT.of ha)
   obtain ⟨as,q⟩:=ih _ n h rv
   exact ⟨_,.tuple e c dd (by simpa using q)⟩
 | lst ha _ ih=>
  intro h r
  cases r
  cases n with
  | zero=>cases h
  | succ n=>
   obtain ⟨its,rv,pl,_⟩:=I.list (SqL.of ha)
   obtain ⟨o,e,c,k,dd⟩:=pl.isList
   obtain ⟨as,q⟩:=ih _ n h rv
   exact ⟨_,.list e c dd (by simpa using q)⟩
 | scr ha _ ih=>
  intro h r
  cases r
  cases n with
  | zero=>cases h
  | succ n=>
   obtain ⟨its,rv,pl,_⟩:=I.list ha
   obtain ⟨o,e,c,k,dd⟩:=pl.isList
   obtain ⟨as,q⟩:=ih _ n h rv
   exact ⟨_,.list e c dd (by simpa using q)⟩
 | nil=>rename_i us n _ r; cases r; exact ⟨_,.nil⟩
 | cons _ _ h1 h2=>
  rename_i us n h r
  cases r with
  | cons r1 r2=>
   have h':=(Bool.and_eq_true _ _).mp h
   obtain ⟨as,q1⟩:=h1 n h'.1 r1
   obtain ⟨bs,q2⟩:=h2 _ n h'.2 r2
   exact ⟨_,.cons q1 q2⟩
def eqW (u v:W):Bool:=PyData.eqv (pd u) (pd v)
def rEqD (K:Frag) (neg:Bool):R2:=fun x y H Q=>∃ u v,Rep K H x u/\Rep K H y v/\shp 8 u=true/\shp 8 v=true/\Q (.bl (if neg then !eqW u v else eqW u v)) H
theorem shaped_of {w:W} (h:shp 8 w=true):SeqAt.shaped (pd w)=true:=by
 obtain ⟨a,b⟩:=shp_ok w 8 h
 unfold SeqAt.shaped
 rw [a,Bool.true_and]
 exact decide_eq_true (Nat.le_trans b (by decide))
theorem op_eqD (hu:X.A.units+64<cLine):OpR X (compareOp .Eq) (rEqD X.K false):=by
 intro pins s σ H x y v u Q I rx ry h
 obtain ⟨a,b,ra,rb,sa,sb,q⟩:=h
 obtain ⟨as,qa⟩:=Rep.reads I 8 ra sa rx
 obtain ⟨bs,qb⟩:=Rep.reads I 8 rb sb ry
 exact PyProof.Rows.eq_dataH qa qb (shaped_of sa) (shaped_of sb) hu ⟨.bl (eqW a b),H,I,rfl,q⟩
theorem op_neD (hu:X.A.units+64<cLine):OpR X (compareOp .NotEq) (rEqD X.K true):=by
 intro pins s σ H x y v u Q I rx ry h
 obtain ⟨a,b,ra,rb,sa,sb,q⟩:=h
 obtain ⟨as,qa⟩:=Rep.reads I 8 ra sa rx
 obtain ⟨bs,qb⟩:=Rep.reads I 8 rb sb ry
 exact PyProof.Rows.ne_dataH qa qb (shaped_of sa) (shaped_of sb) hu ⟨.bl (!eqW a b),H,I,rfl,q⟩
def fEq (neg:Bool) (u v:W):R W:=if shp 8 u&&shp 8 v then .ok (.bl (if neg then !eqW u v else eqW u v)) else .stuck
theorem o2_eqD {K:Frag} {d:Mode} {neg:Bool}:Op2 K .B d (rEqD K neg) (fEq neg):=by
 intro EX H0 Hs G H ρ σ Ha Hb x y u v Q I s mx my o
 unfold fEq at o
 by_cases c:(shp 8 u&&shp 8 v)=true
 ·rw [if_pos c] at o
  have c':shp 8 u=true/\shp 8 v=true:=by simpa using c
  exact ⟨u,v,mx.whole I,my.whole I,c'.1,c'.2,o _ G H (Ext.refl I.gh) (Md.sca rfl (fun _=>.bl) d)⟩
 ·rw [if_neg c] at o; exact o.elim
def isBW:W->Bool->Bool
 | .bl a,b=>a == b
 | _,_=>false
def fIsB (neg:Bool):W->W->R W
 | u,.bl b=>.ok (.bl (if neg then !isBW u b else isBW u b))
 | _,_=>.stuck
end
theorem hu64 {A:Around} {k:Nat} (hr:Room k A):A.units+64<cLine:=hr.units
end TP
namespace TP
open PySem L2
section
variable {X:Cx} {pins:List (Addr×Obj)} {σ:St} {H:Hp} {s:Shared}
theorem vals_one {x:V} {us:List Value} (r:Vals [x] us):∃ u,us = [u]/\RelV x u:=by
 cases r with
 | cons a t=>cases t; exact ⟨_,rfl,a⟩
theorem keep_push {h':Heap} {o:Obj} (hk:∀ b u,b ∉ [s.heap.objs.size]->(s.heap.push o).get? b=some u->h'.get? b=some u):∀ b u,s.heap.get? b=some u->h'.get? b=some u:=fun b u e=>
 hk b u (by simp; exact Nat.ne_of_lt (Heap.lt_size e)) (Heap.get?_push_of_some _ e)
theorem val_at {α:Type} {f:α->V} {g:α->Value->Prop} (hg:∀ a u,RelV (f a) u->g a u) {as:List α} {its:List Value} (r:Vals (as.map f) its) {i:Nat} {v:Value} (h:its.toArray[i]?=some v):∃ a,as[i]?=some a/\g a v:=by
 have h':its[i]?=some v:=by simpa using h
 induction as generalizing its i with
 | nil=>cases r; simp at h'
 | cons a as ih=>
  cases r with
  | cons q t=>
   cases i with
   | zero=>simp at h'; subst h'; exact ⟨a,rfl,hg _ _ q⟩
   | succ i=>simpa using ih t (i:=i) (by simpa using h') (by simpa using h')
theorem walk_list {p:Addr} {xs:List V} (I:Inv X pins σ H s) (hc:X.calm=true) (hp:H p=some (.lst xs)):∃ its:List Value,Vals xs its/\s.heap.IsList p its.toArray/\xs.length=its.toArray.size/\p≠s.heap.objs.size /\
  Walks X.prog X.w X.A.in1 s.heap.objs.size [s.heap.objs.size,p] [s.heap.objs.size] its.toArray.size (fun i v=>its.toArray[i]?=some v) (fun i h=>h.IsListIter s.heap.objs.size p i/\h.IsList p its.toArray):=by
 obtain ⟨its,rv,pl,hz⟩:=I.list (SqL.of hp)
 obtain ⟨o,e,_⟩:=pl.isList
 have hne:p≠s.heap.objs.size:=Nat.ne_of_lt (Heap.lt_size e)
 exact ⟨its,rv,pl.isList,by rw [List.size_toArray]; exact rv.length,hne,Walks.list (show X.A.in1.handled=none from I.ok.hd hc) _ p hne _⟩
theorem any_range {bs:List Bool}:(List.range bs.length).any (fun i=>bs.getD i false)=bs.any id:=by
 rw [Bool.eq_iff_iff,List.any_eq_true,List.any_eq_true]
 constructor
 ·rintro ⟨i,hi,h⟩
  have hi:i<bs.length:=by simpa using hi
  rw [List.getD_eq_getElem?_getD] at h
  exact ⟨bs[i],List.getElem_mem hi,by simpa [hi] using h⟩
 ·rintro ⟨x,hx,h⟩
  obtain ⟨i,hi,e⟩:=List.mem_iff_getElem.mp hx
  refine ⟨i,by simpa using hi,?_⟩
  rw [List.getD_eq_getElem?_getD]
  simpa [hi,e] using h
theorem truth_bl {A:Around} {bs:List Bool} {its:List Value} (rv:Vals (bs.map V.bl) its):TruthOf X.prog X.w A (fun i v=>its.toArray[i]?=some v) (fun i=>bs.getD i false):=fun i v s' Q' E hv hq=>by
 obtain ⟨b,hb,e⟩:=val_at (f:=V.bl) (g:=fun b u=>u=.bool b) (fun b u r=>r) rv hv
 subst e
 have:bs.getD i false=b:=by rw [List.getD_eq_getElem?_getD,hb]; rfl
 have hq':Q' (bs.getD i false) s':=hq
 rw [this] at hq'
 exact wpAny_truthy_bool hq'
theorem call_anyL (hc:X.calm=true):CallR X (.builtin "any") (fun xs H Q=>∃ (p:Addr) (bs:List Bool),xs = [.ref p]/\H p=some (.lst (bs.map V.bl))/\Q (.bl (bs.any id)) H):=by
 intro pins s σ H xs us Q I r h
 obtain ⟨p,bs,rfl,hp,q⟩:=h
 obtain ⟨u,rfl,rx⟩:=vals_one r
 cases rx
 obtain ⟨its,rv,hl,hlen,hne,Wk⟩:=walk_list I hc hp
 rw [List.length_map] at hlen
 refine call_any_walk (wpAny_pyIter_list hl ⟨_,_,_,_,_,_,_,rfl,Wk,⟨⟨_,Heap.get?_push_size _ rfl,rfl,rfl⟩,hl.push _⟩,truth_bl rv,fun h' tk hk=>?_⟩)
 rw [<- hlen,any_range]
 exact ⟨.bl (bs.any id),H,I.kept (t':=tk) (keep_push hk),rfl,q⟩
def blsW:List W->Option (List Bool)
 | []=>some []
 | .bl b::ws=>(blsW ws).map (b::·)
 | _=>none
theorem bls_map (bs:List Bool):blsW (bs.map W.bl)=some bs:=by
 induction bs with
 | nil=>rfl
 | cons b bs ih=>rw [List.map_cons,blsW,ih]; rfl
theorem Reps.bls {K:Frag} {F:Hp} {vs:List V} {ws:List W} {bs:List Bool} (r:Reps K F vs ws):blsW ws=some bs->vs=bs.map V.bl:=
 Reps.ind (P:=fun vs ws=>∀ bs,blsW ws=some bs->vs=bs.map V.bl) (fun bs h=>by cases h; rfl) (fun {v w vs ws} r _ ih bs h=>by
  cases w <;> first | cases h | skip
  rename_i b
  have e:v=.bl b:=r.inv
  subst e
  have h':(blsW ws).map (b::·)=some bs:=h
  cases q:blsW ws with
  | none=>rw [q] at h'; cases h'
  | some cs=>rw [q] at h'; cases h'; rw [ih cs q]; rfl) r bs
def fBools (g:List Bool->Bool):List W->R W
 | [.lst ws]=>toR (blsW ws)>>=fun bs=>.ok (.bl (g bs))
 | _=>.stuck
theorem b_bools {K:Frag} {d:Mode} {g:List Bool->Bool}:Cal K .B d (fun xs H Q=>∃ (p:Addr) (bs:List Bool),xs = [.ref p]/\H p=some (.lst (bs.map V.bl))/\Q (.bl (g bs)) H) (fBools g):=by
 intro EX H0 Hs G H ρ σ Ha vs ws Q I s m o
 cases m with
 | nil=>exact o.elim
 | @cons w v ws2 vs2 a t=>
  cases t with
  | cons _ _=>first | exact o.elim | (cases w <;> exact o.elim)
  | nil=>
   cases w <;> first | exact o.elim | skip
   rename_i ws
   obtain ⟨p,ys,rfl,hs,r⟩:=a.lstB I
   replace o:Out EX G H (mdW K d H0 Hs) (toR (blsW ws)>>=fun bs=>.ok (.bl (g bs))) Q:=o
   cases q:blsW ws with
   | none=>rw [q] at o; exact o.elim
   | some bs=>
    rw [q] at o
    rw [Reps.bls r q] at hs
    exact ⟨p,bs,rfl,hs,o _ G H (Ext.refl I.gh) (Md.sca rfl (fun _=>.bl) d)⟩
def gAny (bs:List Bool):Bool:=bs.any id
end
theorem bt_any:bootBuiltins "any" = some (.builtin "any"):=by decide +kernel
theorem bt_sum:bootBuiltins "sum" = some (.builtin "sum"):=by decide +kernel
theorem bt_abs:bootBuiltins "abs" = some (.builtin "abs"):=by decide +kernel
section
variable {X:Cx} {K:Frag} {d:Mode}
theorem call_sumL (hc:X.calm=true):CallR X (.builtin "sum") (fun xs H Q=>∃ (p:Addr) (ns:List Int),xs = [.ref p]/\H p=some (.lst (ns.map V.int))/\Q (.int ns.sum) H):=by
 intro pins s σ H xs us Q I r h
 obtain ⟨p,ns,rfl,hp,q⟩:=h
 obtain ⟨u,rfl,rx⟩:=vals_one r
 cases rx
 obtain ⟨its,rv,hl,hlen,hne,Wk⟩:=walk_list I hc hp
 rw [List.length_map] at hlen
 have pre:∀ (ms:List Int) (k:Nat),k<=ms.length->preSum (fun i=>ms.getD i 0) k=(ms.take k).sum:=by
  intro ms k
  induction k with
  | zero=>intro _; simp [preSum]
  | succ k ih=>
   intro hk
   rw [preSum,ih (by omega),List.take_succ_eq_append_getElem (by omega:k<ms.length),List.sum_append]
   have hk':k<ms.length:=by omega
   simp [List.getD_eq_getElem?_getD,hk']
 refine call_sum_walkAnyS (wpAny_pyIter_list hl ⟨_,_,_,_,_,_,_,(fun i=>ns.getD i 0),rfl,Wk.toS,⟨⟨_,Heap.get?_push_size _ rfl,rfl,rfl⟩,hl.push _⟩,fun b hb=>?_,fun i v hv=>?_,fun s' t' mv=>?_⟩)
 ·obtain ⟨o,e,_⟩:=id hl
  have hlt:=Heap.lt_size e
  simp at hb
  rcases hb with rfl | rfl
  ·simp [Heap.push]
  ·exact Nat.lt_of_lt_of_le hlt (by simp [Heap.push])
 ·obtain ⟨n,hn,t,e⟩:=val_at (f:=V.int) (g:=fun n u=>∃ t,u=.int n t) (fun b u r=>r) rv hv
  refine ⟨t,?_⟩
  show v=Value.int (ns.getD i 0) t
  rw [e,List.getD_eq_getElem?_getD,hn]; rfl
 ·rw [<- hlen,pre ns ns.length (Nat.le_refl _),List.take_length]
  obtain ⟨hh,g,dd,tk,os⟩:=s'
  obtain rfl:g=s.gens:=mv.gens
  obtain rfl:dd=s.drawn:=mv.drawn
  obtain rfl:os=s.os:=mv.os
  exact ⟨.int ns.sum,H,I.kept (t':=tk) (keep_push mv.heap),⟨t',rfl⟩,q⟩
def intsW:List W->Option (List Int)
 | []=>some []
 | .int b::ws=>(intsW ws).map (b::·)
 | _=>none
theorem ints_map (bs:List Int):intsW (bs.map W.int)=some bs:=by
 induction bs with
 | nil=>rfl
 | cons b bs ih=>rw [List.map_cons,intsW,ih]; rfl
theorem Reps.ints {F:Hp} {vs:List V} {ws:List W} {bs:List Int} (r:Reps K F vs ws):intsW ws=some bs->vs=bs.map V.int:=
 Reps.ind (P:=fun vs ws=>∀ bs,intsW ws=some bs->vs=bs.map V.int) (fun bs h=>by cases h; rfl) (fun {v w vs ws} r _ ih bs h=>by
  cases w <;> first | cases h | skip
  rename_i b
  have e:v=.int b:=r.inv
  subst e
  have h':(intsW ws).map (b::·)=some bs:=h
  cases q:intsW ws with
  | none=>rw [q] at h'; cases h'
  | some cs=>rw [q] at h'; cases h'; rw [ih cs q]; rfl) r bs
def fInts (g:List Int->Int):List W->R W
 | [.lst ws]=>toR (intsW ws)>>=fun bs=>.ok (.int (g bs))
 | _=>.stuck
theorem b_ints {g:List Int->Int}:Cal K .B d (fun xs H Q=>∃ (p:Addr) (ns:List Int),xs = [.ref p]/\H p=some (.lst (ns.map V.int))/\Q (.int (g ns)) H) (fInts g):=by
 intro EX H0 Hs G H ρ σ Ha vs ws Q I s m o
 cases m with
 | nil=>exact o.elim
 | @cons w v ws2 vs2 a t=>
  cases t with
  | cons _ _=>first | exact o.elim | (cases w <;> exact o.elim)
  | nil=>
   cases w <;> first | exact o.elim | skip
   rename_i ws
   obtain ⟨p,ys,rfl,hs,r⟩:=a.lstB I
   replace o:Out EX G H (mdW K d H0 Hs) (toR (intsW ws)>>=fun bs=>.ok (.int (g bs))) Q:=o
   cases q:intsW ws with
   | none=>rw [q] at o; exact o.elim
   | some bs=>
    rw [q] at o
    rw [Reps.ints r q] at hs
    exact ⟨p,bs,rfl,hs,o _ G H (Ext.refl I.gh) (Md.sca rfl (fun _=>.int) d)⟩
def gSum (ns:List Int):Int:=ns.sum
def fAbs:List W->R W
 | [.int i]=>.ok (.int (if i<0 then -i else i))
 | _=>.stuck
theorem b_abs:Cal K .B d (fun xs H Q=>∃ i,xs = [.int i]/\Q (.int (if i<0 then -i else i)) H) fAbs:=by
 intro EX H0 Hs G H ρ σ Ha vs ws Q I s m o
 unfold fAbs at o
 split at o
 ·cases m with
  | cons a t=>
   cases t
   exact ⟨_,by rw [a.intB],o _ G H (Ext.refl I.gh) (Md.sca rfl (fun _=>.int) d)⟩
 ·exact o.elim
def fInt:List W->R W
 | [.int i]=>.ok (.int i)
 | [.bl k]=>.ok (.int (if k then 1 else 0))
 | _=>.stuck
theorem b_int:Cal K .B d (fun xs H Q=>(∃ i,xs = [.int i]/\Q (.int i) H)\/∃ k:Bool,xs = [.bl k]/\Q (.int (if k then 1 else 0)) H) fInt:=by
 intro EX H0 Hs G H ρ σ Ha vs ws Q I s m o
 cases m with
 | nil=>exact o.elim
 | @cons w v ws2 vs2 a t=>
  cases t with
  | cons _ _=>first | exact o.elim | (cases w <;> exact o.elim)
  | nil=>
   cases w <;> first | exact o.elim | skip
   ·exact .inr ⟨_,by rw [a.blB],o _ G H (Ext.refl I.gh) (Md.sca rfl (fun _=>.int) d)⟩
   ·exact .inl ⟨_,by rw [a.intB],o _ G H (Ext.refl I.gh) (Md.sca rfl (fun _=>.int) d)⟩
def fStr:List W->R W
 | [.int i]=>if i.natAbs.log2<1920 then .ok (.str (toString i)) else .stuck
 | _=>.stuck
end
end TP
namespace TP
open PySem L2
def mExt (i:Nat) (c:Bool) (m:Rho->R W):Rho->R Fl:=fun ρ=>match ρ[i]? with
 | some (.own ws)=>m ρ>>=fun w=>(match w with
  | .lst us=>if ws.length+us.length<=1000 then (if c||noLs us then .ok (.nx (ρ.set i (.own (ws++us)))) else .stuck) else .stuck
  | _=>.stuck)
 | _=>.stuck
def mRev (i:Nat):Rho->R Fl:=fun ρ=>match ρ[i]? with
 | some (.own ws)=>.ok (.nx (ρ.set i (.own ws.reverse)))
 | _=>.stuck
section
variable {K:Frag} {EX:EXT} {H0 G H:Hp} {ρ:Rho} {σ:St} {d:Mode} {D:Ends}
end
section
variable {X:Cx} {K:Frag} {EX:EXT} {d:Mode} {e:Expr} {pos:Pos} {ma:Rho->R W}
end
section
variable {X:Cx} {K:Frag} {EX:EXT} {a e tg:Expr} {es:List Expr} {pos:Pos} {ma:Rho->R W} {mr:Rho->R (List W)}
theorem q_iSqB (h:PE X e (tM K EX .B ma)) (hK:X.K=K:=by rfl):PI X tg e (tIt K EX false .U (bS ma)):=q_iSq (lp:=false) h hK
theorem q_iSqU (h:PE X e (tM K EX .U ma)) (hK:X.K=K:=by rfl):PI X tg e (tIt K EX true .U (bS ma)):=q_iSq (lp:=true) h hK
theorem q_zipB {elts:List Expr} {p tp:Pos} {k:Nat} (hg:Gl X "zip") (hm:X.mg "zip" = none) (ha:PA X (a::es) (tA K EX .B mr)) (hK:X.K=K:=by rfl) (hs:starEach (a::es) X.env=(false,eval a X.env)::starEach es X.env:=by rfl) (hpl:(backTo pos (starEach es X.env)).any (·.1)=false:=by rfl) :
  PI X (.Tuple elts k tp) (.Call (.Name "zip" p) (a::es) [] pos) (tIt K EX false .U (bI zipR mr)):=q_zip (lp:=false) hg hm ha hK hs hpl
end
end TP
namespace TP
open PySem L2
section
variable {K:Frag} {EX:EXT} {H0 G H G1 H1:Hp} {ρ:Rho} {σ:St} {d:Mode} {D:Ends}
def isOwn:Sl->Bool
 | .own _=>true
 | .dic _=>true
 | .dik _=>true
 | _=>false
def noOwn (ρ:Rho):Bool:=ρ.all fun s=>!isOwn s
def sCU (i:Nat) (f:List W->R W) (ma:Rho->R (List W)):Rho->R Fl:=fun ρ=>if noOwn ρ then (ma ρ>>=fun ws=>f ws>>=fun w=>.ok (.nx (ρ.set i (.par w)))) else .stuck
end
section
variable {X:Cx} {K:Frag} {d:Mode} {e:Expr} {es:List Expr} {pos:Pos} {mr:Rho->R (List W)}
end
end TP
namespace TP
open PySem L2
section
variable {X:Cx} {tg:Expr}
end
def revW:List W->R (List W)
 | [.lst ws]=>.ok ws.reverse
 | _=>.stuck
section
variable {K:Frag} {EX:EXT} {H0 G H:Hp} {ρ:Rho} {σ:St}
end
section
variable {X:Cx} {K:Frag} {EX:EXT} {a tg:Expr} {pos:Pos} {mr:Rho->R (List W)}
end
end TP
namespace TP
open PySem L2
section
variable {X:Cx} {pins:List (Addr×Obj)} {σ:St} {H:Hp} {s:Shared}
end
def seqI:W->Option (List Int)
 | .lst ws=>intsW ws
 | .tup ws=>intsW ws
 | _=>none
def fBest (g:List Int->Int):List W->R W
 | [w]=>toR (seqI w)>>=fun ns=>if 0<ns.length then .ok (.int (g ns)) else .stuck
 | _=>.stuck
end TP
namespace HT
open PySem PySem.Spec PyProof.Rows
end HT
namespace TP
open PySem L2 PySem.Spec PyProof.Rows
variable {X:Cx} {K:Frag}
end TP
namespace TP
open PySem PySem.W PyProof.Rows
section
variable (r:Nat->Int)
def ky (p:Array Nat) (k:Nat):Int:=r (p.getD k 0)
def up (p:Array Nat) (n:Nat):Prop:=∀ k,k+1<n->ky r p k<=ky r p (k+1)
end
end TP
namespace TP
open PySem L2
section
variable {prog:Program} {w:World} {A:Around} {E:Value->Shared->Prop} {s:Shared}
theorem sub_draws (hh:A.handled=none) (u:Sub) (hne:u.l≠u.i) (its:Array Value) :
  Draws prog w A u.i [u.i,u.l] its.size (fun i v=>its[i]?=some v) (fun i h=>u.At h i/\u.Src h its) where
 live:=fun _ _ st=>by obtain ⟨o,e,_⟩:=st.1.obj; exact ⟨o,e⟩
 frame:=fun _ _ _ st hk=>⟨st.1.keep fun o e=>hk u.i (by simp) o e,st.2.keep fun o e=>hk u.l (by simp) o e⟩
 item:=fun i s Q E hi st hQ=>Sub.item st.1 st.2 (x:=its[i]) (by simp [hi]) fun h' a sb=>hQ _ h' s.toks (by simp [hi]) ⟨a,st.2.keep fun o e=>sb.extBut _ _ hne e⟩ sb
 done:=fun s Q E st hE=>Sub.ends hh st.1 st.2 (by simp) hE
theorem meets_enumT (l:Addr) (its:Array Value) (m:Nat) (dct:Option Addr) (sl:Array (Option Value)) :
  Meets (Builtin.«enumerate.__new__» ⟨[.type "enumerate",.ref l],[]⟩) (fun _ R s=>s.heap.get? l=some { cls:=.type "tuple",dict:=dct,data:=.seq its m,slots:=sl } /\
   R (.ok (.ret (.ref (s.heap.push { cls:=.type "tuple_iterator",data:=.fields #[.ref l,.int 0 0] }).objs.size)))
    { s with heap:=(s.heap.push { cls:=.type "tuple_iterator",data:=.fields #[.ref l,.int 0 0] }).push { cls:=.type "enumerate",data:=.fields #[.none,.bool false,.ref s.heap.objs.size,rawInt 0,.none,.none] } }):=
 .of_wp fun prog w A R s hyp=>by
  obtain ⟨hp,g,d,tk,os⟩:=s; obtain ⟨hl,hyp⟩:=hyp
  have hsb:=sub_enumerate
  have hT:Heap.IsTuple (Shared.heap ⟨hp,g,d,tk,os⟩) l its:=⟨_,hl,rfl,m,rfl⟩
  wp_walk using AutoSeq1.wpAny_loadPart' hl
  refine wpAny_stack_any fun stk=>wpAny_pure ?_
  split
  ·rename_i cc _ _ _ _ _
   cases (cc == Value.type "enumerate") <;>
   ·wp_walk using AutoSeq1.wpAny_loadPart' hl,wpAny_pyIter_tuple hT
    exact ⟨_,rfl,hyp⟩
  ·wp_walk using AutoSeq1.wpAny_loadPart' hl,wpAny_pyIter_tuple hT
   exact ⟨_,rfl,hyp⟩
theorem call_enumT {l:Addr} {its:Array Value} {Q:Value->Shared->Prop} (hL:s.heap.IsTuple l its)
  (hyp:∀ h',IsEnum h' (s.heap.objs.size+1) s.heap.objs.size 0 .none->h'.IsTupleIter s.heap.objs.size l 0->(∀ b o,s.heap.get? b=some o->h'.get? b=some o)->Q (.ref (s.heap.objs.size+1)) { s with heap:=h' }) :
  wpAny (model prog w) A (call (.type "enumerate") [.ref l]) Q E s:=by
 obtain ⟨⟨c,dct,dt,sl⟩,hl,hc,m,hd⟩:=hL
 have hc':c=.type "tuple" := hc; have hd':dt=.seq its m:=hd; subst hc' hd'
 refine callType_new F.called_enumerate (by decide) (F.typeCall_enumerate_1 _) (F.newCall_enumerate_1 _) (fun obj=>F.args_object_init_2 obj _) F.entry_enumerate_new (meets_enumT l its m dct sl) ⟨hl,?_⟩
 generalize hP:s.heap.push { cls:=.type "tuple_iterator",data:=.fields #[.ref l,.int 0 0] }=P
 have hz:P.objs.size=s.heap.objs.size+1:=by rw [<- hP]; exact Heap.size_push ..
 have hi:P.get? s.heap.objs.size=some { cls:=.type "tuple_iterator",data:=.fields #[.ref l,.int 0 0] }:=by rw [<- hP]; exact Heap.get?_push_size _ rfl
 have hk:∀ b o,s.heap.get? b=some o->P.get? b=some o:=fun b o e=>by rw [<- hP]; exact Heap.get?_push_of_some _ e
 show _/\_
 have en:IsEnum (P.push { cls:=.type "enumerate",data:=.fields #[.none,.bool false,.ref s.heap.objs.size,rawInt 0,.none,.none] }) (s.heap.objs.size+1) s.heap.objs.size 0 .none:=by rw [<- hz]; exact Heap.get?_push_size _ rfl
 rw [hz]
 exact ⟨⟨_,en,rfl⟩,hyp _ en ⟨_,Heap.get?_push_of_some _ hi,rfl,rfl⟩ fun b o e=>Heap.get?_push_of_some _ (hk b o e)⟩
theorem call_enum {t:Bool} {l:Addr} {its:Array Value} {Q:Value->Shared->Prop} (hL:SrcAt s.heap (t,l,its))
  (hyp:∀ h',IsEnum h' (s.heap.objs.size+1) s.heap.objs.size 0 .none->(L2.Sub.mk t s.heap.objs.size l).At h' 0->(∀ b o,s.heap.get? b=some o->h'.get? b=some o)->Q (.ref (s.heap.objs.size+1)) { s with heap:=h' }) :
  wpAny (model prog w) A (call (.type "enumerate") [.ref l]) Q E s:=by
 unfold SrcAt at hL
 cases t with
 | true=>exact call_enumT hL fun h' a b c=>hyp h' a (by unfold Sub.At; exact b) c
 | false=>exact call_enumerate_list hL fun h' a b _ c=>hyp h' a (by unfold Sub.At; exact b) c
end
def ItE (K:Frag) (t:Bool) (a:Addr):It:=
  ⟨fun i H=>∃ xs x,Sq K H t a xs/\xs[i]?=some x,
   fun i H x H'=>∃ p y,x=.ref p/\H p=none/\H'=upd H p (.tup [.int (i:Int),y])/\∀ xs,Sq K H t a xs->xs[i]?=some y,
   fun i H=>∃ xs,Sq K H t a xs/\xs.length=i⟩
abbrev eTn (e:Addr) (u:Sub) (i:Nat) (h:Heap):Prop:=(∃ old,IsEnum h e u.i (i:Int) old)/\u.At h i
theorem turn_enum {P:Program} {w:World} {K:Frag} {elts:List Expr} {k:Nat} {tp:Pos} {e:Addr} {u:Sub} (hne:e≠u.i) :
  Turn P w K (.Tuple elts k tp) (ItE K u.t u.l) [e,u.i] e (eTn e u) where
 mem:=by simp
 obj:=fun i h st b hb=>by
  obtain ⟨⟨old,he⟩,ha⟩:=st
  simp only [List.mem_cons,List.not_mem_nil,or_false] at hb
  rcases hb with rfl | rfl
  ·exact ⟨_,he,fun v q=>by cases q⟩
  ·obtain ⟨o,q,d⟩:=ha.obj
   exact ⟨o,q,fun v z=>by rw [d] at z; cases z⟩
 keep:=fun i h h' st kp=>⟨st.1.imp fun old he=>kp e (by simp) _ he,st.2.keep fun o q=>kp u.i (by simp) o q⟩
 item:=by
  intro X hP hw hK hc i pins s σ H E I hf st hg
  subst hP hw hK
  obtain ⟨⟨old,he⟩,ha⟩:=st
  obtain ⟨xs,x,hq,hx⟩:=hg
  obtain ⟨its,rv,hsrc⟩:=Sq.src I hq
  obtain ⟨v,hv,rx⟩:=rv.get hx
  have fe:=hf e (by simp)
  have fi:=hf u.i (by simp)
  have hli:u.l≠u.i:=Sq.ne I hq fi
  have hle:u.l≠e:=Sq.ne I hq fe
  have hi:i<its.toArray.size:=by have:=(List.getElem?_eq_some_iff.mp hv).1; simpa using this
  refine wpAny_pyNext_enum_itemD (sub_draws (prog:=X.prog) (w:=X.w) (show X.A.in1.handled=none from I.ok.hd hc) u hli its.toArray) he ⟨ha,hsrc⟩ hi hne (by simp only [List.mem_cons,List.not_mem_nil,or_false,not_or]; exact ⟨hne,Ne.symm hle⟩) fun y h1 tk hy z1 s1 p1 z2 k1=>?_
  have ey:y=v:=by
   have e1:its[i]?=some y:=by simpa using hy
   rw [hv] at e1; cases e1; rfl
  subst ey
  refine ⟨_,rfl,wpAny_letOwnedTupleGo_enum z1 fun h2 e2 sb2=>?_⟩
  have hzl:e<s.heap.objs.size:=Heap.lt_size he
  have hil:u.i<s.heap.objs.size:=by obtain ⟨o,q,_⟩:=ha.obj; exact Heap.lt_size q
  have kp:∀ b o,b≠e->b≠u.i->s.heap.get? b=some o->h2.get? b=some o:=fun b o b1 b2 q=>sb2.extBut _ _ b1 (k1 b o b1 b2 q)
  have hfr:H s.heap.objs.size=none:=I.hok.fresh (Nat.le_refl _)
  have trk:∀ b c,H b=some c->b≠e/\b≠u.i:=fun b c q=>⟨fun z=>(by subst z; rw [fe.1] at q; cases q),fun z=>(by subst z; rw [fi.1] at q; cases q)⟩
  have hP2:h2.get? s.heap.objs.size=some { cls:=.type "tuple",data:=.seq #[.int i tk,y] }:=sb2.extBut _ _ (Nat.ne_of_gt hzl) p1
  have rel:Vals [.int (i:Int),x] [.int i tk,y]:=.cons ⟨tk,rfl⟩ (.cons rx .nil)
  refine ⟨.ref s.heap.objs.size,upd H s.heap.objs.size (.tup [.int (i:Int),x]),?_,rfl,⟨_,_,rfl,hfr,rfl,?_⟩,⟨⟨y,?_⟩,?_⟩,fun b hb=>?_⟩
  ·show Inv X pins σ _ { s with heap:=h2,toks:=tk+1 }
   refine I.step (g':=s.gens) (t':=tk+1) (d':=s.drawn) (ch:=[e,u.i]) (fun b hb=>?_) (fun b o _ _ hc q _=>kp b o ?_ ?_ q) (fun b o _ _ hc q _=>⟨o.slots,kp b o ?_ ?_ q⟩) (fun b o hc q n=>?_) (fun b o hc q=>⟨o,kp b o ?_ ?_ q⟩) (fun b ys q=>?_) (fun b o c q=>?_) (fun b ps q=>?_) (fun m hm=>?_) ?_ I.bare
   ·simp only [List.mem_cons,List.not_mem_nil,or_false] at hb
    rcases hb with rfl | rfl
    ·exact ⟨fe.2.2.2.1,fe.2.1,fe.2.2.2.2.1,fe.2.2.2.2.2⟩
    ·exact ⟨fi.2.2.2.1,fi.2.1,fi.2.2.2.2.1,fi.2.2.2.2.2⟩
   all_goals first
    | (intro z; exact hc (by simp [z]; done))
    | skip
   ·rw [upd_ne (Nat.ne_of_lt (Heap.lt_size q))]; exact n
   ·rw [upd_ne (ne_of_none q hfr)]; exact q
   ·rw [upd_ne (ne_of_none q hfr)]; exact q
   ·exact ⟨#[],by rw [upd_ne (ne_of_none q hfr),q]; simp⟩
   ·obtain ⟨o,es,ep,ho,r⟩:=hm
    exact ⟨o,es,ep,kp _ o (Ne.symm fe.2.1) (Ne.symm fi.2.1) ho,r⟩
   ·intro b c q
    by_cases hb:b=s.heap.objs.size
    ·subst hb
     rw [upd_same] at q; cases q
     exact ⟨(show 2<=sizeLine by decide),_,rel,⟨_,hP2,rfl,_,rfl⟩⟩
    ·rw [upd_ne hb] at q
     refine (I.hok b c q).stay (fun d v hcc z=>?_) (fun d z=>by rw [upd_ne (ne_of_none z hfr)]; exact z) fun d ys z=>by rw [upd_ne (ne_of_none z hfr)]; exact z
     rcases hcc with rfl | hcc
     ·exact kp _ v (trk _ _ q).1 (trk _ _ q).2 z
     ·exact kp _ v (trk _ _ hcc).1 (trk _ _ hcc).2 z
  ·intro ys hy2
   rw [Sq.inj I hy2 hq]; exact hx
  ·have:((i+1:Nat):Int)=(i:Int)+1:=by omega
   rw [this]; exact e2
  ·exact s1.1.keep fun o q=>sb2.extBut _ _ (Ne.symm hne) q
  ·have:b≠s.heap.objs.size:=by
    simp only [List.mem_cons,List.not_mem_nil,or_false] at hb
    rcases hb with rfl | rfl
    ·exact Nat.ne_of_lt hzl
    ·exact Nat.ne_of_lt hil
   rw [upd_ne this]
   exact (hf b hb).1
 done:=by
  intro X hP hw hK hc i pins s σ H E I hf st hg
  subst hP hw hK
  obtain ⟨⟨old,he⟩,ha⟩:=st
  obtain ⟨xs,hq,hn⟩:=hg
  obtain ⟨its,rv,hsrc⟩:=Sq.src I hq
  have fe:=hf e (by simp)
  have fi:=hf u.i (by simp)
  have hli:u.l≠u.i:=Sq.ne I hq fi
  have hsz:its.toArray.size=i:=by have:=rv.length; simp; omega
  subst hsz
  refine wpAny_pyNext_enum_endD (sub_draws (prog:=X.prog) (w:=X.w) (show X.A.in1.handled=none from I.ok.hd hc) u hli its.toArray) he ⟨ha,hsrc⟩ fun h' eb=>⟨rfl,?_⟩
  obtain ⟨f0,f1,f2,f3,f4,f5⟩:=fi
  exact I.turned (t':=s.toks) (fun b o hb q=>eb b o hb q) f0 f1 f3 f4 f5
 self:=fun A i s Q E st h=>by
  obtain ⟨⟨old,he⟩,_⟩:=st
  exact wpAny_pyIter_enum he h
def iEnum (K:Frag) (ta:TA):TI:=fun σ H R=>ta σ H fun vs H1=>∃ t a xs,vs = [.ref a]/\Sq K H1 t a xs/\R (ItE K t a) H1
theorem bt_enumerate:bootBuiltins "enumerate" = some (.type "enumerate"):=by decide +kernel
section
variable {X:Cx}
theorem pi_enum {a:Expr} {elts:List Expr} {ta:TA} {p pos tp:Pos} {k:Nat} (hg:Gl X "enumerate") (hm:X.mg "enumerate" = none) (ha:PA X [a] ta) (hs:starEach [a] X.env = [(false,eval a X.env)]:=by rfl):PI X (.Tuple elts k tp) (.Call (.Name "enumerate" p) [a] [] pos) (iEnum X.K ta):=by
 intro pins s σ H R I h
 refine wpAny_Call_Name_kw (ld_blt I hg hm bt_enumerate ?_ (by decide) (by decide))
 refine PyProof.Rows.callWith_type1 (thn (ha pos pins s σ H _ I h) fun us s1 zz71=>?_) hs (by rfl)
 obtain ⟨vs,H1,I1,r1,t,b,xs,e1,hq,q⟩:=zz71
 subst e1
 obtain ⟨u,rfl,ru⟩:=vals_one r1
 cases ru
 obtain ⟨its,rv,hsrc⟩:=Sq.src I1 hq
 refine call_enum (t:=t) (its:=its.toArray) (by unfold SrcAt; unfold Sub.Src at hsrc; exact hsrc) fun h' he hA hk=>wpAny_pyIter_enum he ?_
 have I2:Inv X pins σ H1 { s1 with heap:=h' }:=I1.kept (t':=s1.toks) hk
 have TE:=turn_enum (P:=X.prog) (w:=X.w) (K:=X.K) (elts:=elts) (k:=k) (tp:=tp) (e:=s1.heap.objs.size+1) (u:=⟨t,s1.heap.objs.size,b⟩) (neN (by show s1.heap.objs.size+1≠s1.heap.objs.size; omega))
 refine ⟨_,_,_,_,H1,rfl,I2,TE,⟨⟨_,he⟩,hA⟩,fun c hc=>?_,q⟩
 have hb':s1.heap.objs.size<=c:=by
  simp only [List.mem_cons,List.not_mem_nil,or_false] at hc
  rcases hc with rfl | rfl
  ·omega
  ·exact Nat.le_refl _
 exact I1.fpOk (H':=H1) hb' (I1.hok.fresh hb')
end
def enuW:List W->R (List W)
 | [w]=>match seqW w with
  | .ok xs=>.ok (xs.mapIdx fun i x=>W.tup [.int (i:Int),x])
  | _=>.stuck
 | _=>.stuck
section
variable {K:Frag} {EX:EXT} {H0 G H:Hp} {ρ:Rho} {σ:St}
theorem itok_enum {e:Mode} {Z:Hp} {t:Bool} {a:Addr} {xs:List V} {us:List W} (he:e=.V\/e=.U) (s1:Sq K Z t a xs) (r1:Reps K (fz e H0 G) xs us):ItOk K e H0 Z G (ItE K t a) (us.mapIdx fun i x=>W.tup [.int (i:Int),x]):=by
 have l1:=r1.length
 have hq:∀ H,Same Z H->Sq K H t a xs:=fun H z=>Sq.same z s1
 refine ⟨fun i H hi z=>?_,fun H z=>⟨xs,hq H z,by rw [List.length_mapIdx,l1]⟩,fun i H x H' w hw z y G2 ρ σ I sg=>?_⟩
 ·rw [List.length_mapIdx] at hi
  exact ⟨xs,xs[i]'(by omega),hq H z,by simp⟩
 ·obtain ⟨p,y1,rfl,hp,rfl,hy⟩:=y
  obtain ⟨w1,e1,q1⟩:=Reps.get' r1 (hy xs (hq H z))
  have hw':w=.tup [.int (i:Int),w1]:=by
   rw [List.getElem?_mapIdx,e1] at hw
   cases hw; rfl
  subst hw'
  obtain ⟨x1,x2⟩:=rep_new (Hs:=H) he I hp (.cons .int (.cons (q1.same (fz_same sg)) .nil))
  exact ⟨_,x1,x2⟩
theorem c_enum {lp:Bool} {e:Mode} {ma:Rho->R (List W)} {Rr:It->Hp->Prop} (he:e=.V\/e=.U) (h:tIt K EX lp e (fun ρ=>ma ρ>>=enuW) σ H Rr):iEnum K (tA K EX (srcM lp e) ma) σ H Rr:=by
 refine tIt_bind h (fun H0 G ρ G1 H1 xs ws us I e1 m1 q o=>?_) (fun ws e z=>?_)
 ·have I1:=I.ext e1
  unfold enuW at q
  split at q
  ·rename_i w
   cases hw:seqW w with
   | stuck=>rw [hw] at q; cases q
   | ex _=>rw [hw] at q; cases q
   | ok ls=>
    rw [hw] at q
    cases q
    cases m1 with
    | cons a1 m1=>
     cases m1
     obtain ⟨t1,p1,v1,rfl,q1,r1⟩:=Md.src he I1 a1 hw
     exact ⟨t1,p1,v1,rfl,sq_same (lp_H I1) q1,o _ G1 H1 e1 (itok_enum he q1 r1)⟩
  ·cases q
 ·unfold enuW at z
  split at z
  ·split at z <;> cases z
  ·cases z
end
section
variable {X:Cx} {K:Frag} {EX:EXT} {a:Expr} {pos:Pos} {mr:Rho->R (List W)}
theorem q_enuB {elts:List Expr} {p tp:Pos} {k:Nat} (hg:Gl X "enumerate") (hm:X.mg "enumerate" = none) (ha:PA X [a] (tA K EX .B mr)) (hK:X.K=K:=by rfl) (hs:starEach [a] X.env = [(false,eval a X.env)]:=by rfl):PI X (.Tuple elts k tp) (.Call (.Name "enumerate" p) [a] [] pos) (tIt K EX false .U (bI enuW mr)):=by
 subst hK; exact (pi_enum hg hm ha hs).mono fun _ _ _ q=>c_enum (lp:=false) (.inr rfl) q
end
section
variable {X:Cx}
end
end TP
namespace TP
open PySem L2
def lexLt:List Int->List Int->Bool
 | [],[]=>false
 | [],_::_=>true
 | _::_,[]=>false
 | a::as,b::bs=>if a=b then lexLt as bs else decide (a<b)
def rankL (ss:List (List Int)) (i:Nat):Int:=((ss.countP fun x=>lexLt x (ss.getD i [])):Nat)
def allLt (n:Nat) (p:Array Nat):Prop:=∀ x∈p,x<n
section
open PySem.W PyProof.Rows
variable {n:Nat} (h0:0<n)
include h0
end
section
open PySem.W PyProof.Rows
variable {prog:Program} {w:World} {A:Around} {E:Value->Shared->Prop} {s:Shared}
end
section
open PySem.W PyProof.Rows
variable {prog:Program} {w:World} {A:Around} {E:Value->Shared->Prop} {s:Shared}
end
section
variable {X:Cx} {K:Frag}
end
section
variable {K:Frag}
end
end TP
namespace TP
open PySem L2
set_option maxHeartbeats 2000000
theorem tup_add0 (l b:Addr) (its2:Array Value) (m m2:Nat) (dd dd2:Option Addr) (sl sl2:Array (Option Value)) :
  Meets (Builtin.«tuple.__add__» ⟨[.ref l,.ref b],[]⟩) (fun _ R s=>s.heap.get? l=some { cls:=.type "tuple",dict:=dd,data:=.seq #[] m,slots:=sl }/\s.heap.get? b=some { cls:=.type "tuple",dict:=dd2,data:=.seq its2 m2,slots:=sl2 }/\R (.ok (.ret (.ref b))) s):=
 .of_wp fun prog w A R s hyp=>by
  obtain ⟨hp,g,d,tk,os⟩:=s; obtain ⟨hl,hb,hyp⟩:=hyp; have g1:=AutoSeq1.sub_tuple_tuple
  wp_walk using AutoSeq1.wpAny_loadPart' hl,AutoSeq1.wpAny_loadPart' hb
  exact ⟨_,rfl,hyp⟩
section
variable {X:Cx} {K:Frag}
def rCat3 (K:Frag):R2:=fun x y H Q=>rCatT K x y H Q\/∃ a b ys,x=.ref a/\y=.ref b/\SqT K H a []/\SqT K H b ys/\Q (.ref b) H
theorem op_cat3 (hK:X.K=K:=by rfl):OpR X (binaryOp .Add) (rCat3 K):=by
 subst hK
 intro pins s σ H x y v u Q I rx ry h
 rcases h with h | ⟨a,b,ys,rfl,rfl,ha,hb,q⟩
 ·exact op_catT pins s σ H x y v u Q I rx ry h
 ·cases rx
  cases ry
  obtain ⟨its,r1,⟨⟨c1,d1,t1,sl1⟩,o1,hc1,n1,hd1⟩,_⟩:=I.tuple ha
  obtain ⟨its2,r2,⟨⟨c2,d2,t2,sl2⟩,o2,hc2,n2,hd2⟩,_⟩:=I.tuple hb
  cases r1
  simp only at hc1 hd1 hc2 hd2
  subst hc1 hd1 hc2 hd2
  exact concat_meets ⟨_,o1,rfl⟩ ⟨_,o2,rfl⟩ noFill_tuple_add seq_tuple_add PySem.F.slot_tuple_add PySem.F.entry_tuple_add (PySem.F.args_tuple_add_2 _ _) (tup_add0 a b its2.toArray n1 n2 d1 d2 sl1 sl2) ⟨o1,o2,.ref b,H,I,rfl,q⟩
end
def fCatT:W->W->R W
 | .tup us,.tup vs=>if us.length+vs.length<=1000/\noLs us=true/\noLs vs=true then .ok (.tup (us++vs)) else .stuck
 | _,_=>.stuck
section
variable {K:Frag}
theorem o2_catT:Op2 K .B .F (rCat3 K) fCatT:=by
 intro EX H0 Hs G H ρ σ Ha Hb x y u v Q I s mx my o
 cases u <;> first | exact o.elim | skip
 all_goals (cases v <;> first | exact o.elim | skip)
 rename_i us vs
 replace o:Out EX G H (mdW K .F H0 Hs) (if us.length+vs.length<=1000/\noLs us=true/\noLs vs=true then .ok (.tup (us++vs)) else .stuck) Q:=o
 by_cases hn:us.length+vs.length<=1000/\noLs us=true/\noLs vs=true
 ·rw [if_pos hn] at o
  obtain ⟨hz,n1,n2⟩:=hn
  rcases mx with mx | ⟨_,_,_,_,e2,_⟩
  ·rcases my with my | ⟨_,_,_,_,e2,_⟩
   ·have cx:=Rep.clean I mx (by simpa [noL] using n1)
    have cy:=Rep.clean I my (by simpa [noL] using n2)
    cases cx with
    | tup ha ra=>
     cases cy with
     | tup hb rb=>
      have l1:=ra.length
      have l2:=rb.length
      by_cases he:us = []
      ·subst he
       cases ra
       exact .inr ⟨_,_,_,rfl,rfl,SqT.of (I.gh _ _ ha),SqT.of (I.gh _ _ hb),o _ G H (Ext.refl I.gh) (.tup hb rb)⟩
      ·refine .inl ⟨_,_,_,_,rfl,rfl,SqT.of (I.gh _ _ ha),SqT.of (I.gh _ _ hb),fun z=>?_,by rw [l1,l2]; exact le_line hz,fun z=>?_,fun _ p hp=>?_⟩
       ·subst z; cases ra; exact he rfl
       ·subst z
        cases rb
        rw [List.append_nil] at o
        exact o _ G H (Ext.refl I.gh) (.tup ha ra)
       ·exact Out.newTF I (ra.append rb) hp o
   ·cases e2
  ·cases e2
 ·rw [if_neg hn] at o; exact o.elim
end
end TP
namespace L2
open PySem PySem.Spec PyProof.Rows
section
variable {X:Cx} {pins:List (Addr×Obj)} {σ:St} {H:Hp} {s:Shared} {A:Around} {E:Value->Shared->Prop} {Q:Value->Shared->Prop} {b:Bool}
end
end L2
namespace TP
open PySem L2
section
variable {K:Frag} {d:Mode}
end
end TP
namespace HT
open PySem PyProof.Rows
section
variable {prog:Program} {w:World} {A:Around} {E:Value->Shared->Prop} {s:Shared}
theorem getItem_tuple_all {t sl:Addr} {items:Array Value} {vl vu:Value} {lo hi:Option Int} {Q:Value->Shared->Prop} (ht:IsTup s.heap t items) (hs:s.heap.IsSliceOf sl vl vu .none) (pl:IsPart vl lo) (pu:IsPart vu hi)
  (hw:sIx items.size 0 lo=0/\sIx items.size items.size hi=items.size)
  (h:Q (.ref t) s)
  (hsz:items.size<=sizeLine):wpAny (model prog w) A (getItem (.ref t) (.ref sl)) Q E s:=by
 have hj:sIx items.size items.size hi<=items.size:=sIx_le _ _ (Nat.le_refl _) hi
 obtain ⟨os,hos,hcs,hds⟩:=id hs
 have hTs:s.TypeIs (.ref sl) "slice" := ⟨os,hos,hcs⟩
 unfold getItem
 try with_reducible refine wpAny_holding ?_
 first | refine wpAny_bind (wpAny_pure ?_) | skip
 refine wpAny_bind (wpAny_sequenceKey ht.typeIs (by decide) ?_)
 refine wpAny_bind (wpAny_callSpecial?_slot (name:=Str.ofString "__getitem__") ht.typeIs PyProof.Rows.slot_tuple_getitem
  (wpAny_call_entry PyProof.Rows.slot_tuple_getitem ht.typeIs entry_tuple_getitem ?_ (args_tuple_getitem _ _)))
 show wpAny _ _ (Builtin.Tuple.tupleItemsOf (.ref t)>>=_) _ _ s
 refine wpAny_bind (tupleItemsOf_ ht ?_)
 refine wpAny_bind (wpAny_typeOf hTs ?_)
 rw [if_pos (by decide)]
 refine wpAny_bind (sliceApplied_gen hs pl pu ?_)
 have hyes:(((sIx items.size 0 lo:Nat):Int) == 0&&(1:Int) == 1&&(sIx items.size items.size hi-sIx items.size 0 lo) == items.size)=true:=by
  rw [hw.1,hw.2]; simp
 show wpAny _ _ (if (((sIx items.size 0 lo:Nat):Int) == 0&&(1:Int) == 1&&(sIx items.size items.size hi-sIx items.size 0 lo) == items.size)=true then _ else _) _ _ s
 rw [if_pos hyes]
 unfold Builtin.Tuple.tupleIsExact
 wp_walk using wpAny_typeOf ht.typeIs
 exact ⟨_,rfl,wpAny_pure h⟩
end
end HT
namespace TP
open PySem L2
section
variable {X:Cx}
def rSlA (K:Frag):V->Option Int->Option Int->Hp->VK->Prop:=fun x lo hi H Q=>∃ a xs,x=.ref a/\SqT K H a xs/\(HT.sIx xs.length 0 lo=0/\HT.sIx xs.length xs.length hi=xs.length)/\Q (.ref a) H
theorem sl_tupA:L2.SlR X (rSlA X.K):=by
 intro pins s σ H x v vl vu lo hi sl Q I rx hs pl pu h
 obtain ⟨a,xs,rfl,hx,hw,q⟩:=h
 cases rx
 obtain ⟨its,r,ht,hz⟩:=I.tuple hx
 have hlen:its.toArray.size=xs.length:=by rw [List.size_toArray]; exact r.length.symm
 refine ⟨"tuple",_,PyProof.Rows.slot_tuple_getitem.lookup,ht.typeIs,?_⟩
 exact HT.getItem_tuple_all ht hs pl pu (by rw [hlen]; exact hw) ⟨.ref a,H,I,rfl,q⟩ (by rw [hlen]; exact hz)
def rSlB (K:Frag):V->Option Int->Option Int->Hp->VK->Prop:=fun x lo hi H Q=>rSlT K x lo hi H Q\/rSlA K x lo hi H Q
theorem sl_tupB:L2.SlR X (rSlB X.K):=L2.SlR.or sl_tup sl_tupA
end
def Rst (x:R W) (l u:R (Option Int)):R W:=x>>=fun x=>l>>=fun l=>u>>=fun u=>(match x with
 | .tup ws=>if noLs ws=true then .ok (.tup (cutW ws l u)) else .stuck
 | _=>.stuck)
def vSlT (m:Rho->R W) (ml mh:Rho->R (Option Int)):Rho->R W:=fun ρ=>Rst (m ρ) (ml ρ) (mh ρ)
theorem cutW_all {ws:List W} {lo hi:Option Int} (h:HT.sIx ws.length 0 lo=0/\HT.sIx ws.length ws.length hi=ws.length):cutW ws lo hi=ws:=by
 unfold cutW
 rw [h.1,h.2,List.drop_zero,Nat.sub_zero,List.take_length]
section
variable {K:Frag} {EX:EXT} {H0 G H:Hp} {ρ:Rho} {σ:St} {Q:VK}
theorem c_slT {m:Rho->R W} {ml mh:Rho->R (Option Int)} (h:tM K EX .F (vSlT m ml mh) σ H Q):tSl (rSlB K) (tM K EX .B m) (tOp_ K EX ml) (tOp_ K EX mh) σ H Q:=by
 obtain ⟨H0,G,ρ,I,o⟩:=h
 unfold vSlT Rst at o
 refine ⟨H0,G,ρ,I,Out.bind o fun x G1 H1 w e1 m1 o1=>⟨H0,G1,ρ,I.ext e1,Out.bind o1 fun l' G2 H2 l e2 m2 o2=>⟨H0,G2,ρ,(I.ext e1).ext e2,Out.bind o2 fun u' G3 H3 u e3 m3 o3=>?_⟩⟩⟩
 subst m2; subst m3
 have I3:=((I.ext e1).ext e2).ext e3
 cases w <;> first | exact o3.elim | skip
 rename_i ws
 dsimp only at o3
 by_cases hn:noLs ws=true
 ·rw [if_pos hn] at o3
  have mx:=(m1.move e2).move e3
  rcases mx with mx | ⟨_,_,_,_,z,_⟩
  ·have cx:=Rep.clean I3 mx (by simpa [noL] using hn)
   cases cx with
   | tup ha ra=>
    rename_i a vs
    have l1:=ra.length
    by_cases hw:HT.sIx vs.length 0 l'=0/\HT.sIx vs.length vs.length u'=vs.length
    ·refine .inr ⟨a,vs,rfl,SqT.of (I3.gh _ _ ha),hw,?_⟩
     rw [cutW_all (by rw [<- l1]; exact hw)] at o3
     exact o3 _ G3 H3 (Ext.refl I3.gh) (.tup ha ra)
    ·exact .inl ⟨a,vs,rfl,SqT.of (I3.gh _ _ ha),hw,fun p hp=>Out.newTF I3 (ra.cut l' u') hp o3⟩
  ·cases z
 ·rw [if_neg hn] at o3; exact o3.elim
end
section
variable {X:Cx} {K:Frag} {EX:EXT} {e:Expr} {pos:Pos} {ma:Rho->R W}
theorem q_slT {lo hi:Option Expr} {p2:Pos} {ml mh:Rho->R (Option Int)} (he:PE X e (tM K EX .B ma)) (hl:PO X lo (tOp_ K EX ml)) (hu:PO X hi (tOp_ K EX mh)) (hK:X.K=K:=by rfl):PE X (.Subscript e (.Slice lo hi none p2) pos) (tM K EX .F (vSlT ma ml mh)):=by
 subst hK; exact (pe_slice sl_tupB he hl hu).mono fun _ _ _ q=>c_slT q
end
theorem vSlT_ap (m:Rho->R W) (ml mh:Rho->R (Option Int)) (ρ:Rho):vSlT m ml mh ρ=Rst (m ρ) (ml ρ) (mh ρ):=rfl
theorem Rst_ok {ws:List W} (h:noLs ws=true) (l u:Option Int):Rst (.ok (.tup ws)) (.ok l) (.ok u)=.ok (.tup (cutW ws l u)):=by
 show (if noLs ws=true then _ else _)=_
 rw [if_pos h]
end TP
namespace TP
open PySem L2
section
variable {K:Frag} {EX:EXT} {H0 G H G1 H1 F:Hp} {ρ:Rho} {σ:St} {d:Mode} {D:Ends}
end
section
variable {X:Cx} {K:Frag} {EX:EXT} {d:Mode} {e k v:Expr} {pos:Pos} {mk me:Rho->R W}
end
end TP
namespace TP
open PySem L2
set_option maxHeartbeats 2000000
section
variable {X:Cx} {K:Frag}
end
section
variable {K:Frag}
end
end TP
namespace TP
open PySem L2
section
variable {X:Cx} {K:Frag} {EX:EXT} {d:Mode} {p:Pos} {es:List Expr} {mr:Rho->R (List W)}
theorem q_aint {i j} (hr:PA X es (tA K EX d mr)):PA X (.Constant (.int i) j p::es) (tA K EX d (aC (mC (.int i)) mr)):=q_acons q_int hr (by rfl)
end
end TP
namespace TB
open PySem PySem.W
theorem bits_of {ns:List Int} (h:WData.layableAll [WData.list (ns.map WData.int)]=true):∀ x∈ns,Builtin.Int.intBits x<=1048576:=fun x hx=>by
 have h1:(WData.list (ns.map WData.int)).layable=true:=by simpa [WData.layableAll] using h
 have h2:(WData.list (ns.map WData.int)).weight<=2^20:=(layableW_iff.mp h1).2.2
 have key:∀ ms:List Int,x∈ms->Builtin.Int.intBits x<=WData.weightAll (ms.map WData.int):=by
  intro ms
  induction ms with
  | nil=>intro z; cases z
  | cons m ms ih=>
   intro z
   rw [List.map_cons]
   show _<=WData.weight (.int m)+1+WData.weightAll (ms.map WData.int)
   rcases List.mem_cons.mp z with e | e
   ·subst e
    have:WData.weight (.int x)=Builtin.Int.intBits x:=by rfl
    omega
   ·have:=ih e
    omega
 exact Nat.le_trans (key ns hx) (by simpa [WData.weight] using h2)
end TB
namespace Att
open PySem PySem.W PySem.Calls PyProof.Rows
theorem attach_callB {l:OpenLaw} {n:Nat} {q:Program} {loose:List Str} {XP:(Str->Option Value)->Heap->Prop} {YP:World->Heap->Prop} {d:DefRec}
  (hn:l.most=some n) (hdf:d.params.defaults = [])
  (call:∀ (w:World) (s₀ s₁:Shared) (mg mb:Str->Option Value) (fa:Addr) (o:Obj) (pm cd doc:Value) (a:Addr) (vs:List Value) (ns:List Int),
   Ground q loose [] XP w s₀ mg mb s₁.heap->YP w s₁.heap ->
   s₁.heap.get? fa=some o->o.data=.func (docDef d.name d.params d.body d.scope pm cd doc)->s₁.heap.CodeRec cd d.name->mg d.name=some (.ref fa) ->
   s₁.heap.get? a=some { cls:=.type "list",data:=.seq vs.toArray }->IntsAre vs ns->ns.length<=n->(∀ x∈ns,Builtin.Int.intBits x<=1048576)->s₁.gens=#[] ->
   codeAny (model l.prog w) callerA (.call (.ref fa) ⟨[.ref a],[]⟩) (fun r s'=>r=.ok (.ret (.bool true))/\OldK s₁.heap s'.heap/\s'.os=s₁.os/\AllBare s'.gens) s₁) :
  WalkO q loose XP YP l.row.toRowW d [] (fun f vs=>PySem.call f vs):=by
 intro w s₀ s₁ mg mb G Y fa o pm cd doc dV kV ho hd hcd hD hmg hg args vals as hpre hlay hrd hwl hlo
 obtain rfl:dV=.none:=Dflts.none hD hdf
 obtain rfl:kV=.none:=Dflts.noKw hD
 obtain ⟨a,vs,ns,rfl,rfl,hobj,hints,hlen⟩:=script_of hn hpre hwl
 refine enter_call (codeAny_mono (call w s₀ s₁ mg mb fa o pm cd doc a vs ns G Y ho (fd_plain hd) hcd hmg hobj hints hlen (TB.bits_of hlay) hg) fun r s' hq=>?_)
 obtain ⟨rfl,h2,h3,h4⟩:=hq
 exact ⟨.inl ⟨.bool true,.bool true,[],rfl,fun _=>rfl,.bool true,post_true l _,fun _=>⟨List.Pairwise.nil,fun _ hm=>(nomatch hm)⟩⟩,h2,h3,h4⟩
end Att
namespace L2
open PySem PySem.Spec PyProof.Rows
theorem walk_ofB {l:PySem.W.OpenLaw} {n k:Nat} {q:Program} {loose:List Str} {XP:(Str->Option Value)->Heap->Prop} {YP:World->Heap->Prop} {d:DefRec} {K:Params->Frag} {CX:World->CXT} {sp:World->Sp} {x:Str}
  (hn:l.most=some n) (hn2:n<=sizeLine) (hdf:d.params.defaults = []) (hr:Room k callerA)
  (hY:∀ (w:World) (h:Heap),YP w h->(K w.params).In h)
  (F:∀ (w:World) (mg:Str->Option Value) (fa:Addr) (h:Heap),(K w.params).In h->h.Ns mainGlobals mg->mg d.name=some (.ref fa) ->
   ∃ fd:FuncData,(∀ (s:Shared) (u:Value),BindsTo s fd ⟨[u],[]⟩ [(x,u)]) /\
    ∀ base:Heap,(K w.params).In base->base.Ns mainGlobals mg->FnOk l.prog w (K w.params) mg base (CX w) k fa fd [x] (sp w))
  (hsp:∀ (w:World) (H:Hp) (a:Addr) (ns:List Int),ns.length<=n->(∀ x∈ns,Builtin.Int.intBits x<=1048576)->Only H->SqL (K w.params) H a (ns.map V.int)->sp w [.ref a] H (fun v _=>v=.bl true) fun _ _ _=>False)
  (hCX:∀ (w:World) (H:Hp) (s:Shared) (e:Value) (s':Shared),CX w [] H s (fun _ _ _=>False) e s'->False) :
  PySem.W.WalkO q loose XP YP l.row.toRowW d [] (fun f vs=>PySem.call f vs):=by
 refine Att.attach_callB hn hdf fun w s₀ s₁ mg mb fa o pm cd doc a vs ns G Y ho hd hcd hmg hobj hints hlen hbi hg=>?_
 have KX:=hY w _ Y
 obtain ⟨fd,hb,hF⟩:=F w mg fa _ KX G.T.g hmg
 exact law_call KX G.T.g G.T.b G.T.builtins G.T.nolimit hg hobj hints (Nat.le_trans hlen hn2) hr hF hb (fun H hO hS=>hsp w H a ns hlen hbi hO hS) fun H e s'=>hCX w H s₁ e s'
theorem walk_ofKB {l:PySem.W.OpenLaw} {n k:Nat} {q:Program} {loose:List Str} {XP:(Str->Option Value)->Heap->Prop} {YP:World->Heap->Prop} {d:DefRec} {K:Params->Frag} {CX:CXT} {sp:Frag->Sp} {x:Str}
  (hn:l.most=some n) (hn2:n<=sizeLine) (hdf:d.params.defaults = []) (hr:Room k callerA)
  (hY:∀ (w:World) (h:Heap),YP w h->(K w.params).In h)
  (F:∀ (w:World) (mg:Str->Option Value) (fa:Addr) (h:Heap),(K w.params).In h->h.Ns mainGlobals mg->mg d.name=some (.ref fa) ->
   ∃ fd:FuncData,(∀ (s:Shared) (u:Value),BindsTo s fd ⟨[u],[]⟩ [(x,u)]) /\
    ∀ base:Heap,(K w.params).In base->base.Ns mainGlobals mg->FnOk l.prog w (K w.params) mg base CX k fa fd [x] (sp (K w.params)))
  (hsp:∀ (K:Frag) (H:Hp) (a:Addr) (ns:List Int),ns.length<=n->(∀ x∈ns,Builtin.Int.intBits x<=1048576)->Only H->SqL K H a (ns.map V.int)->sp K [.ref a] H (fun v _=>v=.bl true) fun _ _ _=>False)
  (hCX:∀ (H:Hp) (s:Shared) (e:Value) (s':Shared),CX [] H s (fun _ _ _=>False) e s'->False) :
  PySem.W.WalkO q loose XP YP l.row.toRowW d [] (fun f vs=>PySem.call f vs):=
 walk_ofB (K:=K) (CX:=fun _=>CX) (sp:=fun w=>sp (K w.params)) hn hn2 hdf hr hY F (fun w H a ns h1 hb h2 h3=>hsp (K w.params) H a ns h1 hb h2 h3) fun _ H s e s'=>hCX H s e s'
end L2
namespace TP
open PySem L2
def CMulB (i j:Int):Prop:=CMul i j\/Builtin.Int.intBits i+Builtin.Int.intBits j<=134217728
instance (i j:Int):Decidable (CMulB i j):=by unfold CMulB; infer_instance
theorem CMulB.ok {i j:Int} (h:CMulB i j):IntMulOk i j:=by
 rcases h with h | h
 ·exact h.ok
 ·exact IntMulOk.of_le (Nat.le_refl _) (Nat.le_refl _) h
section
variable {X:Cx}
theorem op_mulB:OpR X (binaryOp .Mult) (rI CMulB fun i j=>.int (i*j)):=opI fun _ _ _ _ _ _ _ hc q=>PyProof.Rows.mul_int q hc.ok
end
theorem mulB_L {i j:Int} (h:-18446744073709551616<i/\i<18446744073709551616):fI CMulB gMul (.int i) (.int j)=.ok (.int (i*j)):=by
 show (if CMulB i j then _ else _)=_
 exact if_pos (.inl (.inl h))
theorem mulB_R {i j:Int} (h:-18446744073709551616<j/\j<18446744073709551616):fI CMulB gMul (.int i) (.int j)=.ok (.int (i*j)):=by
 show (if CMulB i j then _ else _)=_
 exact if_pos (.inl (.inr h))
theorem mulB_b {i j:Int} (h:Builtin.Int.intBits i+Builtin.Int.intBits j<=134217728):fI CMulB gMul (.int i) (.int j)=.ok (.int (i*j)):=by
 show (if CMulB i j then _ else _)=_
 exact if_pos (.inr h)
theorem law_ofB {P:Program} {w:World} {K:Frag} {mg:Str->Option Value} {base:Heap} {k:Nat} {f:Addr} {fd:FuncData} {ps:List Str} {d:Mode} {F:List W->R W} (G:FnOk P w K mg base CX0 k f fd ps (spM K 1 d F))
  (h:∀ ns:List Int,ns.length<=63->(∀ x∈ns,Builtin.Int.intBits x<=1048576)->F [.scr (ns.map W.int)]=.ok (.bl true)):FnOk P w K mg base CX0 k f fd ps (fun vs H Q _=>∃ (a:Addr) (ns:List Int),vs = [.ref a]/\SqL K H a (ns.map V.int)/\ns.length<=63/\(∀ x∈ns,Builtin.Int.intBits x<=1048576)/\∀ H',Q (.bl true) H'):=
 G.imp fun vs H Q E zz72=>by
  obtain ⟨a,ns,e,hs,hl,hb,q⟩:=zz72
  subst e
  refine ⟨rfl,[.scr (ns.map W.int)],.cons (.scr hs ?_) .nil,?_⟩
  ·clear hs hl hb
   induction ns with
   | nil=>exact .nil
   | cons n ns ih=>exact .cons .int ih
  ·rw [h ns hl hb]
   intro v G' H' _ _ _ m
   have e:v=.bl true:=by
    cases d <;> first | (cases m; rfl) | (rcases m with m | ⟨_,_,_,_,z,_⟩ <;> first | (cases m; rfl) | cases z)
   subst e
   exact q H'
end TP
namespace TL
open PySem
section
variable {prog:Program} {w:World} {A:Around} {E:Value->Shared->Prop} {s:Shared}
end
end TL
namespace TP
open PySem L2
section
variable {X:Cx}
end
section
variable {K:Frag} {EX:EXT} {σ:St} {H:Hp} {Q:VK}
end
section
variable {X:Cx} {K:Frag} {EX:EXT} {a:Expr} {pos:Pos} {mr:Rho->R (List W)}
end
end TP
namespace TP
open PySem L2
section
variable {X:Cx}
end
section
variable {K:Frag} {EX:EXT} {d:Mode} {σ:St} {H:Hp} {Q:VK}
end
section
variable {X:Cx} {K:Frag} {EX:EXT} {d:Mode} {o e:Expr} {apos cpos:Pos} {mo me:Rho->R W}
end
end TP
namespace TP
open PySem L2
def OutW (K:Frag) (EX:EXT) (d:Mode) (H0:Hp) (r:R Fl) (D:Ends):Prop:=match r with
 | .ok (.nx ρ)=>∀ G' σ' H',PIv K H0 G' ρ σ' H'->D.nx σ' H'
 | .ok (.bk ρ)=>∀ G' σ' H',PIv K H0 G' ρ σ' H'->D.bk σ' H'
 | .ok (.ct ρ)=>∀ G' σ' H',PIv K H0 G' ρ σ' H'->D.ct σ' H'
 | .ok (.rt w)=>∀ v G' H',Same G' H'->Same H0 H'->(∀ a o,H0 a=some o->isL o=true->G' a=none)->Md K H0 H0 G' H' v w d->D.rt v H'
 | .ex e=>∀ H',Same H0 H'->EX e H'
 | .stuck=>False
def tStW (K:Frag) (EX:EXT) (d:Mode) (m:Rho->R Fl):TS:=fun D σ H=>∃ H0 G ρ,PIv K H0 G ρ σ H/\OutW K EX d H0 (m ρ) D
section
variable {K:Frag} {EX:EXT} {H0 G H G1 H1 G2 H2:Hp} {ρ:Rho} {σ:St} {d:Mode} {D:Ends}
def clS:Sl->Sl
 | .un=>.un
 | .val w=>if noL w=true then .val w else .un
 | .par w=>if noL w=true then .val w else .un
 | .own ws=>if noLs ws=true then .own ws else .un
 | .dic ks=>.dic ks
 | .dik ks=>.dik ks
 | .iop p ws=>if noLs ws=true then .iop p ws else .un
 | .hz _=>.un
def subS (i j:Nat) (us ws':List W) (ρ:Rho):Rho:=(ρ.map clS).set i (.val (.tup (us.set j (.lst ws'))))
end
section
variable {X:Cx} {K:Frag} {EX:EXT} {d:Mode} {e:Expr} {pos:Pos} {ma:Rho->R W} {m n:Rho->R Fl} {ta:Rho->R Bool} {st:Stmt} {sts:List Stmt}
end
end TP
namespace TP
open PySem L2
set_option maxHeartbeats 2000000
section
variable {X:Cx} {K:Frag}
end
section
variable {K:Frag}
end
end TP
namespace TP
open PySem L2
def Hx (p:Addr) (H0 H1:Hp):Prop:=(∀ a,a≠p->H1 a=H0 a)/\∃ vs,H1 p=some (.lst vs)
def OutIo (K:Frag) (EX:EXT) (p:Addr) (H0:Hp) (r:R Fl) (D:Ends):Prop:=match r with
 | .ok (.nx ρ)=>∀ H0' G' σ' H',Hx p H0 H0'->PIv K H0' G' ρ σ' H'->D.nx σ' H'
 | .ok (.bk ρ)=>∀ H0' G' σ' H',Hx p H0 H0'->PIv K H0' G' ρ σ' H'->D.rt .non H'
 | .ex e=>∀ H',EX e H'
 | _=>False
def tStI (K:Frag) (EX:EXT) (p:Addr) (m:Rho->R Fl):TS:=fun D σ H=>∃ H0 G ρ,PIv K H0 G ρ σ H/\(∃ vs,H0 p=some (.lst vs))/\OutIo K EX p H0 (m ρ) D
def nbR:R Fl->R Fl
 | .ok (.nx ρ)=>.ok (.nx ρ)
 | .ex e=>.ex e
 | _=>.stuck
def nb (m:Rho->R Fl):Rho->R Fl:=fun ρ=>nbR (m ρ)
section
variable {K:Frag} {EX:EXT} {H0 H0' G H G1 H1 G2 H2:Hp} {ρ:Rho} {σ:St} {d:Mode} {D:Ends} {p:Addr}
def clI:Sl->Sl
 | .un=>.un
 | .val w=>.val w
 | .par w=>if noL w=true then .val w else .un
 | .own ws=>.own ws
 | .dic ks=>.dic ks
 | .dik ks=>.dik ks
 | .iop _ _=>.un
 | .hz _=>.un
def ioR (p:Addr) (ρ:Rho):R (List W):=match (ρ[1]?:Option Sl) with
 | some (.iop q cs)=>if q=p then .ok cs else .stuck
 | _=>.stuck
def runIO (n N:Nat) (m:Addr->Rho->R Fl) (p:Addr) (w1:W) (cs wr:List W):R (List W):=if wr.length+2=n/\noLs cs=true then (match m p (.par w1::.iop p cs::(wr.map Sl.par++List.replicate (N-n) Sl.un)) with
 | .ok (.nx ρ)=>ioR p ρ
 | .ok (.bk ρ)=>ioR p ρ
 | _=>.stuck) else .stuck
open Classical in
def runIOA (n N:Nat) (m:Addr->Rho->R Fl) (w1:W) (cs wr:List W):R (List W):=if h:∃ cs',∀ p,runIO n N m p w1 cs wr=.ok cs' then .ok (Classical.choose h) else .stuck
end
section
variable {X:Cx} {K:Frag} {EX:EXT} {d:Mode} {e:Expr} {es:List Expr} {pos:Pos} {ma:Rho->R W} {m n:Rho->R Fl} {ta:Rho->R Bool} {st:Stmt} {sts:List Stmt} {p:Addr} {mr:Rho->R (List W)}
end
end TP
namespace TP
open PySem L2
section
variable {K:Frag} {EX:EXT} {H0 G H:Hp} {ρ:Rho} {σ:St}
end
section
variable {X:Cx} {K:Frag} {e:Expr} {es:List Expr} {pos:Pos} {mr:Rho->R (List W)}
end
end TP
namespace TP
open PySem L2
section
variable {X:Cx}
end
section
variable {K:Frag} {EX:EXT} {H0 G H:Hp} {ρ:Rho} {σ:St} {d:Mode} {D:Ends}
end
section
variable {X:Cx} {K:Frag} {EX:EXT} {d:Mode} {e:Expr} {pos:Pos} {ma:Rho->R W}
end
end TP
namespace TP
open PySem L2
section
open PySem.W PyProof.Rows
variable {prog:Program} {w:World} {A:Around} {E:Value->Shared->Prop} {s:Shared}
theorem items_int:∀ {xs:List Int} {its:List Value},Vals (xs.map V.int) its->ItemsAre (intKind prog w) xs its:=by
 intro xs
 induction xs with
 | nil=>intro its h; cases h; exact .nil
 | cons x xs ih=>
  intro its h
  cases h with
  | cons r t=>
   obtain ⟨tk,rfl⟩:=r
   exact .cons (by simp [intKind,Value.isInt]) (ih t)
end
end TP
namespace TP
open PySem L2
section
variable {X:Cx} {pins:List (Addr×Obj)} {σ:L2.St} {H:Hp} {s:Shared}
end
section
open PySem.W PyProof.Rows
variable {Y:Cx} {K:Frag} {pn:List (Addr×Obj)} {σ:L2.St}
end
end TP
namespace TP
open PySem L2
section
open PySem.W PyProof.Rows
variable {Y:Cx} {K:Frag} {pins:List (Addr×Obj)} {σ:L2.St}
end
section
open PySem.W PyProof.Rows
variable {X:Cx} {K:Frag}
end
section
variable {K:Frag}
end
section
variable {X:Cx} {K:Frag} {EX:EXT} {e:Expr} {pos:Pos} {mr:Rho->R (List W)}
end
end TP
namespace TP
open PySem L2
section
open PySem.W PyProof.Rows
variable {X:Cx} {e:Expr} {te:TE} {st:Expr} {tk:TO} {pos p2:Pos}
end
section
variable {K:Frag} {EX:EXT} {σ:St} {H:Hp} {Q:VK}
end
section
variable {X:Cx} {K:Frag} {EX:EXT} {e:Expr} {pos:Pos} {ma:Rho->R W}
end
end TP
namespace TP
open PySem L2
section
variable {K:Frag} {EX:EXT} {H0 G H:Hp} {ρ:Rho} {σ:St} {d:Mode} {D:Ends}
end
section
variable {X:Cx} {K:Frag} {EX:EXT} {d:Mode} {e:Expr} {pos:Pos} {ma:Rho->R W}
end
end TP
namespace TP
open PySem L2
section
variable {K:Frag} {EX:EXT} {H0 G H G1 H1 F:Hp} {ρ:Rho} {σ:St} {d:Mode} {D:Ends}
end
section
variable {X:Cx} {K:Frag} {EX:EXT} {d:Mode} {e k v:Expr} {pos:Pos} {mk me:Rho->R W}
end
end TP
namespace TP
open PySem PyProof.Rows
def kk (rk:Keyed->Int) (xs:Array Keyed) (i:Nat):Int:=match xs[i]? with
 | some p=>rk p
 | none=>0
theorem sb1 {A n:Nat} (h0:0<n) (h:n<=A):A-(n-1)=A-n+1:=by
 cases n with
 | zero=>exact absurd h0 (Nat.lt_irrefl _)
 | succ m=>exact (Nat.succ_pred_eq_of_pos (Nat.sub_pos_of_lt h)).symm
theorem sb2 {A n k:Nat} (h:n<=A) (hk:k<=n):A-k=A-n+(n-k):=(Nat.sub_add_sub_cancel h hk).symm
theorem sb3 {lo x q k:Nat} (hq:q<=x) (h:lo+x-q<=k):x-q<=k-lo:=by rw [Nat.add_sub_assoc hq] at h; exact Nat.le_sub_of_add_le' h
theorem sb4 {lo x q k:Nat} (hq:q<=x) (h:lo+x-q<=k):lo+(k-lo)=k:=Nat.add_sub_cancel' (Nat.le_trans (by rw [Nat.add_sub_assoc hq]; exact Nat.le_add_right _ _) h)
theorem sb5 {lo j:Nat} (h:0<j):lo+(j-1)=lo+j-1:=(Nat.add_sub_assoc h lo).symm
section
variable {prog:Program} {w:World} {A:Around} {E:Value->Shared->Prop} {s:Shared} {a₀:Array Keyed} {κ:SortKind} {rk:Keyed->Int}
end
def upL (rk:Keyed->Int) (l:List Keyed):Prop:=l.Pairwise fun x y=>rk x<=rk y
structure Mg (rk:Keyed->Int) (t:List Keyed) (out ra rb:List Keyed):Prop where
 perm:(out++(ra++rb)).Perm t
 up:upL rk out
 le:∀ x∈out,∀ y∈ra++rb,rk x<=rk y
def Gd (rk:Keyed->Int) (t res:List Keyed):Prop:=res.Perm t/\upL rk res
section
variable {rk:Keyed->Int} {t out p ra rb:List Keyed}
end
section
variable {prog:Program} {w:World} {A:Around} {E:Value->Shared->Prop} {s:Shared} {a₀:Array Keyed} {κ:SortKind} {rk:Keyed->Int}
end
section
variable {prog:Program} {w:World} {A:Around} {E:Value->Shared->Prop} {s:Shared} {a₀:Array Keyed} {κ:SortKind} {rk:Keyed->Int}
abbrev rn (rk:Keyed->Int) (x:Keyed):Int:=-rk x
abbrev rv (a:Array Keyed):List Keyed:=a.toList.reverse
end
section
variable {prog:Program} {w:World} {A:Around} {E:Value->Shared->Prop} {s:Shared} {a₀:Array Keyed} {κ:SortKind} {rk:Keyed->Int}
end
section
variable {prog:Program} {w:World} {A:Around} {E:Value->Shared->Prop} {s:Shared} {a₀:Array Keyed} {κ:SortKind} {rk:Keyed->Int} {arr:Array Keyed} {pd:Array (Nat×Nat×Nat)} {g lo:Nat}
structure Rl (lo:Nat) (arr arr':Array Keyed):Prop where
 perm:arr'.toList.Perm arr.toList
 same:∀ k,k<lo->arr'[k]?=arr[k]?
end
section
variable {prog:Program} {w:World} {A:Around} {E:Value->Shared->Prop} {s:Shared} {a₀:Array Keyed} {κ:SortKind} {rk:Keyed->Int} {arr:Array Keyed} {pd:Array (Nat×Nat×Nat)} {g lo:Nat}
end
end TP
namespace TP
open PySem L2
section
open PySem.W PyProof.Rows
variable {prog:Program} {w:World} {A:Around} {E:Value->Shared->Prop} {s:Shared}
open Classical in
def rkV (vs:List Value) (ss:List (List Int)) (p:Keyed):Int:=if h:∃ i,i<vs.length/\vs.getD i Value.none=p.1 then rankL ss h.choose else 0
end
section
variable {X:Cx} {K:Frag}
end
section
variable {K:Frag}
end
end TP
namespace TP
open PySem L2
section
variable {K:Frag} {EX:EXT} {H0 G H G1 H1 F:Hp} {ρ:Rho} {σ:St} {d:Mode} {D:Ends}
end
section
variable {X:Cx} {K:Frag} {d:Mode} {e:Expr} {es:List Expr} {pos:Pos} {mr:Rho->R (List W)}
end
end TP
namespace TP
open PySem L2
section
variable {K:Frag} {EX:EXT} {X:Cx} {tg e:Expr} {ma:Rho->R W}
end
end TP
namespace TP
open PySem L2
def NoLst (H:Hp):Prop:=∀ a vs,H a≠some (.lst vs)
def OutN (K:Frag) (d:Mode) (Hb:Hp) (r:R Fl) (D:Ends):Prop:=match r with
 | .ok (.nx ρ)=>∀ H0 G' σ' H',Same Hb H0->PIv K H0 G' ρ σ' H'->D.nx σ' H'
 | .ok (.rt w)=>∀ v G' H',Same G' H'->Same Hb H'->(∀ a o,Hb a=some o->isL o=true->G' a=none)->Md K Hb Hb G' H' v w d->D.rt v H'
 | _=>False
def tStN (K:Frag) (EX:EXT) (d:Mode) (m:Rho->R Fl):TS:=fun D σ H=>∃ Hb H0 G ρ,NoLst Hb/\Same Hb H0/\PIv K H0 G ρ σ H/\OutN K d Hb (m ρ) D
section
variable {K:Frag} {EX:EXT} {Hb H0 G H G1 H1 G2 H2:Hp} {ρ:Rho} {σ:St} {d:Mode} {D:Ends}
end
section
variable {X:Cx} {K:Frag} {EX:EXT} {d:Mode} {e:Expr} {es:List Expr} {pos:Pos} {ma:Rho->R W} {mr:Rho->R (List W)} {m n:Rho->R Fl} {ta:Rho->R Bool} {st:Stmt} {sts:List Stmt}
end
end TP
namespace TP
open PySem L2
open PyProof.Rows (envOfC)
def XE1 (K:Frag) (E:XK):EXT:=fun e H=>∀ (C:Addr) (od:Option Addr),PySem.W.nsIn K mainGlobals e.cls=some (some (.ref C))->XD H od e.at_->E (.ref C) od H
def spR (K:Frag) (n:Nat) (d:Mode) (f:List W->R W):Sp:=fun vs H Q E=>vs.length=n/\∃ ws,Reps K H vs ws/\match f ws with
 | .ok w=>∀ v G' H',Same H H'->Same G' H'->(∀ a o,H a=some o->isL o=true->G' a=none)->Md K H H G' H' v w d->Q v H'
 | .ex e=>∀ H',Same H H'->XE1 K E e H'
 | .stuck=>False
def calm (f:List W->R W):List W->R W:=fun ws=>match f ws with
 | .ok w=>.ok w
 | _=>.stuck
section
variable {K:Frag} {EX:EXT} {H0 G H G1 H1 G2 H2:Hp} {ρ:Rho} {σ:St} {d:Mode} {D:Ends}
def flUn (j:Nat):Fl->R Fl
 | .nx ρ=>.ok (.nx (ρ.set j .un))
 | .bk ρ=>.ok (.bk (ρ.set j .un))
 | .ct ρ=>.ok (.ct (ρ.set j .un))
 | .rt w=>.ok (.rt w)
def mExc (c:Str) (j:Nat) (mb:Rho->R Fl) (e:XW) (ρ:Rho):R Fl:=if e.cls=c then mb (ρ.set j (.val (.exc e.cls e.at_)))>>=flUn j else .stuck
end
section
variable {X:Cx} {K:Frag} {EX:EXT} {d:Mode} {e:Expr} {es:List Expr} {pos:Pos} {ma:Rho->R W} {mr:Rho->R (List W)} {mb:Rho->R Fl}
end
section
variable {P:Program} {w:World} {K:Frag} {mg:Str->Option Value} {base:Heap} {N:List Str} {qual:Str} {scope:Scope} {f0:Addr} {cd:Value} {A:Around} {outer:List Env} {s0:Shared} {H0:Hp} {E:XK} {d:Mode} {e:Expr} {es:List Expr} {pos:Pos} {mr:Rho->R (List W)}
end
end TP
namespace TP
open PySem L2
def big8:Int:=2^2000
def CDivL (_ j:Int):Prop:=0<j/\j<big8
instance (i j:Int):Decidable (CDivL i j):=by unfold CDivL; infer_instance
def CDivZ (_ j:Int):Prop:=j≠0/\j.natAbs<2^8999
instance (i j:Int):Decidable (CDivZ i j):=by unfold CDivZ; infer_instance
def gFz (i j:Int):W:=.int (i.fdiv j)
theorem op_fdivZ {X:Cx}:OpR X (binaryOp .FloorDiv) (rI CDivZ fun i j=>.int (i.fdiv j)):=opI fun i j _ _ _ _ _ hc q=>by
 refine PyProof.Rows.floordiv_int hc.1 q (.inl (PyProof.noPylong_of_log2 ?_))
 have h0:j.natAbs≠0:=by have:=hc.1; omega
 exact Nat.lt_trans ((Nat.log2_lt h0).mpr hc.2) (by decide)
theorem divZ_ii {i j:Int} (h0:j≠0) (h:j.natAbs<2^8999):fI CDivZ gFz (.int i) (.int j)=.ok (.int (i.fdiv j)):=by
 show (if CDivZ i j then _ else _)=_
 rw [if_pos ⟨h0,h⟩]; rfl
def cModZ (_ j:Int):Prop:=j≠0
instance (i j:Int):Decidable (cModZ i j):=by unfold cModZ; infer_instance
def gMz (i j:Int):W:=.int (i.fmod j)
theorem op_modZ {X:Cx}:OpR X (binaryOp .Mod) (rI cModZ fun i j=>.int (i.fmod j)):=op_modN
theorem modZ_ii {i j:Int} (h0:j≠0):fI cModZ gMz (.int i) (.int j)=.ok (.int (i.fmod j)):=by
 show (if cModZ i j then _ else _)=_
 rw [if_pos (show cModZ i j from h0)]; rfl
def sPar (i j:Nat) (m:Rho->R (List W)):Rho->R Fl:=fun ρ=>m ρ>>=fun ws=>(match ws with
 | [v,w]=>.ok (.nx ((ρ.set i (.val v)).set j (.val w)))
 | _=>.stuck)
section
variable {K:Frag} {EX:EXT} {H:Hp} {σ:St} {d:Mode} {D:Ends} {i j:Nat} {m:Rho->R (List W)}
theorem c_par (h:tSt K EX d (sPar i j m) D σ H):tPar i j (tA K EX .V m) D σ H:=by
 obtain ⟨H0,G,ρ,I,o⟩:=h
 refine ⟨H0,G,ρ,I,OutS.bind I o fun xs G1 H1 ws e1 m1 o1=>?_⟩
 match ws,m1,o1 with
 | [v,w],m1,o1=>
  obtain ⟨x,us,rfl,r1,m2⟩:=m1.inv
  obtain ⟨y,us2,rfl,r2,m3⟩:=m2.inv
  have e:us2 = []:=m3.inv
  subst e
  exact ⟨x,y,rfl,o1 G1 _ H1 (Same.refl _) (((I.ext e1).setV r1).setV r2)⟩
 | [],_,o1=>exact o1.elim
 | [_],_,o1=>exact o1.elim
 | _::_::_::_,_,o1=>exact o1.elim
theorem q_par {X:Cx} {x y:Str} {a b:Expr} {px py pt pos:Pos} {kt k2 pt2} (hc:X.calm=true) (hN:X.N.Nodup) (hi:X.N[i]?=some x) (hj:X.N[j]?=some y) (hij:i≠j) (hx:X.env.scope.names.lookup x=some .local) (hy:X.env.scope.names.lookup y=some .local) (ha:PA X [a,b] (tA K EX .V m))
  (hw:swappedStores [.Tuple [.Name x px,.Name y py] kt pt] (.Tuple [a,b] k2 pt2) X.env=pure (some [x,y]):=by rfl) (hs:swapsWithSole [.Tuple [.Name x px,.Name y py] kt pt] (.Tuple [a,b] k2 pt2) pos.line X.env=pure false:=by rfl) :
  PS X (.Assign [.Tuple [.Name x px,.Name y py] kt pt] (.Tuple [a,b] k2 pt2) pos) (tSt K EX d (sPar i j m)):=(ps_par hc hN hi hj hij hx hy ha hw hs).mono fun _ _ _ q=>c_par q
end
theorem sPar_ap (i j:Nat) (m:Rho->R (List W)) (ρ:Rho):sPar i j m ρ=m ρ>>=fun ws=>(match ws with
 | [v,w]=>R.ok (Fl.nx ((ρ.set i (.val v)).set j (.val w)))
 | _=>.stuck):=rfl
end TP
namespace TP
open PySem L2
abbrev tI (ns:List Int):W:=.tup (ns.map W.int)
abbrev lI (ns:List Int):W:=.lst (ns.map W.int)
theorem noLs_ints (ns:List Int):noLs (ns.map W.int)=true:=by
 induction ns with
 | nil=>rfl
 | cons n ns ih=>rw [List.map_cons]; simp only [noLs,noL,ih,Bool.and_self]
theorem fEqS_ii (n:Bool) (i j:Int):fEqS n (.int i) (.int j)=.ok (.bl (if n then !decide (i=j) else decide (i=j))):=by
 show R.ok (W.bl (if n then !decide (V.int i=V.int j) else decide (V.int i=V.int j)))=_
 rw [show decide (V.int i=V.int j)=decide (i=j) from decide_eq_decide.mpr ⟨V.int.inj,congrArg _⟩]
theorem fEqS_bb (n:Bool) (i j:Bool):fEqS n (.bl i) (.bl j)=.ok (.bl (if n then !decide (i=j) else decide (i=j))):=by
 show R.ok (W.bl (if n then !decide (V.bl i=V.bl j) else decide (V.bl i=V.bl j)))=_
 rw [show decide (V.bl i=V.bl j)=decide (i=j) from decide_eq_decide.mpr ⟨V.bl.inj,congrArg _⟩]
theorem fEqS_ss (n:Bool) (i j:Str):fEqS n (.str i) (.str j)=.ok (.bl (if n then !decide (i=j) else decide (i=j))):=by
 show R.ok (W.bl (if n then !decide (V.str i=V.str j) else decide (V.str i=V.str j)))=_
 rw [show decide (V.str i=V.str j)=decide (i=j) from decide_eq_decide.mpr ⟨V.str.inj,congrArg _⟩]
theorem fEqS_nn (n:Bool):fEqS n .non .non=.ok (.bl (!n)):=by cases n <;> rfl
theorem fEqS_ni (n:Bool) (i:Int):fEqS n .non (.int i)=.ok (.bl n):=by cases n <;> rfl
theorem fEqS_in (n:Bool) (i:Int):fEqS n (.int i) .non=.ok (.bl n):=by cases n <;> rfl
theorem atW {ns:List Int} {i:Int} (h0:0<=i) (h1:i<ns.length):L2.atI (ns.map W.int) i=some (.int (ns.getD i.toNat 0)):=by
 unfold L2.atI
 rw [List.length_map,ixN_int h0 h1]
 show (ns.map W.int)[i.toNat]?=_
 rw [List.getElem?_map,some_getD (by omega)]; rfl
theorem atW_of {ws:List W} {k:Nat} {w:W} (h:ws[k]?=some w):L2.atI ws (k:Int)=some w:=by
 have hk:=(List.getElem?_eq_some_iff.mp h).1
 unfold L2.atI
 rw [ixN_int (by omega) (by omega),Int.toNat_natCast]
 exact h
def andThen (r:R Fl) (n:Rho->R Fl):R Fl:=r>>=fun f=>match f with
 | .nx ρ'=>n ρ'
 | .rt w=>.ok (.rt w)
 | .bk ρ'=>.ok (.bk ρ')
 | .ct ρ'=>.ok (.ct ρ')
theorem mSeq_ap (m n:Rho->R Fl) (ρ:Rho):mSeq m n ρ=andThen (m ρ) n:=rfl
theorem andThen_nx (ρ:Rho) (n:Rho->R Fl):andThen (.ok (.nx ρ)) n=n ρ:=rfl
theorem andThen_rt (w:W) (n:Rho->R Fl):andThen (.ok (.rt w)) n=.ok (.rt w):=rfl
theorem andThen_bk (ρ:Rho) (n:Rho->R Fl):andThen (.ok (.bk ρ)) n=.ok (.bk ρ):=rfl
theorem andThen_ct (ρ:Rho) (n:Rho->R Fl):andThen (.ok (.ct ρ)) n=.ok (.ct ρ):=rfl
theorem mC_ap (w:W) (ρ:Rho):mC w ρ=.ok w:=rfl
theorem b1_ap (f:W->R W) (ma:Rho->R W) (ρ:Rho):b1 f ma ρ=(ma ρ>>=f):=rfl
def R2b (a b:R W) (f:W->W->R W):R W:=a>>=fun x=>b>>=fun y=>f x y
theorem b2_ap (f:W->W->R W) (ma mb:Rho->R W) (ρ:Rho):b2 f ma mb ρ=R2b (ma ρ) (mb ρ) f:=rfl
theorem R2b_ok (x y:W) (f:W->W->R W):R2b (.ok x) (.ok y) f=f x y:=rfl
theorem bA_ap (f:List W->R W) (ma:Rho->R (List W)) (ρ:Rho):bA f ma ρ=(ma ρ>>=f):=rfl
theorem bI_ap (f:List W->R (List W)) (ma:Rho->R (List W)) (ρ:Rho):bI f ma ρ=(ma ρ>>=f):=rfl
theorem bS_ap (ma:Rho->R W) (ρ:Rho):bS ma ρ=(ma ρ>>=seqW):=rfl
theorem aN_ap (ρ:Rho):aN ρ=.ok []:=rfl
def Rcons (a:R W) (b:R (List W)):R (List W):=a>>=fun x=>b>>=fun xs=>.ok (x::xs)
theorem aC_ap (ma:Rho->R W) (mr:Rho->R (List W)) (ρ:Rho):aC ma mr ρ=Rcons (ma ρ) (mr ρ):=rfl
theorem Rcons_ok (x:W) (xs:List W):Rcons (.ok x) (.ok xs)=.ok (x::xs):=rfl
theorem bChk_ap (ma:Rho->R W) (ρ:Rho):bChk ma ρ=(ma ρ>>=chk):=rfl
theorem bTest_ap (ma:Rho->R W) (ρ:Rho):bTest ma ρ=(ma ρ>>=toB):=rfl
theorem tAnd_ap (a b:Rho->R Bool) (ρ:Rho):tAnd' a b ρ=rAnd (a ρ) (b ρ):=rfl
theorem tOr_ap (a b:Rho->R Bool) (ρ:Rho):tOr' a b ρ=rOr (a ρ) (b ρ):=rfl
theorem tNot_ap (a:Rho->R Bool) (ρ:Rho):tNot' a ρ=rNot (a ρ):=rfl
theorem rAnd_ok (x y:Bool):rAnd (.ok x) (.ok y)=.ok (x&&y):=by cases x <;> rfl
theorem rAnd_ff (r:R Bool):rAnd (.ok false) r=.ok false:=rfl
theorem rAnd_tt (r:R Bool):rAnd (.ok true) r=r:=rfl
theorem rOr_ok (x y:Bool):rOr (.ok x) (.ok y)=.ok (x||y):=by cases x <;> rfl
theorem rOr_tt (r:R Bool):rOr (.ok true) r=.ok true:=rfl
theorem rOr_ff (r:R Bool):rOr (.ok false) r=r:=rfl
theorem rNot_ok (x:Bool):rNot (.ok x)=.ok (!x):=rfl
theorem vAnd_ap (a b:Rho->R W) (ρ:Rho):vAnd a b ρ=rAndV (a ρ) (b ρ):=rfl
theorem vOr_ap (a b:Rho->R W) (ρ:Rho):vOr a b ρ=rOrV (a ρ) (b ρ):=rfl
theorem vNot_ap (a:Rho->R W) (ρ:Rho):vNot a ρ=rNotV (a ρ):=rfl
theorem rAndV_ok (x y:Bool):rAndV (.ok (.bl x)) (.ok (.bl y))=.ok (.bl (x&&y)):=by cases x <;> rfl
theorem rAndV_ff (r:R W):rAndV (.ok (.bl false)) r=.ok (.bl false):=rfl
theorem rAndV_tt (r:R W):rAndV (.ok (.bl true)) r=r:=rfl
theorem rOrV_ok (x y:Bool):rOrV (.ok (.bl x)) (.ok (.bl y))=.ok (.bl (x||y)):=by cases x <;> rfl
theorem rOrV_tt (r:R W):rOrV (.ok (.bl true)) r=.ok (.bl true):=rfl
theorem rOrV_ff (r:R W):rOrV (.ok (.bl false)) r=r:=rfl
theorem rNotV_ok (x:Bool):rNotV (.ok (.bl x))=.ok (.bl (!x)):=rfl
def rIfW (c:R Bool) (a b:R W):R W:=c>>=fun t=>if t then a else b
theorem vIf_ap (c:Rho->R Bool) (a b:Rho->R W) (ρ:Rho):vIf c a b ρ=rIfW (c ρ) (a ρ) (b ρ):=rfl
theorem rIfW_tt (a b:R W):rIfW (.ok true) a b=a:=rfl
theorem rIfW_ff (a b:R W):rIfW (.ok false) a b=b:=rfl
theorem rIfW_ok (t:Bool) (x y:W):rIfW (.ok t) (.ok x) (.ok y)=.ok (if t then x else y):=by cases t <;> rfl
def Rchain (f f':W->W->R W) (a b c:R W):R W:=a>>=fun x=>b>>=fun y=>f x y>>=fun z=>toB z>>=fun t=>if t then c>>=fun u=>f' y u else .ok (.bl false)
theorem vChain_ap (f f':W->W->R W) (ma mb mc:Rho->R W) (ρ:Rho):vChain f f' ma mb mc ρ=Rchain f f' (ma ρ) (mb ρ) (mc ρ):=rfl
theorem Rchain_ii (g g':Int->Int->Bool) (i j k:Int):Rchain (fI0 fun i j=>.bl (g i j)) (fI0 fun i j=>.bl (g' i j)) (.ok (.int i)) (.ok (.int j)) (.ok (.int k))=.ok (.bl (g i j&&g' j k)):=by
 unfold Rchain
 show (if g i j=true then _ else _)=_
 cases h:g i j <;> simp [fI0]
def mkTup (ws:List W):R W:=lim ws.length (.tup ws)
def mkLst (ws:List W):R W:=lim ws.length (.lst ws)
theorem vTup_ap (ma:Rho->R (List W)) (ρ:Rho):vTup ma ρ=(ma ρ>>=mkTup):=rfl
theorem vLst_ap (ma:Rho->R (List W)) (ρ:Rho):vLst ma ρ=(ma ρ>>=mkLst):=rfl
theorem pN_ap (ρ:Rho):pN ρ=.ok none:=rfl
theorem pS_ap (m:Rho->R W) (ρ:Rho):pS m ρ=(m ρ>>=partW):=rfl
theorem partW_int (i:Int):partW (.int i)=.ok (some i):=rfl
def Rsl (c:Bool) (x:R W) (l u:R (Option Int)):R W:=x>>=fun x=>l>>=fun l=>u>>=fun u=>toR (lstOf x)>>=fun ws=>chks c (cutW ws l u)
theorem vSl_ap (c:Bool) (m:Rho->R W) (ml mh:Rho->R (Option Int)) (ρ:Rho):vSl c m ml mh ρ=Rsl c (m ρ) (ml ρ) (mh ρ):=rfl
theorem Rsl_lst (c:Bool) (ws:List W) (l u:Option Int):Rsl c (.ok (.lst ws)) (.ok l) (.ok u)=chks c (cutW ws l u):=rfl
theorem Rsl_scr (c:Bool) (ws:List W) (l u:Option Int):Rsl c (.ok (.scr ws)) (.ok l) (.ok u)=chks c (cutW ws l u):=rfl
def Rcomp (r:R (List W)) (n:Nat) (mg:W->Rho->Option Rho) (mc:Rho->R Bool) (me:Rho->R W) (ρ:Rho):R W:=r>>=fun ws=>mComp n mg mc me ws ρ
theorem vComp_ap (n:Nat) (mi:Rho->R (List W)) (mg:W->Rho->Option Rho) (mc:Rho->R Bool) (me:Rho->R W) (ρ:Rho):vComp n mi mg mc me ρ=Rcomp (mi ρ) n mg mc me ρ:=rfl
theorem Rcomp_ok (ws:List W) (n:Nat) (mg:W->Rho->Option Rho) (mc:Rho->R Bool) (me:Rho->R W) (ρ:Rho):Rcomp (.ok ws) n mg mc me ρ=mComp n mg mc me ws ρ:=rfl
theorem sNx_ap (ρ:Rho):sNx ρ=.ok (.nx ρ):=rfl
theorem sBk_ap (ρ:Rho):sBk ρ=.ok (.bk ρ):=rfl
theorem sCt_ap (ρ:Rho):sCt ρ=.ok (.ct ρ):=rfl
def Rdrop (r:R W) (ρ:Rho):R Fl:=r>>=fun _=>.ok (.nx ρ)
theorem sDrop_ap (m:Rho->R W) (ρ:Rho):sDrop m ρ=Rdrop (m ρ) ρ:=rfl
theorem Rdrop_ok (w:W) (ρ:Rho):Rdrop (.ok w) ρ=.ok (.nx ρ):=rfl
def retK (w:W):R Fl:=.ok (.rt w)
theorem sRet_ap (m:Rho->R W) (ρ:Rho):sRet m ρ=(m ρ>>=retK):=rfl
theorem retK_ap (w:W):retK w=.ok (.rt w):=rfl
theorem sRetN_ap (ρ:Rho):sRetN ρ=.ok (.rt .non):=rfl
def Rset (r:R W) (f:W->Sl) (i:Nat) (ρ:Rho):R Fl:=r>>=fun w=>.ok (.nx (ρ.set i (f w)))
theorem sV_ap (i:Nat) (m:Rho->R W) (ρ:Rho):sV i m ρ=Rset (m ρ) Sl.val i ρ:=rfl
theorem sU_ap (i:Nat) (m:Rho->R W) (ρ:Rho):sU i m ρ=Rset (m ρ) Sl.par i ρ:=rfl
theorem sF_ap (i:Nat) (m:Rho->R W) (ρ:Rho):sF i m ρ=Rset (m ρ) slotF i ρ:=rfl
theorem Rset_ok (w:W) (f:W->Sl) (i:Nat) (ρ:Rho):Rset (.ok w) f i ρ=.ok (.nx (ρ.set i (f w))):=rfl
theorem slotF_lst (ws:List W):slotF (.lst ws)=.own ws:=rfl
theorem slotF_tup (ws:List W):slotF (.tup ws)=.val (.tup ws):=rfl
theorem slotF_int (i:Int):slotF (.int i)=.val (.int i):=rfl
theorem slotF_bl (i:Bool):slotF (.bl i)=.val (.bl i):=rfl
theorem slotF_non:slotF .non=.val .non:=rfl
theorem slotF_str (i:Str):slotF (.str i)=.val (.str i):=rfl
def toNx:Option Rho->R Fl
 | some ρ=>.ok (.nx ρ)
 | none=>.stuck
def Rasg (r:R W) (mg:W->Rho->Option Rho) (ρ:Rho):R Fl:=r>>=fun w=>toR (mg w ρ)>>=fun ρ'=>.ok (.nx ρ')
theorem sG_ap (mg:W->Rho->Option Rho) (m:Rho->R W) (ρ:Rho):sG mg m ρ=Rasg (m ρ) mg ρ:=rfl
theorem Rasg_ok (w:W) (mg:W->Rho->Option Rho) (ρ:Rho):Rasg (.ok w) mg ρ=toNx (mg w ρ):=by
 show (toR (mg w ρ)>>=_)=_
 cases mg w ρ <;> rfl
theorem toNx_some (ρ:Rho):toNx (some ρ)=.ok (.nx ρ):=rfl
def Rfor (r:R (List W)) (mg:W->Rho->Option Rho) (mb:Rho->R Fl) (ρ:Rho):R Fl:=r>>=fun ws=>mFor mg mb ws ρ
theorem sFor_ap (mi:Rho->R (List W)) (mg:W->Rho->Option Rho) (mb:Rho->R Fl) (ρ:Rho):sFor mi mg mb ρ=Rfor (mi ρ) mg mb ρ:=rfl
theorem Rfor_ok (ws:List W) (mg:W->Rho->Option Rho) (mb:Rho->R Fl) (ρ:Rho):Rfor (.ok ws) mg mb ρ=mFor mg mb ws ρ:=rfl
theorem sFrz_ap (i:Nat) (m:Rho->R Fl) (ρ:Rho):sFrz i m ρ=m (frz i ρ):=rfl
def frzS:Option Sl->Nat->Rho->Rho
 | some (.own ws),i,ρ=>ρ.set i (.val (.lst ws))
 | _,_,ρ=>ρ
theorem frz_ap (i:Nat) (ρ:Rho):frz i ρ=frzS (ρ[i]?) i ρ:=by
 unfold frz frzS
 rcases h:ρ[i]? with _ | s
 ·rfl
 ·cases s <;> rfl
theorem frzS_own (ws:List W) (i:Nat) (ρ:Rho):frzS (some (.own ws)) i ρ=ρ.set i (.val (.lst ws)):=rfl
theorem frzS_val (w:W) (i:Nat) (ρ:Rho):frzS (some (.val w)) i ρ=ρ:=rfl
theorem frzS_par (w:W) (i:Nat) (ρ:Rho):frzS (some (.par w)) i ρ=ρ:=rfl
theorem frzS_un (i:Nat) (ρ:Rho):frzS (some .un) i ρ=ρ:=rfl
def rdS (d:Mode):Option Sl->R W
 | some (.val w)=>(match d with | .F=>chk w | _=>.ok w)
 | some (.par w)=>(match d with | .F=>chk w | .V=>chk w | .C=>chk w | _=>.ok w)
 | some (.own ws)=>(match d with | .C=>.ok (.lst ws) | .B=>.ok (.lst ws) | _=>.stuck)
 | some (.iop _ ws)=>(match d with | .B=>.ok (.lst ws) | .U=>.ok (.lst ws) | _=>.stuck)
 | some (.hz w)=>(match d with | .B=>.ok w | .U=>.ok w | _=>.stuck)
 | _=>.stuck
theorem mVar_ap (d:Mode) (i:Nat) (ρ:Rho):mVar d i ρ=rdS d (ρ[i]?):=by
 unfold mVar rdS
 rfl
theorem rdS_vF (w:W):rdS .F (some (.val w))=chk w:=rfl
theorem rdS_vV (w:W):rdS .V (some (.val w))=.ok w:=rfl
theorem rdS_vU (w:W):rdS .U (some (.val w))=.ok w:=rfl
theorem rdS_vC (w:W):rdS .C (some (.val w))=.ok w:=rfl
theorem rdS_vB (w:W):rdS .B (some (.val w))=.ok w:=rfl
theorem rdS_pF (w:W):rdS .F (some (.par w))=chk w:=rfl
theorem rdS_pV (w:W):rdS .V (some (.par w))=chk w:=rfl
theorem rdS_pU (w:W):rdS .U (some (.par w))=.ok w:=rfl
theorem rdS_pC (w:W):rdS .C (some (.par w))=chk w:=rfl
theorem rdS_pB (w:W):rdS .B (some (.par w))=.ok w:=rfl
theorem rdS_oC (ws:List W):rdS .C (some (.own ws))=.ok (.lst ws):=rfl
theorem rdS_oB (ws:List W):rdS .B (some (.own ws))=.ok (.lst ws):=rfl
def retS (d:Mode):Option Sl->R Fl
 | some (.own ws)=>.ok (.rt (.lst ws))
 | o=>rdS d o>>=retK
theorem mRetVar_ap (d:Mode) (i:Nat) (ρ:Rho):mRetVar d i ρ=retS d (ρ[i]?):=by
 unfold mRetVar retS
 rw [mVar_ap]
 rcases h:ρ[i]? with _ | s
 ·rfl
 ·cases s <;> rfl
theorem retS_own (d:Mode) (ws:List W):retS d (some (.own ws))=.ok (.rt (.lst ws)):=rfl
theorem retS_val (d:Mode) (w:W):retS d (some (.val w))=(rdS d (some (.val w))>>=retK):=rfl
theorem retS_par (d:Mode) (w:W):retS d (some (.par w))=(rdS d (some (.par w))>>=retK):=rfl
def appS (o:Option Sl) (r:R W) (i:Nat) (ρ:Rho):R Fl:=match o with
 | some (.own ws)=>r>>=fun w=>if ws.length<1000 then .ok (.nx (ρ.set i (.own (ws ++ [w])))) else .stuck
 | _=>.stuck
theorem mApp_ap (i:Nat) (m:Rho->R W) (ρ:Rho):mApp i m ρ=appS (ρ[i]?) (m ρ) i ρ:=rfl
theorem appS_ok (ws:List W) (w:W) (i:Nat) (ρ:Rho):appS (some (.own ws)) (.ok w) i ρ=if ws.length<1000 then .ok (.nx (ρ.set i (.own (ws ++ [w])))) else .stuck:=rfl
def setS (o:Option Sl) (a b:R W) (i:Nat) (ρ:Rho):R Fl:=match o with
 | some (.own ws)=>b>>=fun w=>a>>=fun k=>(match k with
  | .int k=>(match ixN ws.length k with
   | some j=>.ok (.nx (ρ.set i (.own (ws.set j w))))
   | none=>.stuck)
  | _=>.stuck)
 | _=>.stuck
theorem mSet_ap (i:Nat) (mk me:Rho->R W) (ρ:Rho):mSet i mk me ρ=setS (ρ[i]?) (mk ρ) (me ρ) i ρ:=rfl
def setJ (o:Option Nat) (ws:List W) (w:W) (i:Nat) (ρ:Rho):R Fl:=match o with
 | some j=>.ok (.nx (ρ.set i (.own (ws.set j w))))
 | none=>.stuck
theorem setS_ok (ws:List W) (w:W) (k:Int) (i:Nat) (ρ:Rho):setS (some (.own ws)) (.ok (.int k)) (.ok w) i ρ=setJ (ixN ws.length k) ws w i ρ:=rfl
theorem setJ_some (j:Nat) (ws:List W) (w:W) (i:Nat) (ρ:Rho):setJ (some j) ws w i ρ=.ok (.nx (ρ.set i (.own (ws.set j w)))):=rfl
def augS (f:Int->Int->Int) (a b:R W) (i:Nat) (ρ:Rho):R Fl:=a>>=fun x=>b>>=fun y=>match x,y with
 | .int a,.int b=>.ok (.nx (ρ.set i (.val (.int (f a b)))))
 | _,_=>.stuck
theorem mAug_ap (i:Nat) (f:Int->Int->Int) (m:Rho->R W) (ρ:Rho):mAug i f m ρ=augS f (rdS .B (ρ[i]?)) (m ρ) i ρ:=by
 rw [<- mVar_ap]; rfl
theorem augS_ok (f:Int->Int->Int) (a b:Int) (i:Nat) (ρ:Rho):augS f (.ok (.int a)) (.ok (.int b)) i ρ=.ok (.nx (ρ.set i (.val (.int (f a b))))):=rfl
def ifS (c:R Bool) (m n:Rho->R Fl) (ρ:Rho):R Fl:=c>>=fun b=>if b then m ρ else n ρ
theorem mIf_ap (c:Rho->R Bool) (m n:Rho->R Fl) (ρ:Rho):mIf c m n ρ=ifS (c ρ) m n ρ:=rfl
theorem ifS_tt (m n:Rho->R Fl) (ρ:Rho):ifS (.ok true) m n ρ=m ρ:=rfl
theorem ifS_ff (m n:Rho->R Fl) (ρ:Rho):ifS (.ok false) m n ρ=n ρ:=rfl
def endB (r:R Fl):R W:=r>>=fun f=>match f with
 | .rt w=>.ok w
 | .nx _=>.ok .non
 | _=>.stuck
theorem runB_ap {n N:Nat} {m:Rho->R Fl} {ws:List W} (h:ws.length=n):runB n N m ws=endB (m (ws.map Sl.par++List.replicate (N-n) Sl.un)):=by unfold runB; rw [if_pos h]; rfl
theorem runB_1 {N:Nat} {m:Rho->R Fl} (a:W):runB 1 N m [a]=endB (m (Sl.par a::List.replicate (N-1) Sl.un)):=runB_ap rfl
theorem runB_2 {N:Nat} {m:Rho->R Fl} (a b:W):runB 2 N m [a,b]=endB (m (Sl.par a::Sl.par b::List.replicate (N-2) Sl.un)):=runB_ap rfl
theorem runB_3 {N:Nat} {m:Rho->R Fl} (a b c:W):runB 3 N m [a,b,c]=endB (m (Sl.par a::Sl.par b::Sl.par c::List.replicate (N-3) Sl.un)):=runB_ap rfl
theorem runB_4 {N:Nat} {m:Rho->R Fl} (a b c d:W):runB 4 N m [a,b,c,d]=endB (m (Sl.par a::Sl.par b::Sl.par c::Sl.par d::List.replicate (N-4) Sl.un)):=runB_ap rfl
theorem runB_5 {N:Nat} {m:Rho->R Fl} (a b c d e:W):runB 5 N m [a,b,c,d,e]=endB (m (Sl.par a::Sl.par b::Sl.par c::Sl.par d::Sl.par e::List.replicate (N-5) Sl.un)):=runB_ap rfl
theorem endB_rt (w:W):endB (.ok (.rt w))=.ok w:=rfl
theorem endB_nx (ρ:Rho):endB (.ok (.nx ρ))=.ok .non:=rfl
theorem fI0_ii (g:Int->Int->W) (i j:Int):fI0 g (.int i) (.int j)=.ok (g i j):=rfl
theorem fU_i (g:Int->W) (i:Int):fU g (.int i)=.ok (g i):=rfl
theorem fIx_l (ws:List W) (i:Int):fIx (.lst ws) (.int i)=toR (L2.atI ws i):=rfl
theorem fIx_t (ws:List W) (i:Int):fIx (.tup ws) (.int i)=toR (L2.atI ws i):=rfl
theorem fIx_s (ws:List W) (i:Int):fIx (.scr ws) (.int i)=toR (L2.atI ws i):=rfl
theorem toR_some {α:Type} (a:α):toR (some a)=.ok a:=rfl
theorem toB_bl (b:Bool):toB (.bl b)=.ok b:=rfl
theorem fLen_l (ws:List W):fLen [.lst ws]=.ok (.int ws.length):=rfl
theorem fLen_t (ws:List W):fLen [.tup ws]=.ok (.int ws.length):=rfl
theorem fLen_s (ws:List W):fLen [.scr ws]=.ok (.int ws.length):=rfl
theorem fList_l (c:Bool) (ws:List W):fList c [.lst ws]=chks c ws:=rfl
theorem fList_t (c:Bool) (ws:List W):fList c [.tup ws]=chks c ws:=rfl
theorem fTup_l (c:Bool) (ws:List W):fTup c [.lst ws]=chkT c ws:=rfl
theorem fTup_t (c:Bool) (ws:List W):fTup c [.tup ws]=chkT c ws:=rfl
theorem chks_t (ws:List W):chks true ws=.ok (.lst ws):=rfl
theorem chkT_t (ws:List W):chkT true ws=.ok (.tup ws):=rfl
theorem chks_no {c:Bool} {ws:List W} (h:noLs ws=true):chks c ws=.ok (.lst ws):=by unfold chks; rw [h,Bool.or_true,if_pos rfl]
theorem chkT_no {c:Bool} {ws:List W} (h:noLs ws=true):chkT c ws=.ok (.tup ws):=by unfold chkT; rw [h,Bool.or_true,if_pos rfl]
theorem chks_I (c:Bool) (ns:List Int):chks c (ns.map W.int)=.ok (.lst (ns.map W.int)):=chks_no (noLs_ints ns)
theorem chkT_I (c:Bool) (ns:List Int):chkT c (ns.map W.int)=.ok (.tup (ns.map W.int)):=chkT_no (noLs_ints ns)
theorem chk_no {w:W} (h:noL w=true):chk w=.ok w:=by unfold chk; rw [if_pos h]
theorem chk_int (i:Int):chk (.int i)=.ok (.int i):=rfl
theorem chk_bl (i:Bool):chk (.bl i)=.ok (.bl i):=rfl
theorem chk_str (i:Str):chk (.str i)=.ok (.str i):=rfl
theorem chk_non:chk .non=.ok .non:=rfl
theorem chk_tI (ns:List Int):chk (.tup (ns.map W.int))=.ok (.tup (ns.map W.int)):=chk_no (noLs_ints ns)
theorem f2_ii (g:Int->Int->Int) (i j:Int):f2 g [.int i,.int j]=.ok (.int (g i j)):=rfl
theorem seqW_l (ws:List W):seqW (.lst ws)=.ok ws:=rfl
theorem seqW_t (ws:List W):seqW (.tup ws)=.ok ws:=rfl
theorem seqW_s (ws:List W):seqW (.scr ws)=.ok ws:=rfl
theorem rng1_i (j:Int):rng1 [.int j]=rngW 0 j:=rfl
theorem rng2_i (i j:Int):rng2 [.int i,.int j]=rngW i j:=rfl
theorem gN_U (i:Nat) (w:W) (ρ:Rho):gN .U i w ρ=some (ρ.set i (.par w)):=rfl
theorem gN_V (i:Nat) (w:W) (ρ:Rho):gN .V i w ρ=some (ρ.set i (.val w)):=rfl
theorem gT_t (n:Nat) (g:List W->Rho->Option Rho) (ws:List W) (ρ:Rho):gT n g (.tup ws) ρ=if ws.length=n then g ws ρ else none:=rfl
theorem gsCons_c (f:W->Rho->Option Rho) (g:List W->Rho->Option Rho) (w:W) (ws:List W) (ρ:Rho):gsCons f g (w::ws) ρ=(f w ρ).bind (g ws):=rfl
theorem gsNil_n (ρ:Rho):gsNil [] ρ=some ρ:=rfl
theorem mkTup_ap (ws:List W):mkTup ws=if ws.length<=1000 then .ok (.tup ws) else .stuck:=rfl
theorem mkLst_ap (ws:List W):mkLst ws=if ws.length<=1000 then .ok (.lst ws) else .stuck:=rfl
theorem fIsi_ap (x:W) (T:String):fIsi [x,.ty T]=(toR ((tyW x).bind fun A=>isiB A T)>>=fun b=>.ok (.bl b)):=rfl
theorem isi_nt:isiB "NoneType" "tuple" = some false:=by decide
theorem isi_nl:isiB "NoneType" "list" = some false:=by decide
theorem isi_lt:isiB "list" "tuple" = some false:=by decide
theorem isi_tl:isiB "tuple" "list" = some false:=by decide
theorem fIsN_n (n:Bool) (u:W):fIsN n u .non=.ok (.bl (if n then !isN u else isN u)):=rfl
theorem mapR_all {f:W->R (Option W)} {α:Type} (g:α->W) (s:α->W):∀ (as:List α),(∀ a∈as,f (s a)=.ok (some (g a)))->mapR f (as.map s)=.ok (as.map g):=by
 intro as
 induction as with
 | nil=>exact fun _=>rfl
 | cons a as ih=>
  intro h
  rw [List.map_cons,mapR,h a List.mem_cons_self,ih fun b hb=>h b (List.mem_cons_of_mem _ hb)]
  rfl
theorem mapR_filter {f:W->R (Option W)} {α:Type} (g:α->W) (s:α->W) (c:α->Bool):∀ (as:List α),(∀ a∈as,f (s a)=.ok (if c a then some (g a) else none))->mapR f (as.map s)=.ok ((as.filter c).map g):=by
 intro as
 induction as with
 | nil=>exact fun _=>rfl
 | cons a as ih=>
  intro h
  rw [List.map_cons,mapR,h a List.mem_cons_self,ih fun b hb=>h b (List.mem_cons_of_mem _ hb),List.filter_cons]
  cases c a <;> rfl
theorem mComp_all {N':Nat} {mg:W->Rho->Option Rho} {me:Rho->R W} {α:Type} (g:α->W) (s:α->W) (as:List α) (ρ:Rho) (hl:as.length<=1000)
  (h:∀ a∈as,∃ ρ1,mg (s a) (ρ++List.replicate (N'-ρ.length) Sl.un)=some ρ1/\me ρ1=.ok (g a)):mComp N' mg yes me (as.map s) ρ=.ok (.lst (as.map g)):=by
 unfold mComp
 rw [List.length_map,if_pos hl,mapR_all g s as]
 intro a ha
 obtain ⟨ρ1,e1,e2⟩:=h a ha
 unfold elR
 rw [e1]
 have hy:yes ρ1=.ok true:=rfl
 dsimp only
 rw [hy]
 dsimp only
 rw [e2]
theorem mComp_filter {N':Nat} {mg:W->Rho->Option Rho} {mc:Rho->R Bool} {me:Rho->R W} {α:Type} (g:α->W) (s:α->W) (c:α->Bool) (as:List α) (ρ:Rho) (hl:as.length<=1000)
  (h:∀ a∈as,∃ ρ1,mg (s a) (ρ++List.replicate (N'-ρ.length) Sl.un)=some ρ1/\mc ρ1=.ok (c a)/\(c a=true->me ρ1=.ok (g a))):mComp N' mg mc me (as.map s) ρ=.ok (.lst ((as.filter c).map g)):=by
 unfold mComp
 rw [List.length_map,if_pos hl,mapR_filter g s c as]
 intro a ha
 obtain ⟨ρ1,e1,e2,e3⟩:=h a ha
 unfold elR
 rw [e1]
 dsimp only
 rw [e2]
 cases hc:c a with
 | false=>rfl
 | true=>dsimp only; rw [e3 hc]; rfl
theorem rngW_int {z:Int} (h0:-1000000<=z) (h:z<=1000000):rngW 0 z=.ok ((List.range z.toNat).map fun k=>W.int (k:Nat)):=by
 unfold rngW
 rw [if_pos (by omega)]
 simp
theorem rng_at {n i:Nat} {w:W} (h:((List.range n).map fun k=>W.int (k:Nat))[i]?=some w):i<n/\w=.int (i:Nat):=by
 rw [List.getElem?_map] at h
 cases q:(List.range n)[i]? with
 | none=>rw [q] at h; cases h
 | some k=>
  rw [q] at h
  obtain ⟨h1,h2⟩:=List.getElem?_eq_some_iff.mp q
  simp at h1 h2
  subst h2
  cases h
  exact ⟨h1,rfl⟩
theorem map_at {ns:List Int} {i:Nat} {w:W} (h:(ns.map W.int)[i]?=some w):i<ns.length/\w=.int (ns.getD i 0):=by
 rw [List.getElem?_map] at h
 cases q:ns[i]? with
 | none=>rw [q] at h; cases h
 | some k=>
  rw [q] at h
  cases h
  exact ⟨(List.getElem?_eq_some_iff.mp q).1,by rw [getD_of q]⟩
def cutI (xs:List Int) (lo hi:Option Int):List Int:=(xs.drop (HT.sIx xs.length 0 lo)).take (HT.sIx xs.length xs.length hi-HT.sIx xs.length 0 lo)
theorem cutW_I (ns:List Int) (lo hi:Option Int):cutW (ns.map W.int) lo hi=(cutI ns lo hi).map W.int:=by
 unfold cutW cutI
 rw [List.length_map,<- List.map_drop,<- List.map_take]
theorem cutI_len (ns:List Int) (lo hi:Option Int):(cutI ns lo hi).length<=ns.length:=by
 unfold cutI
 rw [List.length_take,List.length_drop]; omega
theorem setW_I (ns:List Int) (j:Nat) (z:Int):(ns.map W.int).set j (.int z)=(ns.set j z).map W.int:=by rw [List.map_set]
theorem appW_I (ns:List Int) (z:Int):ns.map W.int ++ [.int z]=(ns ++ [z]).map W.int:=by rw [List.map_append]; rfl
theorem repW_I (k:Nat) (z:Int):(List.replicate k [W.int z]).flatten=(List.replicate k z).map W.int:=by
 induction k with
 | zero=>rfl
 | succ k ih=>rw [List.replicate_succ,List.flatten_cons,ih,List.replicate_succ,List.map_cons]; rfl
theorem mapI {α:Type} (as:List α) (f:α->Int):(as.map fun a=>W.int (f a))=(as.map f).map W.int:=by rw [List.map_map]; rfl
theorem vec_getD {n k:Nat} {f:Nat->Int} (h:k<n):((List.range n).map f).getD k 0=f k:=by
 rw [List.getD_eq_getElem?_getD,List.getElem?_map]
 simp [h]
theorem zipW_I2 {a b:List Int} (h:b.length=a.length):(zipW [a.map W.int,b.map W.int]).map W.tup=(List.range a.length).map fun k=>W.tup [.int (a.getD k 0),.int (b.getD k 0)]:=by
 apply List.ext_getElem?
 intro i
 simp only [zipW,List.getElem?_map,List.getElem?_zipWith]
 by_cases hi:i<a.length
 ·rw [some_getD hi,some_getD (ns:=b) (by omega)]; simp [hi]
 ·simp [hi]
theorem zipR_2 (x y:W) (xs ys:List W) (hx:seqW x=.ok xs) (hy:seqW y=.ok ys):zipR [x,y]=.ok ((zipW [xs,ys]).map W.tup):=by
 unfold zipR
 simp only [List.length_cons,List.length_nil,seqWs,hx,hy,Nat.reduceAdd,true_or,if_true]
theorem mul_L {i j:Int} (h:-18446744073709551616<i/\i<18446744073709551616):fI CMul gMul (.int i) (.int j)=.ok (.int (i*j)):=by
 show (if CMul i j then _ else _)=_
 rw [if_pos (.inl (by simpa using h))]
theorem mul_R {i j:Int} (h:-18446744073709551616<j/\j<18446744073709551616):fI CMul gMul (.int i) (.int j)=.ok (.int (i*j)):=by
 show (if CMul i j then _ else _)=_
 rw [if_pos (.inr (by simpa using h))]
theorem mod_ii {i j:Int} (h:0<j):fI cMod gMod (.int i) (.int j)=.ok (.int (i%j)):=by
 show (if cMod i j then _ else _)=_
 rw [if_pos h]
theorem div_ii {i j:Int} (h:0<j/\j<1073741824):fI CDiv gDiv (.int i) (.int j)=.ok (.int (i/j)):=by
 show (if CDiv i j then _ else _)=_
 rw [if_pos (show CDiv i j from h)]
theorem pow_ii {i j:Int} (h:0<=j/\j<=1000000 /\ -18446744073709551616<i/\i<18446744073709551616):fI CPow gPow (.int i) (.int j)=.ok (.int (i^j.toNat)):=by
 show (if CPow i j then _ else _)=_
 rw [if_pos ⟨h.1,h.2.1,by omega⟩]
theorem appS_c {ws:List W} {w:W} {i:Nat} {ρ:Rho} (h:ws.length<1000):appS (some (.own ws)) (.ok w) i ρ=.ok (.nx (ρ.set i (.own (ws ++ [w])))):=by rw [appS_ok,if_pos h]
theorem mkTup_c {ws:List W} (h:ws.length<=1000):mkTup ws=.ok (.tup ws):=by rw [mkTup_ap,if_pos h]
theorem mkLst_c {ws:List W} (h:ws.length<=1000):mkLst ws=.ok (.lst ws):=by rw [mkLst_ap,if_pos h]
theorem fCat_c {c:Bool} {us vs:List W} (h:us.length+vs.length<=1000):fCat c (.lst us) (.lst vs)=chks c (us++vs):=by
 show (if us.length+vs.length<=1000 then _ else _)=_
 rw [if_pos h]
theorem fRep_1 {c:Bool} {z:W} {k:Int} (h:0<=k/\k<=1000):fRep c (.lst [z]) (.int k)=chks c (List.replicate k.toNat [z]).flatten:=by
 show (if [z].length*k.toNat<=1000 /\ -1000<=k/\k<=1000 then _ else _)=_
 rw [if_pos ⟨by simp only [List.length_cons,List.length_nil]; omega,by omega,h.2⟩]
theorem atW_c {ns:List Int} {i:Int} (h:0<=i/\i<ns.length):L2.atI (ns.map W.int) i=some (.int (ns.getD i.toNat 0)):=atW h.1 h.2
theorem ixN_c {n:Nat} {i:Int} (h:0<=i/\i<n):ixN n i=some i.toNat:=ixN_int h.1 h.2
theorem rngW_c {z:Int} (h:-1000000<=z/\z<=1000000):rngW 0 z=.ok ((List.range z.toNat).map fun k=>W.int (k:Nat)):=rngW_int h.1 h.2
def Ok (r:R W) (P:W->Prop):Prop:=∃ w,r=.ok w/\P w
def Po (r:R Fl) (Jn:Rho->Prop) (Jr:W->Prop):Prop:=match r with
 | .ok (.nx ρ)=>Jn ρ
 | .ok (.rt w)=>Jr w
 | _=>False
theorem ok_end {r:R Fl} {P:W->Prop} (h:Po r (fun _=>P .non) P):Ok (endB r) P:=by
 cases r with
 | ex _=>exact h.elim
 | stuck=>exact h.elim
 | ok f=>cases f with
  | nx ρ=>exact ⟨_,rfl,h⟩
  | rt w=>exact ⟨_,rfl,h⟩
  | bk _=>exact h.elim
  | ct _=>exact h.elim
theorem po_seq {r:R Fl} {n:Rho->R Fl} {Jn:Rho->Prop} {Jr:W->Prop} (h:Po r (fun ρ=>Po (n ρ) Jn Jr) Jr):Po (andThen r n) Jn Jr:=by
 cases r with
 | ex _=>exact h.elim
 | stuck=>exact h.elim
 | ok f=>cases f with
  | nx ρ=>exact h
  | rt w=>exact h
  | bk _=>exact h.elim
  | ct _=>exact h.elim
theorem po_nx {ρ:Rho} {Jn:Rho->Prop} {Jr:W->Prop}:Po (.ok (.nx ρ)) Jn Jr=Jn ρ:=rfl
theorem po_rt {w:W} {Jn:Rho->Prop} {Jr:W->Prop}:Po (.ok (.rt w)) Jn Jr=Jr w:=rfl
theorem po_if {b:Bool} {m n:Rho->R Fl} {ρ:Rho} {Jn:Rho->Prop} {Jr:W->Prop} (h1:b=true->Po (m ρ) Jn Jr) (h2:b=false->Po (n ρ) Jn Jr):Po (ifS (.ok b) m n ρ) Jn Jr:=by
 cases b with
 | true=>exact h1 rfl
 | false=>exact h2 rfl
theorem po_ifs {b:Bool} {m n:Rho->R Fl} {ρ:Rho} {k:Rho->R Fl} {Jn:Rho->Prop} {Jr:W->Prop} (h1:b=true->Po (andThen (m ρ) k) Jn Jr) (h2:b=false->Po (andThen (n ρ) k) Jn Jr):Po (andThen (ifS (.ok b) m n ρ) k) Jn Jr:=by
 cases b with
 | true=>exact h1 rfl
 | false=>exact h2 rfl
theorem Po.mono {r:R Fl} {Jn Jn':Rho->Prop} {Jr Jr':W->Prop} (h:Po r Jn Jr) (h1:∀ ρ,Jn ρ->Jn' ρ) (h2:∀ w,Jr w->Jr' w):Po r Jn' Jr':=by
 cases r with
 | ex _=>exact h
 | stuck=>exact h
 | ok f=>cases f with
  | nx ρ=>exact h1 ρ h
  | rt w=>exact h2 w h
  | bk _=>exact h
  | ct _=>exact h
theorem po_for_go {mg:W->Rho->Option Rho} {mb:Rho->R Fl} {Jr:W->Prop} (I:Nat->Rho->Prop):∀ (ws:List W) (k:Nat) (ρ:Rho),I k ρ ->
  (∀ (i:Nat) (w:W) (ρ:Rho),ws[i]?=some w->I (k+i) ρ->∃ ρ1,mg w ρ=some ρ1/\Po (mb ρ1) (I (k+i+1)) Jr)->Po (mFor mg mb ws ρ) (I (k+ws.length)) Jr:=by
 intro ws
 induction ws with
 | nil=>exact fun k ρ h _=>h
 | cons w ws ih=>
  intro k ρ h st
  obtain ⟨ρ1,e1,p⟩:=st 0 w ρ rfl h
  unfold mFor
  rw [e1]
  show Po (mb ρ1>>=_) _ _
  revert p
  cases mb ρ1 with
  | ex _=>exact fun p=>p.elim
  | stuck=>exact fun p=>p.elim
  | ok f=>cases f with
   | bk _=>exact fun p=>p.elim
   | ct _=>exact fun p=>p.elim
   | rt w=>exact fun p=>p
   | nx ρ2=>
    intro p
    have:=ih (k+1) ρ2 p fun i w ρ hw hp=>by
     have:=st (i+1) w ρ hw (by rw [<- Nat.succ_add_eq_add_succ k i]; exact hp)
     rw [<- Nat.succ_add_eq_add_succ k i] at this
     exact this
    rw [List.length_cons,<- Nat.succ_add_eq_add_succ k ws.length]
    exact this
theorem po_for {mg:W->Rho->Option Rho} {mb:Rho->R Fl} {ws:List W} {ρ:Rho} {Jn:Rho->Prop} {Jr:W->Prop} (I:Nat->Rho->Prop) (h0:I 0 ρ)
  (st:∀ (i:Nat) (w:W) (ρ:Rho),ws[i]?=some w->I i ρ->∃ ρ1,mg w ρ=some ρ1/\Po (mb ρ1) (I (i+1)) Jr) (hn:∀ ρ,I ws.length ρ->Jn ρ):Po (mFor mg mb ws ρ) Jn Jr:=by
 have:=po_for_go (mg:=mg) (mb:=mb) (Jr:=Jr) I ws 0 ρ h0 fun i w ρ hw hp=>by rw [Nat.zero_add] at hp ⊢; exact st i w ρ hw hp
 rw [Nat.zero_add] at this
 exact this.mono hn fun _ h=>h
theorem po_fors {mg:W->Rho->Option Rho} {mb n:Rho->R Fl} {ws:List W} {ρ:Rho} {Jn:Rho->Prop} {Jr:W->Prop} (I:Nat->Rho->Prop) (h0:I 0 ρ)
  (st:∀ (i:Nat) (w:W) (ρ:Rho),ws[i]?=some w->I i ρ->∃ ρ1,mg w ρ=some ρ1/\Po (mb ρ1) (I (i+1)) Jr) (hn:∀ ρ,I ws.length ρ->Po (n ρ) Jn Jr):Po (andThen (mFor mg mb ws ρ) n) Jn Jr:=po_seq (po_for I h0 st hn)
theorem po_while {c:Rho->R Bool} {b:Rho->R Fl} {Jn:Rho->Prop} {Jr:W->Prop} (I:Nat->Rho->Prop)
  (st:∀ m ρ,I m ρ->∃ t,c ρ=.ok t/\if t=true then Po (b ρ) (fun ρ'=>∃ m',m'<m/\I m' ρ') Jr else Jn ρ):∀ (m:Nat) (ρ:Rho),I m ρ->Po (mWhile c b ρ) Jn Jr:=by
 have key:∀ (m:Nat) (ρ:Rho),I m ρ->∃ r,iterW c b (m+1) ρ=some r/\Po r Jn Jr:=by
  intro m
  induction m using Nat.strongRecOn with
  | ind m ih=>
   intro ρ h
   obtain ⟨t,e,q⟩:=st m ρ h
   unfold iterW
   rw [e]
   cases t with
   | false=>rw [if_neg Bool.false_ne_true] at q; exact ⟨_,rfl,q⟩
   | true=>
    rw [if_pos rfl] at q
    dsimp only
    revert q
    cases b ρ with
    | ex _=>exact fun q=>q.elim
    | stuck=>exact fun q=>q.elim
    | ok f=>cases f with
     | bk _=>exact fun q=>q.elim
     | ct _=>exact fun q=>q.elim
     | rt w=>exact fun q=>⟨_,rfl,q⟩
     | nx ρ'=>
      intro ⟨m',hm,h'⟩
      obtain ⟨r,e',q'⟩:=ih m' hm ρ' h'
      exact ⟨r,iterW_more (m'+1) ρ' r e' m (by omega),q'⟩
 intro m ρ h
 obtain ⟨r,e,q⟩:=key m ρ h
 rw [mWhile_eq e]
 exact q
theorem mapR_ex {f:W->R (Option W)} {α:Type} (s:α->W) (p:α->Int->Prop):∀ (as:List α),(∀ a∈as,∃ z,f (s a)=.ok (some (.int z))/\p a z)->∃ zs:List Int,mapR f (as.map s)=.ok (zs.map W.int)/\Paired p as zs
 | [],_=>⟨[],rfl,.nil⟩
 | a::as,h=>by
  obtain ⟨z,e,hz⟩:=h a (by simp)
  obtain ⟨zs,e2,hp⟩:=mapR_ex s p as fun b hb=>h b (by simp [hb])
  refine ⟨z::zs,?_,.cons hz hp⟩
  rw [List.map_cons,mapR,e,e2]; rfl
theorem mComp_ints {N':Nat} {mg:W->Rho->Option Rho} {me:Rho->R W} {α:Type} {as:List α} {s:α->W} {ρ:Rho} (p:α->Int->Prop) (hl:as.length<=1000)
  (h:∀ a∈as,∃ ρ1,mg (s a) (ρ++List.replicate (N'-ρ.length) Sl.un)=some ρ1/\Ok (me ρ1) fun w=>∃ z,w=.int z/\p a z):∃ zs:List Int,mComp N' mg yes me (as.map s) ρ=.ok (lI zs)/\Paired p as zs:=by
 obtain ⟨zs,e,hp⟩:=mapR_ex (f:=elR mg yes me (ρ++List.replicate (N'-ρ.length) Sl.un)) s p as fun a ha=>by
  obtain ⟨ρ1,e1,w,e2,z,rfl,hz⟩:=h a ha
  refine ⟨z,?_,hz⟩
  unfold elR
  rw [e1]
  have hy:yes ρ1=.ok true:=rfl
  dsimp only
  rw [hy]
  dsimp only
  rw [e2]
 refine ⟨zs,?_,hp⟩
 unfold mComp
 rw [List.length_map,if_pos hl,e]
def OkL (r:R (List W)) (P:List W->Prop):Prop:=∃ w,r=.ok w/\P w
theorem po_set {r:R W} {f:W->Sl} {i:Nat} {ρ:Rho} {Jn:Rho->Prop} {Jr:W->Prop} (h:Ok r fun w=>Jn (ρ.set i (f w))):Po (Rset r f i ρ) Jn Jr:=by
 obtain ⟨w,rfl,q⟩:=h; exact q
theorem po_sets {r:R W} {f:W->Sl} {i:Nat} {ρ:Rho} {n:Rho->R Fl} {Jn:Rho->Prop} {Jr:W->Prop} (h:Ok r fun w=>Po (n (ρ.set i (f w))) Jn Jr):Po (andThen (Rset r f i ρ) n) Jn Jr:=po_seq (po_set h)
theorem ok_bindL {r:R (List W)} {f:List W->R W} {P:W->Prop} (h:OkL r fun w=>Ok (f w) P):Ok (r>>=f) P:=by
 obtain ⟨w,rfl,q⟩:=h; exact q
theorem okL_1 {a:R W} {xs:List W} {P:List W->Prop} (h:Ok a fun x=>P (x::xs)):OkL (Rcons a (.ok xs)) P:=by
 obtain ⟨w,rfl,q⟩:=h; exact ⟨_,rfl,q⟩
theorem ok_comp {N':Nat} {mg:W->Rho->Option Rho} {me:Rho->R W} {α:Type} {as:List α} {s:α->W} {ρ:Rho} {P:W->Prop} (p:α->Int->Prop) (hl:as.length<=1000)
  (h:∀ a∈as,∃ ρ1,mg (s a) (ρ++List.replicate (N'-ρ.length) Sl.un)=some ρ1/\Ok (me ρ1) fun w=>∃ z,w=.int z/\p a z) (hp:∀ zs,Paired p as zs->P (lI zs)):Ok (mComp N' mg yes me (as.map s) ρ) P:=by
 obtain ⟨zs,e,q⟩:=mComp_ints (mg:=mg) (me:=me) (ρ:=ρ) (N':=N') p hl h
 exact ⟨_,e,hp zs q⟩
theorem ok_tcomp {N':Nat} {mg:W->Rho->Option Rho} {me:Rho->R W} {α:Type} {as:List α} {s:α->W} {ρ:Rho} {P:W->Prop} {c:Bool} (p:α->Int->Prop) (hl:as.length<=1000)
  (h:∀ a∈as,∃ ρ1,mg (s a) (ρ++List.replicate (N'-ρ.length) Sl.un)=some ρ1/\Ok (me ρ1) fun w=>∃ z,w=.int z/\p a z) (hp:∀ zs,Paired p as zs->P (tI zs)):Ok (Rcons (mComp N' mg yes me (as.map s) ρ) (.ok [])>>=fTup c) P:=
 ok_bindL (okL_1 (ok_comp p hl h fun zs q=>⟨_,by rw [fTup_l,chkT_I],hp zs q⟩))
theorem set_getD {ns:List Int} {j k:Nat} {z:Int} (h:k<ns.length):(ns.set j z).getD k 0=if j=k then z else ns.getD k 0:=by
 rw [List.getD_eq_getElem?_getD,List.getElem?_set,List.getD_eq_getElem?_getD]
 by_cases e:j=k
 ·subst e; simp [h]
 ·simp [e]
theorem set_all {ns:List Int} {P:Int->Prop} (h:∀ x∈ns,P x) {j:Nat} {z:Int} (hz:P z):∀ x∈ns.set j z,P x:=fun x hx=>by
 rcases List.mem_or_eq_of_mem_set hx with h1 | h1
 ·exact h x h1
 ·rw [h1]; exact hz
theorem gMax_max (i j:Int):gMax i j=max i j:=by unfold gMax; omega
theorem gMin_min (i j:Int):gMin i j=min i j:=by unfold gMin; omega
def oW:Option Int->W
 | none=>.non
 | some i=>.int i
theorem oW_n:oW none=.non:=rfl
theorem oW_s (i:Int):oW (some i)=.int i:=rfl
theorem noL_oW (o:Option Int):noL (oW o)=true:=by cases o <;> rfl
theorem chk_oW (o:Option Int):chk (oW o)=.ok (oW o):=chk_no (noL_oW o)
theorem noLs_map {α:Type} (f:α->W) (h:∀ a,noL (f a)=true) (as:List α):noLs (as.map f)=true:=by
 induction as with
 | nil=>rfl
 | cons a as ih=>rw [List.map_cons]; simp only [noLs,h,ih,Bool.and_self]
theorem noLs_oW (cs:List (Option Int)):noLs (cs.map oW)=true:=noLs_map oW noL_oW cs
theorem chks_O (c:Bool) (cs:List (Option Int)):chks c (cs.map oW)=.ok (.lst (cs.map oW)):=chks_no (noLs_oW cs)
theorem chkT_O (c:Bool) (cs:List (Option Int)):chkT c (cs.map oW)=.ok (.tup (cs.map oW)):=chkT_no (noLs_oW cs)
theorem isN_oW (o:Option Int):isN (oW o)=o.isNone:=by cases o <;> rfl
theorem slotF_oW (o:Option Int):slotF (oW o)=.val (oW o):=by cases o <;> rfl
theorem at_map {α:Type} (f:α->W) {as:List α} {d:α} {i:Int} (h:0<=i/\i<as.length):L2.atI (as.map f) i=some (f (as.getD i.toNat d)):=by
 unfold L2.atI
 rw [List.length_map,ixN_int h.1 h.2]
 show (as.map f)[i.toNat]?=_
 have hi:i.toNat<as.length:=by omega
 rw [List.getElem?_map,List.getD_eq_getElem?_getD]
 simp [hi]
theorem atO_c {cs:List (Option Int)} {i:Int} (h:0<=i/\i<cs.length):L2.atI (cs.map oW) i=some (oW (cs.getD i.toNat none)):=at_map oW h
theorem appO (cs:List (Option Int)) (o:Option Int):cs.map oW ++ [oW o]=(cs ++ [o]).map oW:=by rw [List.map_append]; rfl
theorem noL_tI (ns:List Int):noL (tI ns)=true:=noLs_ints ns
theorem noLs_S (ss:List (List Int)):noLs (ss.map tI)=true:=noLs_map tI noL_tI ss
theorem chks_S (c:Bool) (ss:List (List Int)):chks c (ss.map tI)=.ok (.lst (ss.map tI)):=chks_no (noLs_S ss)
theorem chkT_S (c:Bool) (ss:List (List Int)):chkT c (ss.map tI)=.ok (.tup (ss.map tI)):=chkT_no (noLs_S ss)
theorem atS_c {ss:List (List Int)} {i:Int} (h:0<=i/\i<ss.length):L2.atI (ss.map tI) i=some (tI (ss.getD i.toNat [])):=at_map tI h
theorem appW_S (ss:List (List Int)) (s:List Int):ss.map tI ++ [tI s]=(ss ++ [s]).map tI:=by rw [List.map_append]; rfl
def cutL {α:Type} (xs:List α) (lo hi:Option Int):List α:=(xs.drop (HT.sIx xs.length 0 lo)).take (HT.sIx xs.length xs.length hi-HT.sIx xs.length 0 lo)
theorem cutW_map {α:Type} (f:α->W) (as:List α) (lo hi:Option Int):cutW (as.map f) lo hi=(cutL as lo hi).map f:=by
 unfold cutW cutL
 rw [List.length_map,<- List.map_drop,<- List.map_take]
theorem cutW_S (ss:List (List Int)) (lo hi:Option Int):cutW (ss.map tI) lo hi=(cutL ss lo hi).map tI:=cutW_map tI ss lo hi
theorem catW_S (ss ts:List (List Int)):ss.map tI++ts.map tI=(ss++ts).map tI:=by rw [List.map_append]
theorem catW_I (ss ts:List Int):ss.map W.int++ts.map W.int=(ss++ts).map W.int:=by rw [List.map_append]
theorem mapR_exf {f:W->R (Option W)} {α β:Type} (s:α->W) (g:β->W) (p:α->β->Prop):∀ (as:List α),(∀ a∈as,∃ z,f (s a)=.ok (some (g z))/\p a z)->∃ zs:List β,mapR f (as.map s)=.ok (zs.map g)/\Paired p as zs
 | [],_=>⟨[],rfl,.nil⟩
 | a::as,h=>by
  obtain ⟨z,e,hz⟩:=h a (by simp)
  obtain ⟨zs,e2,hp⟩:=mapR_exf s g p as fun b hb=>h b (by simp [hb])
  refine ⟨z::zs,?_,.cons hz hp⟩
  rw [List.map_cons,mapR,e,e2]; rfl
theorem ok_compf {N':Nat} {mg:W->Rho->Option Rho} {me:Rho->R W} {α β:Type} {as:List α} {s:α->W} {ρ:Rho} {P:W->Prop} (g:β->W) (p:α->β->Prop) (hl:as.length<=1000)
  (h:∀ a∈as,∃ ρ1,mg (s a) (ρ++List.replicate (N'-ρ.length) Sl.un)=some ρ1/\Ok (me ρ1) fun w=>∃ z,w=g z/\p a z) (hp:∀ zs:List β,Paired p as zs->P (.lst (zs.map g))):Ok (mComp N' mg yes me (as.map s) ρ) P:=by
 obtain ⟨zs,e,q⟩:=mapR_exf (f:=elR mg yes me (ρ++List.replicate (N'-ρ.length) Sl.un)) s g p as fun a ha=>by
  obtain ⟨ρ1,e1,w,e2,z,rfl,hz⟩:=h a ha
  refine ⟨z,?_,hz⟩
  unfold elR
  rw [e1]
  have hy:yes ρ1=.ok true:=rfl
  dsimp only
  rw [hy]
  dsimp only
  rw [e2]
 refine ⟨_,?_,hp zs q⟩
 unfold mComp
 rw [List.length_map,if_pos hl,e]
theorem paired_all {α β:Type} {p:α->β->Prop} {P:β->Prop} {as:List α} {zs:List β} (h:Paired p as zs) (hp:∀ a z,p a z->P z):∀ z∈zs,P z:=by
 induction h with
 | nil=>intro z hz; cases hz
 | cons h1 _ ih=>
  intro z hz
  rcases List.mem_cons.mp hz with rfl | hz
  ·exact hp _ _ h1
  ·exact ih z hz
theorem rngW_2 {lo hi:Int} (h:-1000000<=lo/\lo<=1000000 /\ -1000000<=hi/\hi<=1000000):rngW lo hi=.ok ((List.range (hi-lo).toNat).map fun k=>W.int (lo+(k:Nat))):=by
 unfold rngW
 rw [if_pos h]
theorem shps_map {α:Type} (f:α->W) (n:Nat) (h:∀ a,shp n (f a)=true) (as:List α):shps n (as.map f)=true:=by
 induction as with
 | nil=>rfl
 | cons a as ih=>rw [List.map_cons]; simp only [shps,h,ih,Bool.and_self]
theorem shp_int (n:Nat) (i:Int):shp n (.int i)=true:=by cases n <;> rfl
theorem shp_bl (n:Nat) (b:Bool):shp n (.bl b)=true:=by cases n <;> rfl
theorem shp_tI (n:Nat) (ns:List Int):shp (n+1) (tI ns)=true:=shps_map W.int n (shp_int n) ns
theorem shp_lI (n:Nat) (ns:List Int):shp (n+1) (lI ns)=true:=shps_map W.int n (shp_int n) ns
theorem shp_lS (n:Nat) (ss:List (List Int)):shp (n+2) (.lst (ss.map tI))=true:=shps_map tI (n+1) (shp_tI n) ss
theorem eqI:∀ (a b:List Int),PyData.eqvAll (pds (a.map W.int)) (pds (b.map W.int))=decide (a=b)
 | [],[]=>by simp [pds,PyData.eqvAll]
 | [],_::_=>by simp [pds,PyData.eqvAll]
 | _::_,[]=>by simp [pds,PyData.eqvAll]
 | x::a,y::b=>by
  simp only [List.map_cons,pds,pd,PyData.eqvAll,PyData.eqv,eqI a b]
  by_cases h:x=y <;> by_cases h':a=b <;> simp [h,h']
theorem fEq_tI (neg:Bool) (a b:List Int):fEq neg (tI a) (tI b)=.ok (.bl (if neg then !decide (a=b) else decide (a=b))):=by
 unfold fEq
 rw [shp_tI,shp_tI]
 have:eqW (tI a) (tI b)=decide (a=b):=eqI a b
 rw [this]; rfl
theorem fEq_lI (neg:Bool) (a b:List Int):fEq neg (lI a) (lI b)=.ok (.bl (if neg then !decide (a=b) else decide (a=b))):=by
 unfold fEq
 rw [shp_lI,shp_lI]
 have:eqW (lI a) (lI b)=decide (a=b):=eqI a b
 rw [this]; rfl
theorem eqSS:∀ (a b:List (List Int)),PyData.eqvAll (pds (a.map tI)) (pds (b.map tI))=decide (a=b)
 | [],[]=>by simp [pds,PyData.eqvAll]
 | [],_::_=>by simp [pds,PyData.eqvAll]
 | _::_,[]=>by simp [pds,PyData.eqvAll]
 | x::a,y::b=>by
  simp only [List.map_cons,pds,pd,PyData.eqvAll,PyData.eqv,eqSS a b,eqI]
  by_cases h:x=y <;> by_cases h':a=b <;> simp [h,h']
theorem fEq_lS (neg:Bool) (a b:List (List Int)):fEq neg (.lst (a.map tI)) (.lst (b.map tI))=.ok (.bl (if neg then !decide (a=b) else decide (a=b))):=by
 unfold fEq
 rw [shp_lS,shp_lS]
 have:eqW (.lst (a.map tI)) (.lst (b.map tI))=decide (a=b):=eqSS a b
 rw [this]; rfl
theorem fEq_ii (neg:Bool) (i j:Int):fEq neg (.int i) (.int j)=.ok (.bl (if neg then !decide (i=j) else decide (i=j))):=by
 unfold fEq
 rw [shp_int,shp_int]
 have:eqW (.int i) (.int j)=decide (i=j):=by
  by_cases h:i=j <;> simp [eqW,pd,PyData.eqv,h]
 rw [this]; rfl
theorem fEq_bb (neg:Bool) (i j:Bool):fEq neg (.bl i) (.bl j)=.ok (.bl (if neg then !decide (i=j) else decide (i=j))):=by
 unfold fEq
 rw [shp_bl,shp_bl]
 have:eqW (.bl i) (.bl j)=decide (i=j):=by cases i <;> cases j <;> rfl
 rw [this]; rfl
theorem fEq_ni (neg:Bool) (j:Int):fEq neg .non (.int j)=.ok (.bl neg):=by cases neg <;> rfl
theorem fEq_in (neg:Bool) (j:Int):fEq neg (.int j) .non=.ok (.bl neg):=by cases neg <;> rfl
theorem fEq_nn (neg:Bool):fEq neg .non .non=.ok (.bl (!neg)):=by cases neg <;> rfl
theorem fBools_m (g:List Bool->Bool) (bs:List Bool):fBools g [.lst (bs.map W.bl)]=.ok (.bl (g bs)):=by
 show (toR (blsW (bs.map W.bl))>>=_)=_
 rw [bls_map]; rfl
theorem fInts_m (g:List Int->Int) (ns:List Int):fInts g [.lst (ns.map W.int)]=.ok (.int (g ns)):=by
 show (toR (intsW (ns.map W.int))>>=_)=_
 rw [ints_map]; rfl
theorem fInt_i (i:Int):fInt [.int i]=.ok (.int i):=rfl
theorem fInt_b (b:Bool):fInt [.bl b]=.ok (.int (if b then 1 else 0)):=rfl
theorem fAbs_i (i:Int):fAbs [.int i]=.ok (.int (if i<0 then -i else i)):=rfl
def extS (o:Option Sl) (r:R W) (c:Bool) (i:Nat) (ρ:Rho):R Fl:=match o with
 | some (.own ws)=>r>>=fun w=>(match w with
  | .lst us=>if ws.length+us.length<=1000 then (if c||noLs us then .ok (.nx (ρ.set i (.own (ws++us)))) else .stuck) else .stuck
  | _=>.stuck)
 | _=>.stuck
theorem mExt_ap (i:Nat) (c:Bool) (m:Rho->R W) (ρ:Rho):mExt i c m ρ=extS (ρ[i]?) (m ρ) c i ρ:=rfl
theorem extS_c {ws us:List W} {c:Bool} {i:Nat} {ρ:Rho} (h:ws.length+us.length<=1000):extS (some (.own ws)) (.ok (.lst us)) c i ρ=if c||noLs us then .ok (.nx (ρ.set i (.own (ws++us)))) else .stuck:=by
 show (if ws.length+us.length<=1000 then _ else _)=_
 rw [if_pos h]
def revS (o:Option Sl) (i:Nat) (ρ:Rho):R Fl:=match o with
 | some (.own ws)=>.ok (.nx (ρ.set i (.own ws.reverse)))
 | _=>.stuck
theorem mRev_ap (i:Nat) (ρ:Rho):mRev i ρ=revS (ρ[i]?) i ρ:=rfl
theorem revS_ok (ws:List W) (i:Nat) (ρ:Rho):revS (some (.own ws)) i ρ=.ok (.nx (ρ.set i (.own ws.reverse))):=rfl
theorem po_cut {r:R Fl} {n:Rho->R Fl} {Jn:Rho->Prop} {Jr:W->Prop} (J:Rho->Prop) (h1:Po r J Jr) (h2:∀ ρ,J ρ->Po (n ρ) Jn Jr):Po (andThen r n) Jn Jr:=po_seq (h1.mono h2 fun _ h=>h)
theorem gAdd_ap (i j:Int):gAdd i j=.int (i+j):=rfl
theorem gSub_ap (i j:Int):TP.gSub i j=.int (i-j):=rfl
theorem gLt_ap (i j:Int):gLt i j=.bl (decide (i<j)):=rfl
theorem gLe_ap (i j:Int):gLe i j=.bl (decide (i<=j)):=rfl
theorem gGt_ap (i j:Int):gGt i j=.bl (decide (j<i)):=rfl
theorem gGe_ap (i j:Int):gGe i j=.bl (decide (j<=i)):=rfl
theorem gNeg_ap (i:Int):gNeg i=.int (-i):=rfl
theorem gAdd__ap (i j:Int):gAdd_ i j=i+j:=rfl
theorem gSub__ap (i j:Int):gSub_ i j=i-j:=rfl
theorem fStr_i {i:Int} (h:0<=i/\i<1000):fStr [.int i]=.ok (.str (toString i)):=by
 show (if i.natAbs.log2<1920 then _ else _)=_
 rw [if_pos]
 refine Nat.lt_of_le_of_lt (Nat.log2_le_self _) ?_
 omega
theorem fIsB_w (neg:Bool) (u:W) (b:Bool):fIsB neg u (.bl b)=.ok (.bl (if neg then !isBW u b else isBW u b)):=rfl
theorem isBW_i (i:Int) (b:Bool):isBW (.int i) b=false:=rfl
theorem isBW_n (b:Bool):isBW .non b=false:=rfl
theorem isBW_s (x:Str) (b:Bool):isBW (.str x) b=false:=rfl
theorem isBW_t (x:List W) (b:Bool):isBW (.tup x) b=false:=rfl
theorem isBW_l (x:List W) (b:Bool):isBW (.lst x) b=false:=rfl
theorem isBW_b (a b:Bool):isBW (.bl a) b=(a == b):=rfl
def Rcu (c:Bool) (r:R (List W)) (f:List W->R W) (i:Nat) (ρ:Rho):R Fl:=if c then (r>>=fun ws=>f ws>>=fun w=>.ok (.nx (ρ.set i (.par w)))) else .stuck
theorem sCU_ap (i:Nat) (f:List W->R W) (ma:Rho->R (List W)) (ρ:Rho):sCU i f ma ρ=Rcu (noOwn ρ) (ma ρ) f i ρ:=rfl
def Rcu2 (r:R W) (i:Nat) (ρ:Rho):R Fl:=r>>=fun w=>.ok (.nx (ρ.set i (.par w)))
theorem Rcu_t (ws:List W) (f:List W->R W) (i:Nat) (ρ:Rho):Rcu true (.ok ws) f i ρ=Rcu2 (f ws) i ρ:=rfl
theorem Rcu2_ok (w:W) (i:Nat) (ρ:Rho):Rcu2 (.ok w) i ρ=.ok (.nx (ρ.set i (.par w))):=rfl
theorem noOwn_nil:noOwn []=true:=rfl
theorem noOwn_v (w:W) (ρ:Rho):noOwn (.val w::ρ)=noOwn ρ:=rfl
theorem noOwn_p (w:W) (ρ:Rho):noOwn (.par w::ρ)=noOwn ρ:=rfl
theorem noOwn_u (ρ:Rho):noOwn (.un::ρ)=noOwn ρ:=rfl
theorem fBest_t {g:List Int->Int} {ns:List Int} (h:0<ns.length):fBest g [tI ns]=.ok (.int (g ns)):=by
 show (toR (intsW (ns.map W.int))>>=_)=_
 rw [ints_map]
 show (if 0<ns.length then _ else _)=_
 rw [if_pos h]
theorem fBest_l {g:List Int->Int} {ns:List Int} (h:0<ns.length):fBest g [lI ns]=.ok (.int (g ns)):=by
 show (toR (intsW (ns.map W.int))>>=_)=_
 rw [ints_map]
 show (if 0<ns.length then _ else _)=_
 rw [if_pos h]
theorem revW_l (ws:List W):revW [.lst ws]=.ok ws.reverse:=rfl
def rp0:=Z1 (@gMax_max) (Z1 (@gMin_min) (Z1 (@po_nx) (Z1 (@po_rt) (Z1 (@mul_L) (Z1 (@mul_R) (Z1 (@mod_ii) (Z1 (@div_ii) (Z1 (@pow_ii) (Z1 (@appS_c) (Z1 (@mkTup_c) (Z1 (@mkLst_c) (Z1 (@fCat_c) (Z1 (@fRep_1) (Z1 (@atW_c) (Z1 (@ixN_c) (Z1 (@rngW_c) (Z1 (@cutW_I) (Z1 (@setW_I) (Z1 (@appW_I) (Z1 (@repW_I) (Z1 (@mSeq_ap) (Z1 (@andThen_nx) (Z1 (@andThen_rt) (@andThen_bk))))))))))))))))))))))))
def rp1:=Z1 (@andThen_ct) (Z1 (@mC_ap) (Z1 (@b1_ap) (Z1 (@b2_ap) (Z1 (@R2b_ok) (Z1 (@bA_ap) (Z1 (@bI_ap) (Z1 (@bS_ap) (Z1 (@aN_ap) (Z1 (@aC_ap) (Z1 (@Rcons_ok) (Z1 (@bChk_ap) (Z1 (@bTest_ap) (Z1 (@tAnd_ap) (Z1 (@tOr_ap) (Z1 (@tNot_ap) (Z1 (@rAnd_ok) (Z1 (@rAnd_ff) (Z1 (@rAnd_tt) (Z1 (@rOr_ok) (Z1 (@rOr_tt) (Z1 (@rOr_ff) (Z1 (@rNot_ok) (Z1 (@vAnd_ap) (@vOr_ap))))))))))))))))))))))))
def rp2:=Z1 (@vNot_ap) (Z1 (@rAndV_ok) (Z1 (@rAndV_ff) (Z1 (@rAndV_tt) (Z1 (@rOrV_ok) (Z1 (@rOrV_tt) (Z1 (@rOrV_ff) (Z1 (@rNotV_ok) (Z1 (@vIf_ap) (Z1 (@rIfW_tt) (Z1 (@rIfW_ff) (Z1 (@rIfW_ok) (Z1 (@vChain_ap) (Z1 (@Rchain_ii) (Z1 (@vTup_ap) (Z1 (@vLst_ap) (Z1 (@pN_ap) (Z1 (@pS_ap) (Z1 (@partW_int) (Z1 (@vSl_ap) (Z1 (@Rsl_lst) (Z1 (@Rsl_scr) (Z1 (@vComp_ap) (Z1 (@Rcomp_ok) (@sNx_ap))))))))))))))))))))))))
def rp3:=Z1 (@sBk_ap) (Z1 (@sCt_ap) (Z1 (@sDrop_ap) (Z1 (@Rdrop_ok) (Z1 (@sRet_ap) (Z1 (@retK_ap) (Z1 (@sRetN_ap) (Z1 (@sV_ap) (Z1 (@sU_ap) (Z1 (@sF_ap) (Z1 (@Rset_ok) (Z1 (@slotF_lst) (Z1 (@slotF_tup) (Z1 (@slotF_int) (Z1 (@slotF_bl) (Z1 (@slotF_non) (Z1 (@slotF_str) (Z1 (@sG_ap) (Z1 (@Rasg_ok) (Z1 (@toNx_some) (Z1 (@sFor_ap) (Z1 (@Rfor_ok) (Z1 (@sFrz_ap) (Z1 (@frz_ap) (@frzS_own))))))))))))))))))))))))
def rp4:=Z1 (@frzS_val) (Z1 (@frzS_par) (Z1 (@frzS_un) (Z1 (@mVar_ap) (Z1 (@rdS_vF) (Z1 (@rdS_vV) (Z1 (@rdS_vU) (Z1 (@rdS_vC) (Z1 (@rdS_vB) (Z1 (@rdS_pF) (Z1 (@rdS_pV) (Z1 (@rdS_pU) (Z1 (@rdS_pC) (Z1 (@rdS_pB) (Z1 (@rdS_oC) (Z1 (@rdS_oB) (Z1 (@mRetVar_ap) (Z1 (@retS_own) (Z1 (@retS_val) (Z1 (@retS_par) (Z1 (@mApp_ap) (Z1 (@mSet_ap) (Z1 (@setS_ok) (Z1 (@setJ_some) (@mAug_ap))))))))))))))))))))))))
def rp5:=Z1 (@augS_ok) (Z1 (@mIf_ap) (Z1 (@ifS_tt) (Z1 (@ifS_ff) ((((((Z1 (@endB_rt) (Z1 (@endB_nx) (Z1 (@fI0_ii) (Z1 (@fU_i) (Z1 (@fIx_l) (Z1 (@fIx_t) (Z1 (@fIx_s) (Z1 (@toR_some) (Z1 (@toB_bl) (Z1 (@fLen_l) (Z1 (@fLen_t) (Z1 (@fLen_s) (Z1 (@fList_l) (Z1 (@fList_t) (Z1 (@fTup_l) (@fTup_t))))))))))))))))))))))))
def rp6:=Z1 (@chks_t) (Z1 (@chkT_t) (Z1 (@chks_I) (Z1 (@chkT_I) (Z1 (@chk_int) (Z1 (@chk_bl) (Z1 (@chk_str) (Z1 (@chk_non) (Z1 (@chk_tI) (Z1 (@f2_ii) (Z1 (@seqW_l) (Z1 (@seqW_t) (Z1 (@seqW_s) (Z1 (@rng1_i) (Z1 (@rng2_i) (Z1 (@gN_U) (Z1 (@gN_V) (Z1 (@gT_t) (Z1 (@gsCons_c) (Z1 (@gsNil_n) (Z1 (@fIsi_ap) (Z1 (@isi_nt) (Z1 (@isi_nl) (Z1 (@isi_lt) (@isi_tl))))))))))))))))))))))))
def rp7:=Z1 (@fIsN_n) (Z1 (@noLs_ints) (Z1 (@fEqS_ii) (Z1 (@fEqS_bb) (Z1 (@fEqS_ss) (Z1 (@fEqS_nn) (Z1 (@fEqS_ni) (@fEqS_in)))))))
def rp8:=Z1 (@oW_n) (Z1 (@oW_s) (Z1 (@chk_oW) (Z1 (@noLs_oW) (Z1 (@chks_O) (Z1 (@chkT_O) (Z1 (@isN_oW) (Z1 (@slotF_oW) (Z1 (@atO_c) (@appO)))))))))
def rp9:=Z1 (@noLs_S) (Z1 (@chks_S) (Z1 (@chkT_S) (Z1 (@atS_c) (Z1 (@appW_S) (Z1 (@cutW_S) (Z1 (@catW_S) (Z1 (@catW_I) (Z1 (@rngW_2) (Z1 (@fEq_tI) (Z1 (@fEq_lI) (Z1 (@fEq_lS) (Z1 (@fEq_ii) (Z1 (@fEq_bb) (Z1 (@fEq_ni) (Z1 (@fEq_in) (Z1 (@fEq_nn) ((Z1 (@fBools_m) (Z1 (@fInts_m) (Z1 (@fInt_i) (Z1 (@fInt_b) (Z1 (@fAbs_i) (Z1 (@mExt_ap) (Z1 (@extS_c) (Z1 (@mRev_ap) (@revS_ok))))))))))))))))))))))))))
def rp10:=Z1 (@gAdd_ap) (Z1 (@gSub_ap) (Z1 (@gLt_ap) (Z1 (@gLe_ap) (Z1 (@gGt_ap) (Z1 (@gGe_ap) (Z1 (@gNeg_ap) (Z1 (@gAdd__ap) (@gSub__ap))))))))
def rp11:=Z1 (@fStr_i) (Z1 (@fIsB_w) (Z1 (@isBW_i) (Z1 (@isBW_n) (Z1 (@isBW_s) (Z1 (@isBW_t) (Z1 (@isBW_l) (@isBW_b)))))))
def rp12:=Z1 (@sCU_ap) (Z1 (@Rcu_t) (Z1 (@Rcu2_ok) (Z1 (@noOwn_nil) (Z1 (@noOwn_v) (Z1 (@noOwn_p) (@noOwn_u))))))
def rp13:=Z1 (@fBest_t) (Z1 (@fBest_l) (@revW_l))
end TP
set_option maxHeartbeats 4000000
open PySem L2 TP
namespace K56
def m_change:Rho->R Fl:=
 (sRet (bA (fTup true) (aC (vComp 3 (bI zipR (aC (b2 fIx (mVar .B 0) (mC (.int 0))) (aC (b2 fIx (mVar .B 0) (mC (.int 1))) aN))) (gT 2 (gsCons (gN .U 1) (gsCons (gN .U 2) gsNil))) yes (b2 (fI0 gSub) (mVar .B 2) (mVar .B 1))) aN)))
abbrev f_change:List W->R W:=runB 1 1 m_change
def m_shifted:Rho->R Fl:=
 (sRet (bA (fTup true) (aC (vComp 5 (bI zipR (aC (mVar .B 0) (aC (mVar .B 1) aN))) (gT 2 (gsCons (gN .U 3) (gsCons (gN .U 4) gsNil))) yes (b2 (fI0 gAdd) (mVar .B 3) (b2 (fI CMulB gMul) (mVar .B 2) (mVar .B 4)))) aN)))
abbrev f_shifted:List W->R W:=runB 3 3 m_shifted
def m_weigh:Rho->R Fl:=
 (sRet (bA (fInts gSum) (aC (vComp 4 (bI zipR (aC (mVar .B 0) (aC (mVar .B 1) aN))) (gT 2 (gsCons (gN .U 2) (gsCons (gN .U 3) gsNil))) yes (b2 (fI CMulB gMul) (mVar .B 2) (mVar .B 3))) aN)))
abbrev f_weigh:List W->R W:=runB 2 2 m_weigh
def m_unit:Rho->R Fl:=
 (sRet (bA (fTup true) (aC (vComp 3 (bI rng1 (aC (mVar .B 1) aN)) (gN .U 2) yes (vIf (bTest (b2 (fEq false) (mVar .B 2) (mVar .B 0))) (mC (.int 1)) (mC (.int 0)))) aN)))
abbrev f_unit:List W->R W:=runB 2 2 m_unit
def m_lowered:Rho->R Fl:=
 (sRet (bA f_shifted (aC (mVar .B 0) (aC (mVar .B 1) (aC (b1 (fU gNeg) (b2 (fI CDivZ gFz) (b2 fIx (mVar .B 0) (mVar .B 2)) (b2 fIx (mVar .B 1) (mVar .B 2)))) aN)))))
abbrev f_lowered:List W->R W:=runB 3 3 m_lowered
def m_divided:Rho->R Fl:=
 (mSeq (mWhile (bTest (b2 (fEqS true) (b2 fIx (mVar .B 1) (mVar .B 2)) (mC (.int 0)))) (mSeq (sF 3 (bA f_lowered (aC (mVar .B 0) (aC (mVar .B 1) (aC (mVar .B 2) aN)))))
   (mSeq (sV 0 (mVar .V 1))
   (sFrz 3 (sV 1 (mVar .V 3))))))
  (sRet (vTup (aC (mVar .V 0) (aC (mVar .V 1) aN)))))
abbrev f_divided:List W->R W:=runB 3 4 m_divided
def m_gathered:Rho->R Fl:=
 (mSeq (sF 2 (vSl false (mVar .B 0) pN (pS (mC (.int 1)))))
  (mSeq (sFor (bS (vSl false (mVar .B 0) (pS (mC (.int 1))) pN)) (gN .U 3)
   (mSeq (sF 4 (bA f_divided (aC (b2 fIx (mVar .B 2) (mC (.int 0))) (aC (mVar .B 3) (aC (mVar .B 1) aN)))))
   (sF 2 (b2 (fCat true) (b2 (fCat true) (vLst (aC (b2 fIx (mVar .C 4) (mC (.int 0))) aN)) (vSl true (mVar .C 2) (pS (mC (.int 1))) pN)) (vLst (aC (b2 fIx (mVar .C 4) (mC (.int 1))) aN))))))
  (mRetVar .F 2)))
abbrev f_gathered:List W->R W:=runB 2 5 m_gathered
def m_upright:Rho->R Fl:=
 (sRet (vIf (bTest (b2 (fI0 gGt) (b2 fIx (mVar .B 0) (mVar .B 1)) (mC (.int 0)))) (mVar .F 0) (bA (fTup true) (aC (vComp 3 (bS (mVar .B 0)) (gN .U 2) yes (b1 (fU gNeg) (mVar .B 2))) aN))))
abbrev f_upright:List W->R W:=runB 2 2 m_upright
def m_neat:Rho->R Fl:=
 (mSeq (sF 1 (vLst aN))
  (mSeq (sU 2 (mVar .U 0))
  (mSeq (sV 3 (mC (.int 0)))
  (mSeq (mWhile (bTest (b2 (fI0 gGt) (bA fLen (aC (mVar .B 2) aN)) (mC (.int 0)))) (mSeq (sF 2 (bA f_gathered (aC (mVar .B 2) (aC (mVar .B 3) aN))))
   (mSeq (mIf (bTest (b2 (fEqS true) (b2 fIx (b2 fIx (mVar .B 2) (mC (.int 0))) (mVar .B 3)) (mC (.int 0)))) (mSeq (sF 4 (bA f_upright (aC (b2 fIx (mVar .B 2) (mC (.int 0))) (aC (mVar .B 3) aN))))
    (mSeq (sFrz 4 (sF 1 (b2 (fCat true) (vComp 6 (bS (mVar .B 1)) (gN .U 5) yes (bA f_lowered (aC (mVar .B 5) (aC (mVar .B 4) (aC (mVar .B 3) aN))))) (vLst (aC (mVar .V 4) aN)))))
    (sF 2 (vSl true (mVar .C 2) (pS (mC (.int 1))) pN)))) sNx)
   (mAug 3 gAdd_ (mC (.int 1))))))
  (mRetVar .F 1)))))
abbrev f_neat:List W->R W:=runB 1 5 m_neat
def m_balances:Rho->R Fl:=
 (mSeq (sF 2 (vComp 7 (bI rng1 (aC (mVar .B 1) aN)) (gN .U 6) yes (bA f_unit (aC (mVar .B 6) (aC (mVar .B 1) aN)))))
  (mSeq (sFor (bS (mVar .U 0)) (gN .U 3)
   (mSeq (sF 4 (bA f_change (aC (mVar .B 3) aN)))
   (mSeq (sF 5 (bA f_neat (aC (vComp 7 (bS (mVar .B 2)) (gN .U 6) yes (b2 fCatT (vTup (aC (bA f_weigh (aC (mVar .B 6) (aC (mVar .B 4) aN))) aN)) (mVar .B 6))) aN)))
   (sF 2 (vComp 7 (bS (mVar .B 5)) (gN .U 6) (bTest (b2 (fEqS false) (b2 fIx (mVar .B 6) (mC (.int 0))) (mC (.int 0)))) (vSlT (mVar .B 6) (pS (mC (.int 1))) pN))))))
  (mRetVar .F 2)))
abbrev f_balances:List W->R W:=runB 2 6 m_balances
def m_lead_of:Rho->R Fl:=
 (sRet (bChk (b2 fIx (vComp 3 (bI enuW (aC (mVar .B 0) aN)) (gT 2 (gsCons (gN .U 1) (gsCons (gN .U 2) gsNil))) (bTest (b2 (fEqS true) (mVar .B 2) (mC (.int 0)))) (mVar .V 1)) (mC (.int 0)))))
abbrev f_lead_of:List W->R W:=runB 1 1 m_lead_of
def m_shares:Rho->R Fl:=
 (mSeq (sF 2 (vLst aN))
  (mSeq (sV 3 (mVar .V 1))
  (mSeq (sFor (bS (mVar .U 0)) (gN .U 4)
   (mSeq (sF 5 (bA f_lead_of (aC (mVar .B 4) aN)))
   (mSeq (mApp 2 (b2 (fI CDivZ gFz) (b2 fIx (mVar .B 3) (mVar .B 5)) (b2 fIx (mVar .B 4) (mVar .B 5))))
   (sF 3 (bA f_lowered (aC (mVar .B 3) (aC (mVar .B 4) (aC (mVar .B 5) aN))))))))
  (mSeq (mIf (bTest (bA (fBools gAny) (aC (vComp 7 (bS (mVar .B 3)) (gN .U 6) yes (b2 (fEqS true) (mVar .B 6) (mC (.int 0)))) aN))) (sRet (mC .non)) sNx)
  (mRetVar .F 2)))))
abbrev f_shares:List W->R W:=runB 2 6 m_shares
def m__law_cell_at:Rho->R Fl:=
 (mSeq (mIf (bTest (b2 (fI0 gLt) (mVar .B 1) (bA fLen (aC (mVar .B 0) aN)))) (sRet (bChk (b2 fIx (mVar .B 0) (mVar .B 1)))) sNx)
  (sRet (mC (.int 0))))
abbrev f__law_cell_at:List W->R W:=runB 2 2 m__law_cell_at
def m__law_stream:Rho->R Fl:=
 (mSeq (sF 3 (vLst aN))
  (mSeq (sV 4 (b2 (fI cMod gMod) (b2 (fI CMulB gMul) (b2 (fI0 gAdd) (b2 (fI cMod gMod) (mVar .B 0) (mC (.int 1000000000039))) (mC (.int 1))) (b2 (fI0 gAdd) (b2 (fI CMulB gMul) (mVar .B 1) (mVar .B 1)) (mC (.int 48271)))) (mC (.int 1000000000039))))
  (mSeq (sFor (bI rng1 (aC (mVar .B 2) aN)) (gN .U 5)
   (mSeq (sV 4 (b2 (fI cMod gMod) (b2 (fI0 gAdd) (b2 (fI0 gAdd) (b2 (fI0 gAdd) (b2 (fI CMulB gMul) (mVar .B 4) (mVar .B 4)) (b2 (fI CMulB gMul) (mC (.int 48271)) (mVar .B 4))) (mVar .B 5)) (mC (.int 1))) (mC (.int 1000000000039))))
   (mApp 3 (mVar .V 4))))
  (mRetVar .F 3))))
abbrev f__law_stream:List W->R W:=runB 3 6 m__law_stream
def m__law_groups:Rho->R Fl:=
 (mSeq (sF 2 (bA f__law_stream (aC (mVar .B 0) (aC (mC (.int 3)) (aC (mC (.int 3)) aN)))))
  (mSeq (sV 3 (b2 (fI cMod gMod) (b2 fIx (mVar .B 2) (mC (.int 0))) (b2 (fI0 gAdd) (mVar .B 1) (mC (.int 1)))))
  (mSeq (sF 4 (vLst aN))
  (mSeq (mIf (bTest (b2 (fI0 gGt) (mVar .B 3) (mC (.int 0)))) (mApp 4 (vTup (aC (mC (.int 0)) (aC (mVar .V 3) (aC (b2 (fI cMod gMod) (b2 fIx (mVar .B 2) (mC (.int 1))) (mVar .B 3)) aN))))) sNx)
  (mSeq (mIf (bTest (b2 (fI0 gLt) (mVar .B 3) (mVar .B 1))) (mApp 4 (vTup (aC (mVar .V 3) (aC (mVar .V 1) (aC (b2 (fI0 gAdd) (mVar .B 3) (b2 (fI cMod gMod) (b2 fIx (mVar .B 2) (mC (.int 2))) (b2 (fI0 gSub) (mVar .B 1) (mVar .B 3)))) aN))))) sNx)
  (mRetVar .F 4))))))
abbrev f__law_groups:List W->R W:=runB 2 5 m__law_groups
def m__law_weights:Rho->R Fl:=
 (mSeq (sF 3 (bA f__law_stream (aC (mVar .B 0) (aC (mC (.int 4)) (aC (b2 (fI0 gAdd) (mVar .B 1) (mC (.int 1))) aN)))))
  (mSeq (sV 4 (b2 fIx (vLst (aC (mC (.int 9)) (aC (mC (.int 200)) aN))) (b2 (fI cMod gMod) (b2 fIx (mVar .B 3) (mVar .B 1)) (mC (.int 2)))))
  (mSeq (sF 5 (vComp 10 (bI rng1 (aC (mVar .B 1) aN)) (gN .U 9) yes (b2 (fI0 gSub) (b2 (fI cMod gMod) (b2 fIx (mVar .B 3) (mVar .B 9)) (b2 (fI0 gAdd) (b2 (fI CMulB gMul) (mC (.int 2)) (mVar .B 4)) (mC (.int 1)))) (mVar .B 4))))
  (mSeq (sFor (bS (mVar .U 2)) (gT 3 (gsCons (gN .U 6) (gsCons (gN .U 7) (gsCons (gN .U 8) gsNil))))
   (mSet 5 (mVar .B 8) (b2 (fI0 gSub) (mC (.int 1)) (b2 (fI CMulB gMul) (mC (.int 2)) (b2 (fI cMod gMod) (b2 (fI CDiv gDiv) (b2 fIx (mVar .B 3) (mVar .B 8)) (mC (.int 2))) (mC (.int 2)))))))
  (mRetVar .F 5)))))
abbrev f__law_weights:List W->R W:=runB 3 9 m__law_weights
def m__law_move:Rho->R Fl:=
 (mSeq (sF 4 (bA fLen (aC (mVar .B 2) aN)))
  (mSeq (sF 5 (bA f__law_stream (aC (mVar .B 0) (aC (b2 (fI0 gAdd) (mVar .B 1) (mC (.int 5))) (aC (b2 (fI0 gAdd) (b2 (fI CMulB gMul) (mC (.int 2)) (mVar .B 4)) (mC (.int 2))) aN)))))
  (mSeq (sV 6 (b2 fIx (vLst (aC (mC (.int 4)) (aC (mC (.int 4)) (aC (mC (.int 4)) (aC (mC (.int 900001)) aN))))) (b2 (fI cMod gMod) (b2 fIx (mVar .B 5) (b2 (fI CMulB gMul) (mC (.int 2)) (mVar .B 4))) (mC (.int 4)))))
  (mSeq (sF 7 (vComp 15 (bS (vSl true (mVar .C 5) pN (pS (mVar .B 4)))) (gN .U 14) yes (b2 (fI CMulB gMul) (b2 (fI cMod gMod) (b2 (fI CDiv gDiv) (mVar .B 14) (mC (.int 3))) (mVar .B 6)) (bA fInt (aC (b2 (fI0 gGt) (b2 (fI cMod gMod) (mVar .B 14) (mC (.int 3))) (mC (.int 0))) aN)))))
  (mSeq (sF 8 (vComp 15 (bS (vSl true (mVar .C 5) (pS (mVar .B 4)) (pS (b2 (fI CMulB gMul) (mC (.int 2)) (mVar .B 4))))) (gN .U 14) yes (b2 (fI CMulB gMul) (b2 (fI cMod gMod) (b2 (fI CDiv gDiv) (mVar .B 14) (mC (.int 3))) (mVar .B 6)) (bA fInt (aC (b2 (fI0 gGt) (b2 (fI cMod gMod) (mVar .B 14) (mC (.int 3))) (mC (.int 0))) aN)))))
  (mSeq (sFor (bS (mVar .U 3)) (gT 3 (gsCons (gN .U 9) (gsCons (gN .U 10) (gsCons (gN .U 11) gsNil))))
   (mSeq (sF 12 (bA (fInts gSum) (aC (vComp 15 (bI rng2 (aC (mVar .B 9) (aC (mVar .B 10) aN))) (gN .U 14) (bTest (b2 (fEq true) (mVar .B 14) (mVar .B 11))) (b2 (fI CMulB gMul) (b2 fIx (mVar .B 2) (mVar .B 14)) (b2 (fI0 gSub) (b2 fIx (mVar .B 8) (mVar .B 14)) (b2 fIx (mVar .B 7) (mVar .B 14))))) aN)))
   (mSeq (sV 13 (b2 (fI cMod gMod) (b2 fIx (mVar .B 5) (b2 (fI0 gAdd) (b2 (fI CMulB gMul) (mC (.int 2)) (mVar .B 4)) (mC (.int 1)))) (mC (.int 3))))
   (mSeq (mSet 7 (mVar .B 11) (b2 (fI0 gAdd) (mVar .B 13) (bA (f2 gMax) (aC (mC (.int 0)) (aC (b2 (fI CMulB gMul) (mVar .B 12) (b2 fIx (mVar .B 2) (mVar .B 11))) aN)))))
   (mSet 8 (mVar .B 11) (b2 (fI0 gAdd) (mVar .B 13) (bA (f2 gMax) (aC (mC (.int 0)) (aC (b2 (fI0 gSub) (mC (.int 0)) (b2 (fI CMulB gMul) (mVar .B 12) (b2 fIx (mVar .B 2) (mVar .B 11)))) aN)))))))))
  (sRet (vTup (aC (bA (fTup true) (aC (mVar .C 7) aN)) (aC (bA (fTup true) (aC (mVar .C 8) aN)) aN))))))))))
abbrev f__law_move:List W->R W:=runB 4 14 m__law_move
def m__law_sums_up:Rho->R Fl:=
 (mSeq (mIf (tOr' (tNot' (bTest (bA fIsi (aC (mVar .B 1) (aC (mC (.ty "list")) aN))))) (bTest (b2 (fEqS true) (bA fLen (aC (mVar .B 1) aN)) (bA fLen (aC (mVar .B 0) aN))))) (sRet (mC (.bl false))) sNx)
  (mSeq (sFor (bI rng1 (aC (bA fLen (aC (mVar .B 2) aN)) aN)) (gN .U 3)
   (mIf (bTest (b2 (fEqS true) (bA (fInts gSum) (aC (vComp 5 (bI rng1 (aC (bA fLen (aC (mVar .B 0) aN)) aN)) (gN .U 4) yes (b2 (fI CMulB gMul) (b2 fIx (mVar .B 1) (mVar .B 4)) (b2 fIx (b2 fIx (mVar .B 0) (mVar .B 4)) (mVar .B 3)))) aN)) (b2 fIx (mVar .B 2) (mVar .B 3)))) (sRet (mC (.bl false))) sNx))
  (sRet (mC (.bl true)))))
abbrev f__law_sums_up:List W->R W:=runB 3 4 m__law_sums_up
def m__law_keeps:Rho->R Fl:=
 (mSeq (sFor (bS (mVar .U 0)) (gT 2 (gsCons (gN .U 2) (gsCons (gN .U 3) gsNil)))
   (mIf (bTest (b2 (fEqS true) (bA (fInts gSum) (aC (vComp 5 (bI rng1 (aC (bA fLen (aC (mVar .B 1) aN)) aN)) (gN .U 4) yes (b2 (fI CMulB gMul) (b2 fIx (mVar .B 1) (mVar .B 4)) (b2 (fI0 gSub) (b2 fIx (mVar .B 3) (mVar .B 4)) (b2 fIx (mVar .B 2) (mVar .B 4))))) aN)) (mC (.int 0)))) (sRet (mC (.bl false))) sNx))
  (sRet (mC (.bl true))))
abbrev f__law_keeps:List W->R W:=runB 2 4 m__law_keeps
def m__law_asked:Rho->R Fl:=
 (mSeq (sF 3 (bA f_shares (aC (mVar .B 0) (aC (bA (fTup false) (aC (mVar .B 2) aN)) aN))))
  (mSeq (mIf (bTest (bA f__law_keeps (aC (mVar .B 1) (aC (mVar .B 2) aN)))) (sRet (bA f__law_sums_up (aC (mVar .B 0) (aC (mVar .B 3) (aC (mVar .B 2) aN))))) sNx)
  (sRet (b2 (fIsN false) (mVar .B 3) (mC .non)))))
abbrev f__law_asked:List W->R W:=runB 3 4 m__law_asked
def m__law_divisor:Rho->R Fl:=
 (mSeq (mWhile (bTest (b2 (fEqS true) (mVar .B 1) (mC (.int 0)))) (sPar 0 1 (aC (mVar .V 1) (aC (b2 (fI cModZ gMz) (mVar .B 0) (mVar .B 1)) aN))))
  (sRet (bA fAbs (aC (mVar .B 0) aN))))
abbrev f__law_divisor:List W->R W:=runB 2 2 m__law_divisor
def m__law_pairs:Rho->R Fl:=
 (mSeq (sF 1 (vLst aN))
  (mSeq (sF 2 (bA fLen (aC (mVar .B 0) aN)))
  (mSeq (sFor (bI rng1 (aC (mVar .B 2) aN)) (gN .U 3)
   (sFor (bI rng1 (aC (mVar .B 3) aN)) (gN .U 4)
    (mSeq (sF 5 (bA f__law_divisor (aC (b2 fIx (mVar .B 0) (mVar .B 4)) (aC (b2 fIx (mVar .B 0) (mVar .B 3)) aN))))
    (mSeq (sF 6 (vComp 8 (bI rng1 (aC (mVar .B 2) aN)) (gN .U 7) yes (bA fInt (aC (b2 (fEq false) (mVar .B 7) (mVar .B 4)) aN))))
    (mSeq (mIf (bTest (b2 (fEqS true) (mVar .B 5) (mC (.int 0)))) (mSeq (mSet 6 (mVar .B 4) (b2 (fI CDiv gDiv) (b2 fIx (mVar .B 0) (mVar .B 3)) (mVar .B 5)))
     (mSet 6 (mVar .B 3) (b2 (fI0 gSub) (mC (.int 0)) (b2 (fI CDiv gDiv) (b2 fIx (mVar .B 0) (mVar .B 4)) (mVar .B 5))))) sNx)
    (sFrz 6 (mApp 1 (mVar .V 6))))))))
  (mRetVar .F 1))))
abbrev f__law_pairs:List W->R W:=runB 1 7 m__law_pairs
def m__law_alone:Rho->R Fl:=
 (mSeq (sF 2 (bA f__law_stream (aC (mVar .B 0) (aC (mC (.int 60)) (aC (b2 (fI0 gAdd) (b2 (fI CMulB gMul) (mC (.int 2)) (mVar .B 1)) (mC (.int 1))) aN)))))
  (mSeq (sV 3 (b2 fIx (vLst (aC (mC (.int 4)) (aC (b2 (fI0 gAdd) (b2 (fI CPow gPow) (mC (.int 10)) (mC (.int 9))) (mC (.int 1))) aN))) (b2 (fI cMod gMod) (b2 fIx (mVar .B 2) (b2 (fI CMulB gMul) (mC (.int 2)) (mVar .B 1))) (mC (.int 2)))))
  (mSeq (sF 4 (bA (fTup true) (aC (vComp 9 (bS (vSl true (mVar .C 2) pN (pS (mVar .B 1)))) (gN .U 8) yes (b2 (fI CMulB gMul) (b2 (fI cMod gMod) (b2 (fI CDiv gDiv) (mVar .B 8) (mC (.int 3))) (mVar .B 3)) (bA fInt (aC (b2 (fI0 gGt) (b2 (fI cMod gMod) (mVar .B 8) (mC (.int 3))) (mC (.int 0))) aN)))) aN)))
  (mSeq (sF 5 (bA (fTup true) (aC (vComp 9 (bS (vSl true (mVar .C 2) (pS (mVar .B 1)) (pS (b2 (fI CMulB gMul) (mC (.int 2)) (mVar .B 1))))) (gN .U 8) yes (b2 (fI CMulB gMul) (b2 (fI cMod gMod) (b2 (fI CDiv gDiv) (mVar .B 8) (mC (.int 3))) (mVar .B 3)) (bA fInt (aC (b2 (fI0 gGt) (b2 (fI cMod gMod) (mVar .B 8) (mC (.int 3))) (mC (.int 0))) aN)))) aN)))
  (mSeq (sF 6 (bA f_balances (aC (vTup (aC (vTup (aC (mVar .U 4) (aC (mVar .U 5) aN))) aN)) (aC (mVar .B 1) aN))))
  (mSeq (sFor (bS (bA f__law_pairs (aC (vComp 9 (bI rng1 (aC (mVar .B 1) aN)) (gN .U 8) yes (b2 (fI0 gSub) (b2 fIx (mVar .B 5) (mVar .B 8)) (b2 fIx (mVar .B 4) (mVar .B 8)))) aN))) (gN .U 7)
   (mIf (tNot' (bTest (bA f__law_sums_up (aC (mVar .B 6) (aC (bA f_shares (aC (mVar .B 6) (aC (bA (fTup false) (aC (mVar .B 7) aN)) aN))) (aC (mVar .B 7) aN)))))) (sRet (mC (.bl false))) sNx))
  (sRet (mC (.bl true)))))))))
abbrev f__law_alone:List W->R W:=runB 2 8 m__law_alone
def m_law:Rho->R Fl:=
 (mSeq (sF 1 (bA f__law_cell_at (aC (mVar .B 0) (aC (mC (.int 0)) aN))))
  (mSeq (sV 2 (b2 (fI0 gAdd) (mC (.int 1)) (b2 (fI cMod gMod) (mVar .B 1) (mC (.int 6)))))
  (mSeq (sF 3 (bA f__law_groups (aC (bA f__law_cell_at (aC (mVar .B 0) (aC (mC (.int 1)) aN))) (aC (mVar .B 2) aN))))
  (mSeq (sF 4 (bA f__law_weights (aC (bA f__law_cell_at (aC (mVar .B 0) (aC (mC (.int 2)) aN))) (aC (mVar .B 2) (aC (mVar .B 3) aN)))))
  (mSeq (sV 5 (b2 (fI cMod gMod) (b2 (fI0 gAdd) (b2 (fI CDiv gDiv) (mVar .B 1) (mC (.int 6))) (mC (.int 2))) (mC (.int 9))))
  (mSeq (sF 6 (bA (fTup true) (aC (vComp 18 (bI rng1 (aC (mVar .B 5) aN)) (gN .U 17) yes (bA f__law_move (aC (bA f__law_cell_at (aC (mVar .B 0) (aC (b2 (fI0 gAdd) (mC (.int 3)) (mVar .B 17)) aN))) (aC (mVar .B 17) (aC (mVar .B 4) (aC (mVar .B 3) aN)))))) aN)))
  (mSeq (sF 7 (bA f_balances (aC (mVar .B 6) (aC (mVar .B 2) aN))))
  (mSeq (sV 8 (b2 fIx (b2 fIx (mVar .C 3) (mC (.int 0))) (mC (.int 1))))
  (mSeq (sF 9 (b2 (fCat true) (vSl true (mVar .C 4) pN (pS (mVar .B 8))) (vComp 18 (bS (vSl true (mVar .C 4) (pS (mVar .B 8)) pN)) (gN .U 17) yes (mC (.int 0)))))
  (mSeq (sF 10 (vComp 18 (bI rng1 (aC (mVar .B 2) aN)) (gN .U 17) yes (b2 (fI0 gSub) (b2 fIx (mVar .B 4) (mVar .B 17)) (b2 fIx (mVar .B 9) (mVar .B 17)))))
  (mSeq (sFrz 1 (sFor (bS (b2 (fCat false) (vLst (aC (mC (.int 1)) (aC (mVar .V 1) aN))) (vSl false (mVar .B 0) (pS (mC (.int 11))) (pS (mC (.int 20)))))) (gN .U 11)
   (mSeq (sV 12 (b2 fIx (vLst (aC (mC (.int 9)) (aC (b2 (fI CPow gPow) (mC (.int 10)) (mC (.int 12))) aN))) (b2 (fI cMod gMod) (mVar .B 11) (mC (.int 2)))))
   (mSeq (sV 13 (b2 (fI0 gSub) (b2 (fI cMod gMod) (b2 (fI CDiv gDiv) (mVar .B 11) (mC (.int 2))) (b2 (fI0 gAdd) (b2 (fI CMulB gMul) (mC (.int 2)) (mVar .B 12)) (mC (.int 1)))) (mVar .B 12)))
   (mSeq (sV 14 (b2 (fI0 gSub) (b2 (fI cMod gMod) (b2 (fI CDiv gDiv) (mVar .B 11) (mC (.int 7))) (mC (.int 19))) (mC (.int 9))))
   (mSeq (sF 15 (vComp 18 (bI rng1 (aC (mVar .B 2) aN)) (gN .U 17) yes (b2 (fI0 gAdd) (b2 (fI CMulB gMul) (mVar .B 13) (b2 fIx (mVar .B 9) (mVar .B 17))) (b2 (fI CMulB gMul) (mVar .B 14) (b2 fIx (mVar .B 10) (mVar .B 17))))))
   (mSeq (sF 16 (vComp 18 (bI rng1 (aC (mVar .B 2) aN)) (gN .U 17) yes (b2 (fI0 gAdd) (b2 fIx (mVar .B 15) (mVar .B 17)) (bA fInt (aC (b2 (fEqS false) (mVar .B 17) (b2 (fI cMod gMod) (b2 (fI CDiv gDiv) (mVar .B 11) (mC (.int 3))) (mVar .B 2))) aN)))))
   (mIf (tOr' (tNot' (bTest (bA f__law_sums_up (aC (mVar .B 7) (aC (bA f_shares (aC (mVar .B 7) (aC (bA (fTup true) (aC (mVar .C 15) aN)) aN))) (aC (mVar .B 15) aN)))))) (tNot' (bTest (bA f__law_asked (aC (mVar .B 7) (aC (mVar .B 6) (aC (mVar .B 16) aN))))))) (sRet (mC (.bl false))) sNx))))))))
  (mSeq (mIf (tOr' (tNot' (bTest (bA f__law_asked (aC (mVar .B 7) (aC (mVar .B 6) (aC (mVar .B 9) aN)))))) (tNot' (bTest (bA f__law_asked (aC (mVar .B 7) (aC (mVar .B 6) (aC (mVar .B 10) aN))))))) (sRet (mC (.bl false))) sNx)
  (sRet (bA f__law_alone (aC (bA f__law_cell_at (aC (mVar .B 0) (aC (mC (.int 20)) aN))) (aC (mVar .B 2) aN))))))))))))))))
abbrev f_law:List W->R W:=runB 1 17 m_law
end K56
set_option maxHeartbeats 4000000
open PySem L2 TP
namespace K56
--RPX: mulB_L, mulB_R, mulB_b, vSlT_ap, Rst_I
def rp14:=Z1 (@isi_bb) (Z1 (@isi_bi) (Z1 (@isi_ib) (Z1 (@isi_ii) (Z1 (@isi_tt) (Z1 (@isi_ll) (Z1 (@isi_ni) (Z1 (@isi_nb) (Z1 (@isi_si) (Z1 (@isi_sb) (Z1 (@isi_li) (Z1 (@isi_lb) (Z1 (@isi_ti) (@isi_tb)))))))))))))
def rp15:=Z1 (@Bool.not_true) (Z1 (@Bool.not_false) (Z1 (@Bool.true_or) (Z1 (@Bool.or_true) (Z1 (@Bool.false_or) (Z1 (@Bool.or_false) (Z1 (@Bool.true_and) (Z1 (@Bool.and_true) (Z1 (@Bool.false_and) (Z1 (@Bool.and_false) (Z1 (@Int.sub_zero) (Z1 (@Int.zero_add) (Z1 (@Int.toNat_natCast) (Z1 (@Bool.false_eq_true) (Z1 (@Bool.true_eq_false) (Z1 (@and_true) (Z1 (@true_and) (Z1 (@or_true) (Z1 (@true_or) (@and_self)))))))))))))))))))
def rp18:=Z1 (@List.length_cons.{0}) (Z1 (@List.length_nil.{0}) (Z1 (@List.length_map.{0,0}) (Z1 (@List.length_append.{0}) (Z1 (@List.length_set.{0}) (@List.length_range)))))
def rp16:=Z1 rp14 (Z1 rp15 (Z1 rp13 (Z1 rp12 (Z1 rp11 (Z1 rp10 (Z1 rp9 (Z1 rp8 (Z1 rp0 (Z1 rp1 (Z1 rp2 (Z1 rp3 (Z1 rp4 (Z1 rp5 (Z1 rp6 rp7))))))))))))))
def rp17:=Z1 (@List.map_cons.{0,0}) (Z1 (@List.map_nil.{0,0}) (Z1 (@List.replicate_succ.{0}) (Z1 (@List.replicate_zero.{0}) (Z1 (@List.cons_append.{0}) (Z1 (@List.nil_append.{0}) (Z1 (@List.append_nil.{0}) (Z1 (@R.ok_bind) (Z1 (@R.stuck_bind) (@R.ex_bind)))))))))
def rp19:=Z1 (@beq_self_eq_true.{0}) (Z1 (@Option.isNone_none.{0}) (Z1 (@Option.isNone_some.{0}) (Z1 (@Option.bind_some.{0,0}) (Z1 (@if_true.{1}) (Z1 (@if_false.{1}) (Z1 (@decide_true) (@decide_false)))))))
theorem Rst_I (ns:List Int) (l u:Option Int):Rst (.ok (.tup (ns.map W.int))) (.ok l) (.ok u)=.ok (.tup (cutW (ns.map W.int) l u)):=Rst_ok (noLs_ints ns) l u
def rpZ:=Z1 rp19 (Z1 rp16 (Z1 rp17 (Z1 rp18 (Z1 @mulB_L (Z1 @mulB_R (Z1 @mulB_b (Z1 @vSlT_ap (Z1 @Rst_I (@decide_eq_true_eq)))))))))
def rpB:=Z1 (@runB_1) (Z1 (@runB_2) (Z1 (@runB_3) (Z1 (@runB_4) (@runB_5))))
local macro_rules | `(tactic| exists $[$es],*)=>`(tactic| simp (disch:=first | with_reducible assumption | omega | (simp only [rp18]; omega)) only [List.getElem?_cons_zero,List.getElem?_cons_succ,List.set_cons_succ,List.set_cons_zero,tyW,isN,simprocAttr,rpZ,$[$es:term],*])
abbrev Mv:=List Int×List Int
abbrev mW (m:Mv):W:=.tup [tI m.1,tI m.2]
abbrev lS (ss:List (List Int)):W:=.lst (ss.map tI)
abbrev tM_ (ms:List Mv):W:=.tup (ms.map mW)
theorem map_atM {ms:List Mv} {i:Nat} {w:W} (h:(ms.map mW)[i]?=some w):∃ m,m∈ms/\ms[i]?=some m/\w=mW m:=by
 rw [List.getElem?_map] at h
 cases q:ms[i]? with
 | none=>rw [q] at h; cases h
 | some m=>rw [q] at h; cases h; exact ⟨m,List.mem_of_getElem? q,rfl,rfl⟩
theorem memD {ns:List Int} {P:Int->Prop} (h:∀ x∈ns,P x) {i:Nat} (hi:i<ns.length):P (ns.getD i 0):=mem_getD h hi
def nn (xs:List Int):Prop:=∀ x∈xs,0<=x
def okN (n:Nat) (m:Mv):Prop:=m.1.length=n/\m.2.length=n/\nn m.1/\nn m.2
theorem nn_at {xs:List Int} (h:nn xs) (k:Nat):0<=xs.getD k 0:=by
 by_cases hk:k<xs.length
 ·exact memD h hk
 ·rw [List.getD_eq_getElem?_getD]; simp [hk]
theorem change_ok {n:Nat} {m:Mv} (h6:n<=6) (h:okN n m):f_change [mW m]=.ok (tI ((List.range n).map fun k=>m.2.getD k 0-m.1.getD k 0)):=by
 have a0:L2.atI [tI m.1,tI m.2] 0=some (tI m.1):=rfl
 have a1:L2.atI [tI m.1,tI m.2] 1=some (tI m.2):=rfl
 have hz:=zipR_2 (tI m.1) (tI m.2) _ _ rfl rfl
 rw [zipW_I2 (by rw [h.1,h.2.1]),h.1] at hz
 exists rpB,m_change,a0,a1,hz
 have e:∀ N mg me ρ (h:∀ k,k<n->∃ ρ1,mg (.tup [.int (m.1.getD k 0),.int (m.2.getD k 0)]) (ρ++List.replicate (N-ρ.length) Sl.un)=some ρ1/\me ρ1=.ok (.int (m.2.getD k 0-m.1.getD k 0))),mComp N mg yes me ((List.range n).map fun k=>W.tup [.int (m.1.getD k 0),.int (m.2.getD k 0)]) ρ=.ok (lI ((List.range n).map fun k=>m.2.getD k 0-m.1.getD k 0)):=fun N mg me ρ h=>by
  rw [mComp_all (fun k=>.int (m.2.getD k 0-m.1.getD k 0)) _ _ ρ (by simpa using (by omega:n<=1000)) (fun k hk=>h k (by simpa using hk)),mapI]
 rw [e]
 ·exists rp18
 ·intro k hk
  refine ⟨_,rfl,?_⟩
  exists rp18
def sumN:Nat->(Nat->Int)->Int
 | 0,_=>0
 | n+1,f=>sumN n f+f n
theorem sumN_congr {f g:Nat->Int}:∀ {n:Nat},(∀ k,k<n->f k=g k)->sumN n f=sumN n g
 | 0,_=>rfl
 | n+1,h=>by
  show sumN n f+f n=sumN n g+g n
  rw [h n (Nat.lt_succ_self n),sumN_congr fun k hk=>h k (Nat.lt_succ_of_lt hk)]
theorem sumN_mul (a:Int) (f:Nat->Int):∀ n:Nat,sumN n (fun k=>a*f k)=a*sumN n f
 | 0=>by simp [sumN]
 | n+1=>by
  show sumN n (fun k=>a*f k)+a*f n=a*(sumN n f+f n)
  rw [sumN_mul a f n,Int.mul_add]
theorem sumN_add (f g:Nat->Int):∀ n:Nat,sumN n (fun k=>f k+g k)=sumN n f+sumN n g
 | 0=>rfl
 | n+1=>by
  show sumN n (fun k=>f k+g k)+(f n+g n)=sumN n f+f n+(sumN n g+g n)
  rw [sumN_add f g n]; omega
theorem sumN_zero {f:Nat->Int}:∀ {n:Nat},(∀ k,k<n->f k=0)->sumN n f=0
 | 0,_=>rfl
 | n+1,h=>by
  show sumN n f+f n=0
  rw [h n (Nat.lt_succ_self n),sumN_zero fun k hk=>h k (Nat.lt_succ_of_lt hk)]; rfl
theorem sumN_at {f g:Nat->Int} {r:Nat}:∀ {n:Nat},r<n->(∀ k,k<n->k≠r->f k=g k)->sumN n f=sumN n g+(f r-g r)
 | 0,h,_=>absurd h (Nat.not_lt_zero _)
 | n+1,h,e=>by
  show sumN n f+f n=sumN n g+g n+(f r-g r)
  by_cases q:r=n
  ·subst q
   rw [sumN_congr fun k hk=>e k (by omega) (by omega)]; omega
  ·rw [sumN_at (n:=n) (by omega) fun k hk=>e k (by omega),e n (Nat.lt_succ_self n) (by omega)]; omega
def cc (xs:List Int):Prop:=∀ x∈xs,0<=x/\x<=1000000000
def okC (n:Nat) (m:Mv):Prop:=m.1.length=n/\m.2.length=n/\cc m.1/\cc m.2
theorem sq_le {k:Int} (h0:0<=k) (h1:k<=1000):0<=k*k/\k*k<=1000000:=⟨Int.mul_nonneg h0 h0,by
 have:=Int.mul_le_mul h1 h1 h0 (by omega:(0:Int)<=1000)
 omega⟩
theorem mulN {i j:Int} (hi:-1152921504606846976<=i/\i<=1152921504606846976) (_:-1152921504606846976<=j/\j<=1152921504606846976):fI CMulB gMul (.int i) (.int j)=.ok (.int (i*j)):=mulB_L (by omega)
theorem cell_ok {ns:List Int} {k:Int} (h0:0<=k):Ok (f__law_cell_at [.scr (ns.map W.int),.int k]) fun w=>∃ z:Int,w=.int z:=by
 by_cases h:k<(ns.length:Int)
 ·exists rpB,m__law_cell_at,decide_eq_true h
  exact ⟨_,rfl,_,rfl⟩
 ·exists rpB,m__law_cell_at,decide_eq_false h
  exact ⟨_,rfl,_,rfl⟩
theorem stream_ok {c sa n:Int} (hs0:0<=sa) (hs1:sa<=1000) (hn0:0<=n) (hn1:n<=1000):Ok (f__law_stream [.int c,.int sa,.int n]) fun w=>∃ ns:List Int,w=lI ns/\ns.length=n.toNat/\∀ x∈ns,0<=x/\x<1000000000039:=by
 have sq:=sq_le hs0 hs1
 have m1:=mulN (i:=sa) (j:=sa) (by omega) (by omega)
 have z0:=Int.emod_nonneg c (show (1000000000039:Int)≠0 by decide)
 have z1:=Int.emod_lt_of_pos c (show (0:Int)<1000000000039 by decide)
 have m2:=mulN (i:=c%1000000000039+1) (j:=sa*sa+48271) (by omega) (by omega)
 exists rpB,m__law_stream,m1,m2
 have y0:=Int.emod_nonneg ((c%1000000000039+1)*(sa*sa+48271)) (show (1000000000039:Int)≠0 by decide)
 have y1:=Int.emod_lt_of_pos ((c%1000000000039+1)*(sa*sa+48271)) (show (0:Int)<1000000000039 by decide)
 refine ok_end (po_fors (fun i ρ=>∃ (ns:List Int) (z:Int) (v:Sl),ρ = [.par (.int c),.par (.int sa),.par (.int n),.own (ns.map W.int),.val (.int z),v]/\(0<=z/\z<1000000000039)/\ns.length=i/\∀ x∈ns,0<=x/\x<1000000000039)
  ⟨[],_,_,rfl,⟨y0,y1⟩,rfl,by simp⟩ ?_ ?_)
 ·rintro i w ρ hw ⟨ns,z,v,rfl,hz,hl,hns⟩
  obtain ⟨hi,rfl⟩:=rng_at hw
  have m3:=mulN (i:=z) (j:=z) (by omega) (by omega)
  have m4:=mulN (i:=48271) (j:=z) (by omega) (by omega)
  refine ⟨_,rfl,?_⟩
  exists m3,m4
  have x0:=Int.emod_nonneg (z*z+48271*z+(i:Int)+1) (show (1000000000039:Int)≠0 by decide)
  have x1:=Int.emod_lt_of_pos (z*z+48271*z+(i:Int)+1) (show (0:Int)<1000000000039 by decide)
  refine ⟨ns ++ [_],_,_,rfl,⟨x0,x1⟩,by simp [hl],fun x hx=>?_⟩
  rcases List.mem_append.mp hx with h | h
  ·exact hns x h
  ·have:=List.mem_singleton.mp h; subst this; exact ⟨x0,x1⟩
 ·rintro ρ ⟨ns,z,v,rfl,hz,hl,hns⟩
  exists rp18
  exact ⟨ns,rfl,by simpa using hl,hns⟩
theorem paired_all {α:Type} {q:α->Int->Prop} {P:Int->Prop} (h:∀ a z,q a z->P z):∀ {as:List α} {zs:List Int},Paired q as zs->∀ z∈zs,P z
 | _,_,.nil=>by simp
 | _,_,.cons a r=>fun z hz=>by
  rcases List.mem_cons.mp hz with e | e
  ·subst e; exact h _ _ a
  ·exact paired_all h r z e
def bd (B:Int) (x:Int):Prop:=0<=x/\x<=B
theorem wide {i:Int} (h0:0<=i) (h:i<2):∃ v:Int,L2.atI [W.int 9,W.int 200] i=some (.int v)/\9<=v/\v<=200:=by
 have:i=0\/i=1:=by omega
 rcases this with rfl | rfl
 ·exact ⟨9,rfl,by omega,by omega⟩
 ·exact ⟨200,rfl,by omega,by omega⟩
theorem topv {B i:Int} (hB:4<=B) (h0:0<=i) (h:i<4):∃ v:Int,L2.atI [W.int 4,W.int 4,W.int 4,W.int B] i=some (.int v)/\4<=v/\v<=B:=by
 have:i=0\/i=1\/i=2\/i=3:=by omega
 rcases this with rfl | rfl | rfl | rfl
 ·exact ⟨4,rfl,by omega,by omega⟩
 ·exact ⟨4,rfl,by omega,by omega⟩
 ·exact ⟨4,rfl,by omega,by omega⟩
 ·exact ⟨B,rfl,by omega,by omega⟩
def okB (n:Nat) (m:Mv):Prop:=okN n m/\(∀ x∈m.1,x<=1000000000)/\(∀ x∈m.2,x<=1000000000)
theorem cut_to {xs:List Int} {n:Nat} (h:n<=xs.length):cutI xs none (some (n:Int))=xs.take n:=by
 unfold cutI
 rw [HT.sIx_nat,HT.sIx_none,List.drop_zero,Nat.min_eq_left h,Nat.sub_zero]
theorem cut_fr {xs:List Int} {n:Nat} (h:n<=xs.length):cutI xs (some (n:Int)) none=xs.drop n:=by
 unfold cutI
 rw [HT.sIx_nat,HT.sIx_none,Nat.min_eq_left h,List.take_of_length_le (by rw [List.length_drop]; omega)]
theorem cut_0 {xs:List Int} {n:Nat} (h:n<=xs.length):(cutI xs none (some (n:Int))).length=n:=by
 rw [cut_to h,List.length_take]; omega
theorem ok_sumf {N':Nat} {mg:W->Rho->Option Rho} {mc:Rho->R Bool} {me:Rho->R W} {α:Type} {as:List α} {s:α->W} {ρ:Rho} {P:W->Prop} (f:α->Int) (c:α->Bool) (hl:as.length<=1000)
  (h:∀ a∈as,∃ ρ1,mg (s a) (ρ++List.replicate (N'-ρ.length) Sl.un)=some ρ1/\mc ρ1=.ok (c a)/\(c a=true->me ρ1=.ok (.int (f a)))) (hp:P (.int ((as.filter c).map f).sum)):Ok (Rcons (mComp N' mg mc me (as.map s) ρ) (.ok [])>>=fInts gSum) P:=
 ok_bindL (okL_1 ⟨_,mComp_filter (fun a=>.int (f a)) s c as ρ hl h,⟨_,by rw [mapI,fInts_m]; rfl,hp⟩⟩)
theorem cut_a {xs:List Int} {a b:Nat} (h:a<=b) (hb:b<=xs.length):(cutI xs (some (a:Int)) (some (b:Int))).length=b-a:=by
 unfold cutI
 rw [HT.sIx_nat,HT.sIx_nat,List.length_take,List.length_drop]
 omega
abbrev G:=Int×Int×Int
abbrev gW (g:G):W:=.tup [.int g.1,.int g.2.1,.int g.2.2]
def okG (n:Nat) (g:G):Prop:=0<=g.1/\g.1<=g.2.2/\g.2.2<g.2.1/\g.2.1<=(n:Int)
theorem groups_ok {c:Int} {n:Nat} (h1:1<=n) (h6:n<=6):Ok (f__law_groups [.int c,.int (n:Int)]) fun w=>∃ gs:List G,w=.lst (gs.map gW)/\(∀ g∈gs,okG n g)/\gs.Pairwise (fun a b=>a.2.1<=b.1)/\∃ g0:G,g0.1=0/\((gs = [g0]/\g0.2.1=(n:Int))\/∃ g1:G,gs = [g0,g1]/\g1.1=g0.2.1/\g1.2.1=(n:Int)):=by
 obtain ⟨_,e1,xs,rfl,hxl,hxs⟩:=stream_ok (c:=c) (sa:=3) (n:=3) (by omega) (by omega) (by omega) (by omega)
 have hxl:xs.length=3:=hxl
 have g0:=memD (P:=fun x=>0<=x/\x<1000000000039) hxs (i:=0) (by omega)
 exists rpB,m__law_groups,e1
 have hc0:0<=xs.getD 0 0%((n:Int)+1):=Int.emod_nonneg _ (by omega)
 have hc1:xs.getD 0 0%((n:Int)+1)<(n:Int)+1:=Int.emod_lt_of_pos _ (by omega)
 generalize xs.getD 0 0%((n:Int)+1)=cut at *
 refine ok_end (po_cut (fun ρ=>∃ gs:List G,ρ = [.par (.int c),.par (.int n),.own (xs.map W.int),.val (.int cut),.own (gs.map gW)]/\(∀ g∈gs,okG n g)/\gs.Pairwise (fun a b=>a.2.1<=b.1)/\(∀ g∈gs,g.2.1<=cut)/\gs.length<=1/\((gs = []/\cut=0)\/∃ h,gs = [((0,cut,h):G)])) ?_ ?_)
 ·refine po_if (fun h=>?_) (fun h=>?_)
  ·have h:=of_decide_eq_true h
   exists rp18
   refine ⟨[(0,cut,xs.getD 1 0%cut)],rfl,?_,List.pairwise_singleton _ _,?_,by simp,.inr ⟨_,rfl⟩⟩
   ·intro g hg
    have:=List.mem_singleton.mp hg
    subst this
    exact ⟨Int.le_refl _,Int.emod_nonneg _ (by omega),Int.emod_lt_of_pos _ h,by show cut<=(n:Int); omega⟩
   ·intro g hg
    have:=List.mem_singleton.mp hg
    subst this
    exact Int.le_refl _
  ·have h:=of_decide_eq_false h
   exists rp18
   exact ⟨[],rfl,by simp,List.Pairwise.nil,by simp,by simp,.inl ⟨rfl,by omega⟩⟩
 rintro ρ ⟨gs,rfl,hgs,hgp,hgc,hgl,hgx⟩
 exists rp18
 refine po_ifs (fun h=>?_) (fun h=>?_)
 ·have h:=of_decide_eq_true h
  exists rp18
  refine ⟨gs ++ [((cut,(n:Int),cut+xs.getD 2 0%(n-cut)):G)],by rw [List.map_append]; rfl,fun g hg=>?_,?_,?_⟩
  ·rcases List.mem_append.mp hg with q | q
   ·exact hgs g q
   ·have:=List.mem_singleton.mp q
    subst this
    have z0:=Int.emod_nonneg (xs.getD 2 0) (show (n:Int)-cut≠0 by omega)
    have z1:=Int.emod_lt_of_pos (xs.getD 2 0) (show 0<(n:Int)-cut by omega)
    exact ⟨hc0,by show cut<=cut+_; omega,by show cut+_<(n:Int); omega,Int.le_refl _⟩
  ·refine List.pairwise_append.mpr ⟨hgp,List.pairwise_singleton _ _,fun a ha b hb=>?_⟩
   rw [List.mem_singleton.mp hb]
   exact hgc a ha
  ·rcases hgx with ⟨rfl,z⟩ | ⟨h',rfl⟩
   ·exact ⟨_,z,.inl ⟨rfl,rfl⟩⟩
   ·exact ⟨_,rfl,.inr ⟨_,rfl,rfl,rfl⟩⟩
 ·exists rp18
  have h:=of_decide_eq_false h
  refine ⟨gs,rfl,hgs,hgp,?_⟩
  rcases hgx with ⟨_,z⟩ | ⟨h',rfl⟩
  ·omega
  ·exact ⟨_,rfl,.inl ⟨rfl,by show cut=(n:Int); omega⟩⟩
theorem map_atG {gs:List G} {i:Nat} {w:W} (h:(gs.map gW)[i]?=some w):∃ g,gs[i]?=some g/\w=gW g:=by
 rw [List.getElem?_map] at h
 cases q:gs[i]? with
 | none=>rw [q] at h; cases h
 | some m=>rw [q] at h; cases h; exact ⟨m,rfl,rfl⟩
def bv (B:Int) (x:Int):Prop:=-B<=x/\x<=B
def pm (x:Int):Prop:=x=1\/x = -1
def hdP (gs:List G) (ws:List Int):Prop:=∀ g∈gs,pm (ws.getD g.2.2.toNat 0)
theorem take_g {gs:List G} {i:Nat} {g:G} (h:gs[i]?=some g):gs.take (i+1)=gs.take i ++ [g]:=by rw [List.take_succ,h]; rfl
theorem weights_ok {c:Int} {n:Nat} {gs:List G} (h1:1<=n) (h6:n<=6) (hgs:∀ g∈gs,okG n g):Ok (f__law_weights [.int c,.int (n:Int),.lst (gs.map gW)]) fun w=>∃ ws:List Int,w=lI ws/\ws.length=n/\(∀ x∈ws,bv 200 x)/\hdP gs ws:=by
 obtain ⟨_,e1,xs,rfl,hxl,hxs⟩:=stream_ok (c:=c) (sa:=4) (n:=(n:Int)+1) (by omega) (by omega) (by omega) (by omega)
 have hxl:xs.length=n+1:=by rw [hxl]; omega
 have g0:=memD (P:=fun x=>0<=x/\x<1000000000039) hxs (i:=n) (by omega)
 obtain ⟨v,hv,hv0,hv1⟩:=wide (i:=xs.getD n 0%2) (by omega) (by omega)
 exists rpB,m__law_weights,e1,hv
 refine ok_end (po_sets ?_)
 refine ok_comp (as:=List.range n) (fun _ z=>bv 200 z) (by simp; omega) ?_ ?_
 ·intro k hk
  have hk:k<n:=by simpa using hk
  refine ⟨_,rfl,?_⟩
  exists rp18
  have z0:=Int.emod_nonneg (xs.getD k 0) (show 2*v+1≠0 by omega)
  have z1:=Int.emod_lt_of_pos (xs.getD k 0) (show 0<2*v+1 by omega)
  exact ⟨_,rfl,_,rfl,by omega,by omega⟩
 intro ws hws
 have hwn:∀ x∈ws,bv 200 x:=paired_all (P:=bv 200) (fun _ _ h=>h) hws
 replace hws:=Paired.length hws
 rw [List.length_range] at hws
 exists rp18
 refine po_fors (fun i ρ=>∃ (ws:List Int) (a b d:Sl),ρ = [.par (.int c),.par (.int n),.par (.lst (gs.map gW)),.own (xs.map W.int),.val (.int v),.own (ws.map W.int),a,b,d]/\ws.length=n/\(∀ x∈ws,bv 200 x)/\hdP (gs.take i) ws) ⟨ws,_,_,_,rfl,hws.symm,hwn,by intro g hg; simp at hg⟩ ?_ ?_
 ·rintro i w ρ hw ⟨ws,a,b,d,rfl,hwl,hwn,hhd⟩
  obtain ⟨g,hgi,rfl⟩:=map_atG hw
  have hk:=hgs g (List.mem_of_getElem? hgi)
  unfold okG at hk
  refine ⟨_,rfl,?_⟩
  exists rp18
  refine ⟨_,_,_,_,rfl,by rw [List.length_set]; exact hwl,set_all hwn ⟨by omega,by omega⟩,?_⟩
  rw [take_g hgi]
  intro g' hg'
  have hv':pm (1-2*(xs.getD g.2.2.toNat 0/2%2)):=by unfold pm; omega
  rcases List.mem_append.mp hg' with q | q
  ·have hk':=hgs g' (List.mem_of_mem_take q)
   unfold okG at hk'
   rw [set_getD (by omega)]
   split
   ·exact hv'
   ·exact hhd g' q
  ·rw [List.mem_singleton.mp q,set_getD (by omega),if_pos rfl]
   exact hv'
 ·rintro ρ ⟨ws,a,b,d,rfl,hwl,hwn,hhd⟩
  rw [List.length_map,List.take_length] at hhd
  exists rp18
  exact ⟨ws,rfl,hwl,hwn,hhd⟩
theorem mul_bv {a b:Nat} {x y:Int} (hx:bv a x) (hy:bv b y):bv ((a*b:Nat):Int) (x*y):=by
 have hx':x.natAbs<=a:=by unfold bv at hx; omega
 have hy':y.natAbs<=b:=by unfold bv at hy; omega
 have:=Nat.mul_le_mul hx' hy'
 rw [<- Int.natAbs_mul] at this
 unfold bv
 omega
theorem sum_bd {B:Nat}:∀ {zs:List Int},(∀ x∈zs,bv B x)->bv ((zs.length*B:Nat):Int) zs.sum
 | [],_=>by simp [bv]
 | z::zs,h=>by
  have h1:=h z (by simp)
  have h2:=sum_bd fun x hx=>h x (List.mem_cons_of_mem _ hx)
  rw [List.sum_cons,List.length_cons,Nat.succ_mul]
  unfold bv at *
  omega
theorem bd_le {a b:Int} {x:Int} (h:bv a x) (hab:a<=b):bv b x:=by unfold bv at *; omega
theorem pick_sm {x v:Int} {b:Prop} [Decidable b] (hv0:4<=v) (hv1:v<=900001):0<=x/3%v*(if b then 1 else 0)/\x/3%v*(if b then 1 else 0)<=900000:=by
 have z0:=Int.emod_nonneg (x/3) (show v≠0 by omega)
 have z1:=Int.emod_lt_of_pos (x/3) (show 0<v by omega)
 split
 ·rw [Int.mul_one]; omega
 ·rw [Int.mul_zero]; omega
theorem getB {zs:List Int} {B:Int} (hB:0<=B) (h:∀ x∈zs,bv B x) (k:Nat):bv B (zs.getD k 0):=by
 by_cases hk:k<zs.length
 ·exact memD h hk
 ·rw [List.getD_eq_getElem?_getD]; simp [hk]; unfold bv; omega
abbrev sm (x:Int):Prop:=0<=x/\x<=900000
abbrev md (x:Int):Prop:=0<=x/\x<=900000002
abbrev mm (x:Int):Prop:=0<=x/\x<=900000011
def smP (gs:List G) (ta:List Int):Prop:=∀ g∈gs,∀ k:Int,g.1<=k->k<g.2.1->sm (ta.getD k.toNat 0)
theorem smP_set {gs:List G} {ta:List Int} {h z:Int} {n:Nat} (hl:ta.length=n) (hgs:∀ g∈gs,okG n g) (h0:0<=h) (hd:∀ g∈gs,h<g.1) (hs:smP gs ta):smP gs (ta.set h.toNat z):=fun g hg k k0 k1=>by
 have:=hgs g hg
 unfold okG at this
 have:=hd g hg
 rw [set_getD (by omega),if_neg (by omega)]
 exact hs g hg k k0 k1
theorem mem_drop_of {gs:List G} {i:Nat} {g:G} (h:g∈gs.drop i):g∈gs:=List.mem_of_mem_drop h
theorem drop_g {gs:List G} {i:Nat} {g:G} (h:gs[i]?=some g):gs.drop i=g::gs.drop (i+1):=by
 obtain ⟨hi,e⟩:=List.getElem?_eq_some_iff.mp h
 rw [List.drop_eq_getElem_cons hi,e]
def okT9 (n:Nat) (m:Mv):Prop:=okN n m/\(∀ x∈m.1,x<=900000002)/\(∀ x∈m.2,x<=900000002)
theorem okT9.B {n:Nat} {m:Mv} (h:okT9 n m):okB n m:=⟨h.1,fun x hx=>by have:=h.2.1 x hx; omega,fun x hx=>by have:=h.2.2 x hx; omega⟩
def grS (g:G) (ws ta pu:List Int):Int:=sumN (g.2.1-g.1).toNat fun k=>ws.getD (g.1+(k:Int)).toNat 0*(pu.getD (g.1+(k:Int)).toNat 0-ta.getD (g.1+(k:Int)).toNat 0)
theorem fil_sum {h:Nat} {f:Nat->Int} {b:Nat->Bool} (hb:∀ k,b k=true↔k≠h):∀ {n:Nat},(((List.range n).filter b).map f).sum=sumN n fun k=>if k=h then 0 else f k
 | 0=>rfl
 | n+1=>by
  rw [List.range_succ,List.filter_append,List.map_append,List.sum_append,fil_sum hb (n:=n)]
  show _=sumN n (fun k=>if k=h then 0 else f k)+if n=h then 0 else f n
  by_cases e:n=h
  ·have:b n=false:=by
    cases q:b n with
    | false=>rfl
    | true=>exact absurd e ((hb n).mp q)
   rw [if_pos e]
   simp [this]
  ·rw [if_neg e]
   simp [(hb n).mpr e]
theorem move_ok {c t:Int} {n:Nat} {ws:List Int} {gs:List G} (h1:1<=n) (h6:n<=6) (ht0:0<=t) (ht1:t<=100) (hwl:ws.length=n) (hwn:∀ x∈ws,bv 200 x) (hwh:hdP gs ws) (hgs:∀ g∈gs,okG n g) (hgp:gs.Pairwise (fun a b=>a.2.1<=b.1)) :
  Ok (f__law_move [.int c,.int t,lI ws,.lst (gs.map gW)]) fun w=>∃ m:Mv,w=mW m/\okT9 n m/\∀ g∈gs,grS g ws m.1 m.2=0:=by
 obtain ⟨_,e1,xs,rfl,hxl,hxs⟩:=stream_ok (c:=c) (sa:=t+5) (n:=2*(n:Int)+2) (by omega) (by omega) (by omega) (by omega)
 have hxl:xs.length=2*n+2:=by rw [hxl]; omega
 obtain ⟨v,hv,hv0,hv1⟩:=topv (B:=900001) (i:=xs.getD (2*(n:Int)).toNat 0%4) (by omega) (by omega) (by omega)
 have l1:=cut_0 (xs:=xs) (n:=n) (by omega)
 have l2:(cutI xs (some (n:Int)) (some (2*(n:Int)))).length=n:=by
  have:=cut_a (xs:=xs) (a:=n) (b:=2*n) (by omega) (by omega)
  rw [show ((2*n:Nat):Int)=2*(n:Int) by push_cast; rfl] at this
  omega
 subst hwl
 have hm1:∀ (x:Int) (b:Prop) [Decidable b],fI CMulB gMul (.int (x/3%v)) (.int (if b then 1 else 0))=.ok (.int (x/3%v*if b then 1 else 0)):=fun x b _=>by
  have z0:=Int.emod_nonneg (x/3) (show v≠0 by omega)
  have z1:=Int.emod_lt_of_pos (x/3) (show 0<v by omega)
  exact mulN (by omega) (by split <;> decide)
 exists rpB,m__law_move,e1,hv
 refine ok_end (po_sets ?_)
 refine ok_comp (fun _ z=>sm z) (by omega) ?_ ?_
 ·intro x hx
  refine ⟨_,rfl,?_⟩
  exists hm1
  exact ⟨_,rfl,_,rfl,pick_sm hv0 hv1⟩
 intro ta hta
 have htn:∀ x∈ta,sm x:=paired_all (P:=sm) (fun _ _ h=>h) hta
 replace hta:=Paired.length hta
 exists rp18
 refine po_sets ?_
 refine ok_comp (fun _ z=>sm z) (by omega) ?_ ?_
 ·intro x hx
  refine ⟨_,rfl,?_⟩
  exists hm1
  exact ⟨_,rfl,_,rfl,pick_sm hv0 hv1⟩
 intro pu hpu
 have hpn:∀ x∈pu,sm x:=paired_all (P:=sm) (fun _ _ h=>h) hpu
 replace hpu:=Paired.length hpu
 have sm0:∀ {l:List Int},l.length=ws.length->(∀ x∈l,sm x)->smP gs l:=fun {l} hl hs g hg k k0 k1=>by
  have:=hgs g hg
  unfold okG at this
  exact memD (P:=sm) hs (by omega)
 exists rp18
 refine po_fors (fun i ρ=>∃ (ta pu:List Int) (a b d e f:Sl),ρ = [.par (.int c),.par (.int t),.par (lI ws),.par (.lst (gs.map gW)),.val (.int ws.length),.own (xs.map W.int),.val (.int v),.own (ta.map W.int),.own (pu.map W.int),a,b,d,e,f]/\ta.length=ws.length/\pu.length=ws.length/\(∀ x∈ta,md x)/\(∀ x∈pu,md x)/\smP (gs.drop i) ta/\smP (gs.drop i) pu/\∀ g'∈gs.take i,grS g' ws ta pu=0) ⟨ta,pu,_,_,_,_,_,rfl,by omega,by omega,fun x hx=>by have:=htn x hx; omega,fun x hx=>by have:=hpn x hx; omega,sm0 (by omega) htn,sm0 (by omega) hpn,by simp⟩ ?_ ?_
 ·rintro i w ρ hw ⟨ta,pu,a,b,d,e,f,rfl,hta,hpu,htn,hpn,hts,hps,hgr⟩
  obtain ⟨g,hgi,rfl⟩:=map_atG hw
  have hg:=List.mem_of_getElem? hgi
  obtain ⟨q0,q1,q2,q3⟩:=hgs g hg
  have hdr:=drop_g hgi
  have hts0:=hts g (by rw [hdr]; exact List.mem_cons_self)
  have hps0:=hps g (by rw [hdr]; exact List.mem_cons_self)
  have hrest:∀ g'∈gs.drop (i+1),g.2.2<g'.1:=fun g' hg'=>by
   have hp:(gs.drop i).Pairwise (fun a b=>a.2.1<=b.1):=hgp.sublist (List.drop_sublist _ _)
   rw [hdr] at hp
   have:=(List.pairwise_cons.mp hp).1 g' hg'
   omega
  have hok':∀ g'∈gs.drop (i+1),okG ws.length g':=fun g' hg'=>hgs g' (mem_drop_of hg')
  refine ⟨_,rfl,?_⟩
  exists rp18
  refine po_sets ?_
  refine ok_sumf (fun k=>ws.getD (g.1+(k:Int)).toNat 0*(pu.getD (g.1+(k:Int)).toNat 0-ta.getD (g.1+(k:Int)).toNat 0)) (fun k=>!decide (g.1+(k:Int)=g.2.2)) (by rw [List.length_range]; omega) ?_ ?_
  ·intro k hk
   have hk:k<(g.2.1-g.1).toNat:=by simpa using hk
   have w200:=getB (by omega) hwn (g.1+(k:Int)).toNat
   unfold bv at w200
   refine ⟨_,rfl,?_,fun _=>?_⟩
   ·exists rp18
   ·exists rp18
  have hd:bv 900000000 (((List.range (g.2.1-g.1).toNat).filter (fun k:Nat=>!decide (g.1+(k:Int)=g.2.2))).map (fun k:Nat=>ws.getD (g.1+(k:Int)).toNat 0*(pu.getD (g.1+(k:Int)).toNat 0-ta.getD (g.1+(k:Int)).toNat 0))).sum:=by
   refine bd_le (sum_bd (B:=200*900000) fun x hx=>?_) ?_
   ·obtain ⟨k,hk,rfl⟩:=List.mem_map.mp hx
    have hk:=List.mem_range.mp (List.mem_filter.mp hk).1
    refine mul_bv (getB (by omega) hwn _) ?_
    have r1:=hts0 (g.1+(k:Int)) (by omega) (by omega)
    have r2:=hps0 (g.1+(k:Int)) (by omega) (by omega)
    unfold bv
    omega
   ·have:(((List.range (g.2.1-g.1).toNat).filter (fun k:Nat=>!decide (g.1+(k:Int)=g.2.2))).map (fun k:Nat=>ws.getD (g.1+(k:Int)).toNat 0*(pu.getD (g.1+(k:Int)).toNat 0-ta.getD (g.1+(k:Int)).toNat 0))).length<=5:=by
     rw [List.length_map]
     have:((List.range (g.2.1-g.1).toNat).filter (fun k:Nat=>!decide (g.1+(k:Int)=g.2.2))).length<(List.range (g.2.1-g.1).toNat).length:=
      List.length_filter_lt_length_iff_exists.mpr ⟨(g.2.2-g.1).toNat,List.mem_range.mpr (by omega),by
       have:g.1+((g.2.2-g.1).toNat:Int)=g.2.2:=by omega
       rw [decide_eq_true this]; decide⟩
     rw [List.length_range] at this
     omega
    generalize (((List.range (g.2.1-g.1).toNat).filter (fun k:Nat=>!decide (g.1+(k:Int)=g.2.2))).map (fun k:Nat=>ws.getD (g.1+(k:Int)).toNat 0*(pu.getD (g.1+(k:Int)).toNat 0-ta.getD (g.1+(k:Int)).toNat 0))).length=L at *
    omega
  have hDs:=fil_sum (n:=(g.2.1-g.1).toNat) (h:=(g.2.2-g.1).toNat) (f:=fun k:Nat=>ws.getD (g.1+(k:Int)).toNat 0*(pu.getD (g.1+(k:Int)).toNat 0-ta.getD (g.1+(k:Int)).toNat 0)) (b:=fun k:Nat=>!decide (g.1+(k:Int)=g.2.2)) fun k=>by
   by_cases z:g.1+(k:Int)=g.2.2
   ·rw [decide_eq_true z]
    exact ⟨fun y=>(by cases y),fun y=>absurd (by omega) y⟩
   ·rw [decide_eq_false z]
    exact ⟨fun _ y=>z (by omega),fun _=>rfl⟩
  generalize (((List.range (g.2.1-g.1).toNat).filter (fun k:Nat=>!decide (g.1+(k:Int)=g.2.2))).map (fun k:Nat=>ws.getD (g.1+(k:Int)).toNat 0*(pu.getD (g.1+(k:Int)).toNat 0-ta.getD (g.1+(k:Int)).toNat 0))).sum=D at *
  have w200:=getB (by omega) hwn g.2.2.toNat
  have hZ:bv 900000000 (D*ws.getD g.2.2.toNat 0):=by
   rcases hwh g hg with e | e
   ·rw [e,Int.mul_one]; exact hd
   ·rw [e]; unfold bv at *; omega
  unfold bv at w200 hZ
  exists rp18
  obtain ⟨Z,hZe⟩:∃ Z,Z=D*ws.getD g.2.2.toNat 0:=⟨_,rfl⟩
  rw [<- hZe] at hZ ⊢
  refine ⟨_,_,_,_,_,_,_,rfl,by rw [List.length_set]; exact hta,by rw [List.length_set]; exact hpu,set_all htn ?_,set_all hpn ?_,smP_set hta hok' (by omega) hrest ?_,smP_set hpu hok' (by omega) hrest ?_,?_⟩
  ·omega
  ·omega
  ·exact fun g' hg'=>hts g' (by rw [hdr]; exact List.mem_cons_of_mem _ hg')
  ·exact fun g' hg'=>hps g' (by rw [hdr]; exact List.mem_cons_of_mem _ hg')
  ·rw [take_g hgi]
   intro g' hg'
   rcases List.mem_append.mp hg' with z | z
   ·have hlt:g'.2.1<=g.1:=by
     have hp2:=hgp
     rw [<- List.take_append_drop i gs,hdr] at hp2
     exact (List.pairwise_append.mp hp2).2.2 g' z g List.mem_cons_self
    have hk':=hgs g' (List.mem_of_mem_take z)
    unfold okG at hk'
    rw [<- hgr g' z]
    refine sumN_congr fun k hk=>?_
    rw [set_getD (by omega),set_getD (by omega),if_neg (by omega),if_neg (by omega)]
   ·rw [List.mem_singleton.mp z]
    unfold grS
    rw [sumN_at (g:=fun k=>if k=(g.2.2-g.1).toNat then 0 else ws.getD (g.1+(k:Int)).toNat 0*(pu.getD (g.1+(k:Int)).toNat 0-ta.getD (g.1+(k:Int)).toNat 0)) (r:=(g.2.2-g.1).toNat) (by omega) fun k hk hne=>by
     rw [if_neg hne,set_getD (by omega),set_getD (by omega),if_neg (by omega),if_neg (by omega)],<- hDs,if_pos rfl]
    have eh:(g.1+((g.2.2-g.1).toNat:Int)).toNat=g.2.2.toNat:=by omega
    rw [eh,set_getD (by omega),set_getD (by omega),if_pos rfl,if_pos rfl]
    rcases hwh g hg with y | y
    ·rw [y] at hZe ⊢
     omega
    ·rw [y] at hZe ⊢
     omega
 ·rintro ρ ⟨ta,pu,a,b,d,e,f,rfl,hta,hpu,htn,hpn,-,-,hgr⟩
  exists rp18
  rw [List.length_map,List.take_length] at hgr
  exact ⟨(ta,pu),rfl,⟨⟨hta,hpu,fun x hx=>(htn x hx).1,fun x hx=>(hpn x hx).1⟩,fun x hx=>(htn x hx).2,fun x hx=>(hpn x hx).2⟩,hgr⟩
def ent (r:List Int) (p:Nat):Int:=r.getD p 0
def lc:List Int->List (List Int)->Nat->Int
 | c::cs,r::rs,p=>c*ent r p+lc cs rs p
 | _,_,_=>0
theorem lc_app:∀ {cs ds:List Int} {rs ss:List (List Int)},cs.length=rs.length->∀ p,lc (cs++ds) (rs++ss) p=lc cs rs p+lc ds ss p
 | [],_,[],_,_,p=>(Int.zero_add _).symm
 | c::cs,ds,r::rs,ss,h,p=>by
  show c*ent r p+lc (cs++ds) (rs++ss) p=c*ent r p+lc cs rs p+lc ds ss p
  rw [lc_app (by simpa using h) p]; omega
 | [],_,_::_,_,h,_=>by cases h
 | _::_,_,[],_,h,_=>by cases h
theorem lc_zero:∀ {rs:List (List Int)} {p:Nat} (cs:List Int),(∀ c∈cs,c=0)->lc cs rs p=0
 | [],_,[],_=>rfl
 | _::_,_,[],_=>rfl
 | [],_,_::_,_=>rfl
 | r::rs,p,c::cs,h=>by
  show c*ent r p+lc cs rs p=0
  rw [h c List.mem_cons_self,lc_zero cs fun x hx=>h x (List.mem_cons_of_mem _ hx),Int.zero_mul]; rfl
def Spn (m:Nat) (rs:List (List Int)) (v:Nat->Int):Prop:=∃ cs:List Int,cs.length=rs.length/\∀ p,p<m->v p=lc cs rs p
def Ind (m:Nat) (rs:List (List Int)):Prop:=∀ cs:List Int,cs.length=rs.length->(∀ p,p<m->lc cs rs p=0)->∀ c∈cs,c=0
theorem Ind.tail {m:Nat} {r:List Int} {rs:List (List Int)} (h:Ind m (r::rs)):Ind m rs:=fun cs hl hz c hc=>h (0::cs) (by simp [hl]) (fun p hp=>by
 show 0*ent r p+lc cs rs p=0
 rw [hz p hp,Int.zero_mul]; rfl) c (List.mem_cons_of_mem _ hc)
structure Two (m:Nat) (a b a' b':List Int):Prop where
 ex:∃ x y z w e:Int,(e=1\/e = -1)/\x*w-y*z=e/\∀ p,p<m->ent a' p=x*ent a p+y*ent b p/\ent b' p=z*ent a p+w*ent b p
theorem Two.refl (m:Nat) (a b:List Int):Two m a b a b:=⟨1,0,0,1,1,.inl rfl,by decide,fun p _=>⟨by omega,by omega⟩⟩
theorem Two.step {m:Nat} {a b a' b' c:List Int} {q:Int} (h:Two m a b a' b') (hc:∀ p,p<m->ent c p=ent a' p-q*ent b' p):Two m a b b' c:=by
 obtain ⟨x,y,z,w,e,he,hd,hp⟩:=h
 refine ⟨z,w,x-q*z,y-q*w,-e,by omega,?_,fun p hm=>⟨(hp p hm).2,?_⟩⟩
 ·rw [Int.mul_sub,Int.mul_sub,<- Int.mul_assoc z,<- Int.mul_assoc w,Int.mul_comm z q,Int.mul_comm w q,Int.mul_assoc q,Int.mul_assoc q,Int.mul_comm w z,Int.mul_comm z y,Int.mul_comm w x]
  omega
 ·rw [hc p hm,(hp p hm).1,(hp p hm).2,Int.sub_mul,Int.sub_mul,Int.mul_add,Int.mul_assoc,Int.mul_assoc]
  omega
theorem mul_e {e x:Int} (h:e=1\/e = -1):e*(e*x)=x:=by
 rcases h with rfl | rfl <;> omega
theorem Two.rel {m:Nat} {a b a' b':List Int} (h:Two m a b a' b') (c d:Int):∃ c' d':Int,(∀ p,p<m->c'*ent a p+d'*ent b p=c*ent a' p+d*ent b' p)/\(c'=0->d'=0->c=0/\d=0):=by
 obtain ⟨x,y,z,w,e,he,hd,hp⟩:=h
 refine ⟨c*x+d*z,c*y+d*w,fun p hm=>?_,fun h1 h2=>?_⟩
 ·rw [(hp p hm).1,(hp p hm).2,Int.add_mul,Int.add_mul,Int.mul_add,Int.mul_add,Int.mul_assoc,Int.mul_assoc,Int.mul_assoc,Int.mul_assoc]
  omega
 ·have e1:e*c=(c*x+d*z)*w-(c*y+d*w)*z:=by
   rw [<- hd,Int.sub_mul,Int.add_mul,Int.add_mul]
   rw [show x*w*c=c*x*w by rw [Int.mul_comm (x*w),Int.mul_assoc],show y*z*c=c*y*z by rw [Int.mul_comm (y*z),Int.mul_assoc],show d*z*w=d*w*z by rw [Int.mul_assoc,Int.mul_assoc,Int.mul_comm z w]]
   omega
  have e2:e*d=(c*y+d*w)*x-(c*x+d*z)*y:=by
   rw [<- hd,Int.sub_mul,Int.add_mul,Int.add_mul]
   rw [show x*w*d=d*w*x by rw [Int.mul_comm (x*w),Int.mul_comm x w,<- Int.mul_assoc],show y*z*d=d*z*y by rw [Int.mul_comm (y*z),Int.mul_comm y z,<- Int.mul_assoc],show c*y*x=c*x*y by rw [Int.mul_assoc,Int.mul_assoc,Int.mul_comm x y]]
   omega
  rw [h1,h2,Int.zero_mul,Int.zero_mul] at e1 e2
  have q1:=mul_e he (x:=c)
  have q2:=mul_e he (x:=d)
  rw [e1] at q1
  rw [e2] at q2
  constructor <;> omega
theorem Two.back {m:Nat} {a b a' b':List Int} (h:Two m a b a' b') (c d:Int):∃ c' d':Int,∀ p,p<m->c*ent a p+d*ent b p=c'*ent a' p+d'*ent b' p:=by
 obtain ⟨x,y,z,w,e,he,hd,hp⟩:=h
 have key:∀ p,p<m->e*ent a p=w*ent a' p-y*ent b' p/\e*ent b p=x*ent b' p-z*ent a' p:=fun p hm=>by
  rw [(hp p hm).1,(hp p hm).2,<- hd,Int.mul_add,Int.mul_add,Int.mul_add,Int.mul_add,Int.sub_mul,Int.sub_mul]
  simp only [<- Int.mul_assoc]
  rw [Int.mul_comm w x,Int.mul_comm w y,Int.mul_comm z y,Int.mul_comm z x]
  omega
 refine ⟨e*(c*w-d*z),e*(d*x-c*y),fun p hm=>?_⟩
 have k1:=mul_e he (x:=c*ent a p)
 have k2:=mul_e he (x:=d*ent b p)
 have k3:e*(c*ent a p)=c*w*ent a' p-c*y*ent b' p:=by
  rw [Int.mul_left_comm,(key p hm).1,Int.mul_sub,Int.mul_assoc,Int.mul_assoc]
 have k4:e*(d*ent b p)=d*x*ent b' p-d*z*ent a' p:=by
  rw [Int.mul_left_comm,(key p hm).2,Int.mul_sub,Int.mul_assoc,Int.mul_assoc]
 rw [Int.mul_assoc,Int.mul_assoc,Int.sub_mul,Int.sub_mul]
 rw [k3] at k1
 rw [k4] at k2
 rw [Int.mul_sub] at k1 k2 ⊢
 rw [Int.mul_sub]
 omega
structure Lat (L:(Nat->Int)->Prop):Prop where
 lin:∀ {v w:Nat->Int} (a b:Int),L v->L w->L fun p=>a*v p+b*w p
abbrev rA (rs:List (List Int)) (i p:Nat):Int:=ent (rs.getD i []) p
structure Ech (m:Nat) (rs:List (List Int)) (q:Nat->Nat):Prop where
 lt:∀ i,i<rs.length->q i<m
 inc:∀ i j,i<j->j<rs.length->q i<q j
 z:∀ i,i<rs.length->∀ p,p<q i->rA rs i p=0
 pos:∀ i,i<rs.length->1<=rA rs i (q i)
 red:∀ i j,i<j->j<rs.length->0<=rA rs i (q j)/\rA rs i (q j)<rA rs j (q j)
def Ld (q:Nat->Nat) (rs:List (List Int)) (v:Nat->Int) (i:Nat):Prop:=i<rs.length/\(∀ p,p<q i->v p=0)/\v (q i)≠0/\rA rs i (q i)∣v (q i)
def Gen (m:Nat) (L:(Nat->Int)->Prop) (rs:List (List Int)) (q:Nat->Nat):Prop:=∀ v,L v->(∀ p,p<m->v p=0)\/∃ i,Ld q rs v i
structure Dia (m:Nat) (L:(Nat->Int)->Prop) (r:Nat) (q:Nat->Nat) (u:Nat->Nat->Int) (B:Nat):Prop where
 mem:∀ i,i<r->L (u i)
 ne:∀ i,i<r->u i (q i)≠0
 off:∀ i k,i<r->k<r->i≠k->u i (q k)=0
 bd:∀ i,i<r->∀ p,p<m->(u i p).natAbs<=B
section
variable {m:Nat} {L:(Nat->Int)->Prop} {rs:List (List Int)} {q:Nat->Nat} {u:Nat->Nat->Int} {B:Nat}
theorem Dia.lead (hE:Ech m rs q) (hG:Gen m L rs q) (hD:Dia m L rs.length q u B) {i:Nat} (hi:i<rs.length):(rA rs i (q i)).natAbs<=(u i (q i)).natAbs:=by
 rcases hG _ (hD.mem i hi) with h | ⟨k,hk,_,h2,h3⟩
 ·exact absurd (h _ (hE.lt i hi)) (hD.ne i hi)
 ·by_cases e:i=k
  ·subst e
   exact Nat.le_of_dvd (Int.natAbs_pos.mpr h2) (Int.natAbs_dvd_natAbs.mpr h3)
  ·exact absurd (hD.off i k hi hk e) h2
def colS (u:Nat->Nat->Int) (p:Nat):Nat->Nat->Nat
 | _,0=>0
 | t,d+1=>(u t p).natAbs+colS u p (t+1) d
theorem Dia.claim (hL:Lat L) (hG:Gen m L rs q) (hD:Dia m L rs.length q u B):∀ (d t:Nat),t+d=rs.length->∀ (D:Nat) (w:Nat->Int),L w->(∀ k,k<rs.length->(w (q k)).natAbs<=D*(u k (q k)).natAbs)->(∀ k,k<t->w (q k)=0)->∀ p,p<m->(w p).natAbs<=D*colS u p t d
 | 0,t,ht,D,w,hw,_,hz,p,hp=>by
  rcases hG w hw with h | ⟨k,hk,_,h2,_⟩
  ·rw [h p hp]; exact Nat.zero_le _
  ·exact absurd (hz k (by omega)) h2
 | d+1,t,ht,D,w,hw,hb,hz,p,hp=>by
  have htr:t<rs.length:=by omega
  have h:=Dia.claim hL hG hD d (t+1) (by omega) (D*(u t (q t)).natAbs) _ (hL.lin (u t (q t)) (- w (q t)) hw (hD.mem t htr)) (fun k hk=>?_) (fun k hk=>?_) p hp
  ·have h1:(u t (q t)).natAbs*(w p).natAbs<=D*(u t (q t)).natAbs*colS u p (t+1) d+(w (q t)).natAbs*(u t p).natAbs:=by
    rw [<- Int.natAbs_mul,<- Int.natAbs_mul]
    have e:u t (q t)*w p=(u t (q t)*w p +-w (q t)*u t p)+w (q t)*u t p:=by rw [Int.neg_mul]; omega
    rw [e]
    exact Nat.le_trans (Int.natAbs_add_le _ _) (Nat.add_le_add_right h _)
   have h2:(w (q t)).natAbs*(u t p).natAbs<=D*(u t (q t)).natAbs*(u t p).natAbs:=Nat.mul_le_mul_right _ (hb t htr)
   have h3:(u t (q t)).natAbs*(w p).natAbs<=(u t (q t)).natAbs*(D*((u t p).natAbs+colS u p (t+1) d)):=by
    refine Nat.le_trans h1 ?_
    rw [show (u t (q t)).natAbs*(D*((u t p).natAbs+colS u p (t+1) d))=D*(u t (q t)).natAbs*colS u p (t+1) d+D*(u t (q t)).natAbs*(u t p).natAbs by rw [<- Nat.mul_assoc,Nat.mul_comm (u t (q t)).natAbs D,Nat.mul_add]; omega]
    omega
   exact Nat.le_of_mul_le_mul_left h3 (Int.natAbs_pos.mpr (hD.ne t htr))
  ·show (u t (q t)*w (q k) +-w (q t)*u t (q k)).natAbs<=_
   by_cases e:t=k
   ·subst e
    rw [show u t (q t)*w (q t) +-w (q t)*u t (q t)=0 by rw [Int.neg_mul,Int.mul_comm]; omega]
    exact Nat.zero_le _
   ·rw [hD.off t k htr hk e,Int.mul_zero,Int.add_zero,Int.natAbs_mul]
    have:=Nat.mul_le_mul_left (u t (q t)).natAbs (hb k hk)
    rw [Nat.mul_comm D,Nat.mul_assoc]; exact this
  ·show u t (q t)*w (q k) +-w (q t)*u t (q k)=0
   by_cases e:t=k
   ·subst e; rw [Int.neg_mul,Int.mul_comm]; omega
   ·rw [hD.off t k htr (by omega) e,hz k (by omega)]; omega
theorem Dia.bound (hL:Lat L) (hE:Ech m rs q) (hG:Gen m L rs q) (hM:∀ i,i<rs.length->L (rA rs i)) (hD:Dia m L rs.length q u B) {i p:Nat} (hi:i<rs.length) (hp:p<m):(rA rs i p).natAbs<=colS u p 0 rs.length:=by
 have:=Dia.claim hL hG hD rs.length 0 (by omega) 1 (rA rs i) (hM i hi) (fun k hk=>?_) (fun k hk=>absurd hk (Nat.not_lt_zero _)) p hp
 ·rwa [Nat.one_mul] at this
 ·rw [Nat.one_mul]
  have hl:=hD.lead hE hG hk
  rcases Nat.lt_trichotomy i k with h | h | h
  ·have:=hE.red i k h hk
   omega
  ·subst h; exact hl
  ·rw [hE.z i hi _ (hE.inc k i h hi)]; exact Nat.zero_le _
theorem colS_le {r p:Nat} (hD:∀ i,i<r->(u i p).natAbs<=B):∀ (d t:Nat),t+d<=r->colS u p t d<=d*B
 | 0,_,_=>Nat.zero_le _
 | d+1,t,h=>by
  have h1:=colS_le hD d (t+1) (by omega)
  have h2:=hD t (by omega)
  show (u t p).natAbs+colS u p (t+1) d<=(d+1)*B
  rw [Nat.add_mul,Nat.one_mul]; omega
def dt (n:Nat) (v s:Nat->Int):Int:=sumN n fun p=>v p*s p
theorem dt_lin (n:Nat) (v w s:Nat->Int) (a b:Int):dt n (fun p=>a*v p+b*w p) s=a*dt n v s+b*dt n w s:=by
 unfold dt
 rw [<- sumN_mul,<- sumN_mul,<- sumN_add]
 exact sumN_congr fun p _=>by rw [Int.add_mul,Int.mul_assoc,Int.mul_assoc]
theorem Dia.still (hL:Lat L) (hG:Gen m L rs q) (hD:Dia m L rs.length q u B) {s:Nat->Int}:∀ (d t:Nat),t+d=rs.length->(∀ k,t<=k->k<rs.length->dt m (u k) s=0)->∀ w,L w->(∀ k,k<t->w (q k)=0)->dt m w s=0
 | 0,t,ht,_,w,hw,hz=>by
  rcases hG w hw with h | ⟨k,hk,_,h2,_⟩
  ·exact sumN_zero fun p hp=>by rw [h p hp,Int.zero_mul]
  ·exact absurd (hz k (by omega)) h2
 | d+1,t,ht,hc,w,hw,hz=>by
  have htr:t<rs.length:=by omega
  have h:=Dia.still hL hG hD (s:=s) d (t+1) (by omega) (fun k h1 h2=>hc k (by omega) h2) _ (hL.lin (u t (q t)) (- w (q t)) hw (hD.mem t htr)) fun k hk=>by
   show u t (q t)*w (q k) +-w (q t)*u t (q k)=0
   by_cases e:t=k
   ·subst e; rw [Int.neg_mul,Int.mul_comm]; omega
   ·rw [hD.off t k htr (by omega) e,hz k (by omega)]; omega
  rw [dt_lin,hc t (Nat.le_refl _) htr,Int.mul_zero,Int.add_zero] at h
  rcases Int.mul_eq_zero.mp h with q | q
  ·exact absurd q (hD.ne t htr)
  ·exact q
theorem last_ne {c:Nat->Int}:∀ {r:Nat},(∀ k,k<r->c k=0)\/∃ k,k<r/\c k≠0/\∀ j,k<j->j<r->c j=0
 | 0=>.inl fun k hk=>absurd hk (Nat.not_lt_zero _)
 | r+1=>by
  by_cases e:c r=0
  ·rcases last_ne (c:=c) (r:=r) with h | ⟨k,hk,h1,h2⟩
   ·exact .inl fun k hk=>if q:k=r then q ▸ e else h k (by omega)
   ·exact .inr ⟨k,by omega,h1,fun j hj hr=>if q:j=r then q ▸ e else h2 j hj (by omega)⟩
  ·exact .inr ⟨r,by omega,e,fun j h1 h2=>by omega⟩
theorem dt_bd {n S B:Nat} {v s:Nat->Int} (hv:∀ p,p<n->(v p).natAbs<=B) (hs:∀ p,p<n->(s p).natAbs<=S):(dt n v s).natAbs<=n*(B*S):=by
 unfold dt
 induction n with
 | zero=>exact Nat.zero_le _
 | succ n ih=>
  have h1:=ih (fun p hp=>hv p (by omega)) (fun p hp=>hs p (by omega))
  have h2:=Nat.mul_le_mul (hv n (by omega)) (hs n (by omega))
  rw [<- Int.natAbs_mul] at h2
  show (sumN n (fun p=>v p*s p)+v n*s n).natAbs<=_
  have h3:=Int.natAbs_add_le (sumN n fun p=>v p*s p) (v n*s n)
  rw [Nat.add_mul,Nat.one_mul]; omega
theorem Dia.next (hL:Lat L) (hE:Ech m rs q) (hG:Gen m L rs q) (hD:Dia m L rs.length q u B) {s:Nat->Int} {S:Nat} (hs:∀ p,p<m->(s p).natAbs<=S) {rs':List (List Int)} {q':Nat->Nat} (hE':Ech m rs' q') (hM':∀ i,i<rs'.length->L (rA rs' i)/\dt m (rA rs' i) s=0) :
  ((∀ k,k<rs.length->dt m (u k) s=0)/\∃ u',(∀ i,i<rs'.length->∃ k,k<rs.length/\u' i=u k)/\Dia m (fun v=>L v/\dt m v s=0) rs'.length q' u' B)\/((∃ k,k<rs.length/\dt m (u k) s≠0)/\∃ u',Dia m (fun v=>L v/\dt m v s=0) rs'.length q' u' (2*(m*(B*S)*B))):=by
 have hσ:∃ σ:Nat->Nat,∀ i,i<rs'.length->σ i<rs.length/\q' i=q (σ i):=by
  have:∀ i,∃ k,i<rs'.length->k<rs.length/\q' i=q k:=fun i=>by
   by_cases hi:i<rs'.length
   ·rcases hG _ (hM' i hi).1 with h | ⟨k,hk,h1,h2,_⟩
    ·have:=hE'.pos i hi
     rw [h _ (hE'.lt i hi)] at this
     exact absurd this (by decide)
    ·refine ⟨k,fun _=>⟨hk,?_⟩⟩
     have p1:=hE'.pos i hi
     rcases Nat.lt_trichotomy (q' i) (q k) with h | h | h
     ·rw [h1 _ h] at p1; exact absurd p1 (by decide)
     ·exact h
     ·exact absurd (hE'.z i hi _ h) h2
   ·exact ⟨0,fun h=>absurd h hi⟩
  exact ⟨fun i=>(this i).choose,fun i=>(this i).choose_spec⟩
 obtain ⟨σ,hσ⟩:=hσ
 have inj:∀ i k,i<rs'.length->k<rs'.length->i≠k->σ i≠σ k:=fun i k hi hk e h=>by
  have e1:q' i=q' k:=by rw [(hσ i hi).2,(hσ k hk).2,h]
  rcases Nat.lt_or_gt_of_ne e with z | z
  ·have:=hE'.inc i k z hk; omega
  ·have:=hE'.inc k i z hi; omega
 rcases last_ne (c:=fun k=>dt m (u k) s) (r:=rs.length) with h | ⟨k,hk,h1,h2⟩
 ·refine .inl ⟨h,fun i=>u (σ i),fun i hi=>⟨σ i,(hσ i hi).1,rfl⟩,⟨fun i hi=>⟨hD.mem _ (hσ i hi).1,h _ (hσ i hi).1⟩,fun i hi=>?_,fun i k hi hk e=>?_,fun i hi p hp=>hD.bd _ (hσ i hi).1 p hp⟩⟩
  ·show u (σ i) (q' i)≠0
   rw [(hσ i hi).2]; exact hD.ne _ (hσ i hi).1
  ·show u (σ i) (q' k)=0
   rw [(hσ k hk).2]; exact hD.off _ _ (hσ i hi).1 (hσ k hk).1 (inj i k hi hk e)
 ·have hmiss:∀ i,i<rs'.length->k≠σ i:=fun i hi e=>by
   have hq:q' i=q k:=by rw [(hσ i hi).2,<- e]
   have hv:=hM' i hi
   have hz:=hE'.z i hi
   have hp:=hE'.pos i hi
   rw [hq] at hz hp
   have st:=Dia.still hL hG hD (s:=s) (rs.length-(k+1)) (k+1) (by omega) (fun j a b=>h2 j (by omega) b) _ (hL.lin (u k (q k)) (- rA rs' i (q k)) hv.1 (hD.mem k hk)) fun j hj=>by
    show u k (q k)*rA rs' i (q j) +-rA rs' i (q k)*u k (q j)=0
    by_cases e2:k=j
    ·subst e2; rw [Int.neg_mul,Int.mul_comm]; omega
    ·rw [hD.off k j hk (by omega) e2,hz _ (hE.inc j k (by omega) hk)]; omega
   rw [dt_lin,hv.2,Int.mul_zero,Int.zero_add] at st
   rcases Int.mul_eq_zero.mp st with z | z
   ·omega
   ·exact h1 z
  refine .inr ⟨⟨k,hk,h1⟩,fun i p=>dt m (u k) s*u (σ i) p +-dt m (u (σ i)) s*u k p,⟨fun i hi=>⟨hL.lin _ _ (hD.mem _ (hσ i hi).1) (hD.mem k hk),?_⟩,fun i hi=>?_,fun i j hi hj e=>?_,fun i hi p hp=>?_⟩⟩
  ·rw [dt_lin,Int.neg_mul,Int.mul_comm]; omega
  ·show dt m (u k) s*u (σ i) (q' i) +-dt m (u (σ i)) s*u k (q' i)≠0
   rw [(hσ i hi).2,hD.off k (σ i) hk (hσ i hi).1 (hmiss i hi),Int.mul_zero,Int.add_zero]
   exact Int.mul_ne_zero h1 (hD.ne _ (hσ i hi).1)
  ·show dt m (u k) s*u (σ i) (q' j) +-dt m (u (σ i)) s*u k (q' j)=0
   rw [(hσ j hj).2,hD.off k (σ j) hk (hσ j hj).1 (hmiss j hj),hD.off _ _ (hσ i hi).1 (hσ j hj).1 (inj i j hi hj e)]; omega
  ·show (dt m (u k) s*u (σ i) p +-dt m (u (σ i)) s*u k p).natAbs<=_
   have a1:=dt_bd (fun p hp=>hD.bd k hk p hp) hs
   have a2:=dt_bd (fun p hp=>hD.bd _ (hσ i hi).1 p hp) hs
   have b1:=Nat.mul_le_mul a1 (hD.bd _ (hσ i hi).1 p hp)
   have b2:=Nat.mul_le_mul a2 (hD.bd k hk p hp)
   have b3:=Int.natAbs_add_le (dt m (u k) s*u (σ i) p) (- dt m (u (σ i)) s*u k p)
   rw [Int.natAbs_mul,Int.natAbs_mul,Int.natAbs_neg] at b3
   omega
end
theorem fdiv_r {a b:Int} (h:b≠0):(0<b->0<=a-a.fdiv b*b/\a-a.fdiv b*b<b)/\(b<0->b<a-a.fdiv b*b/\a-a.fdiv b*b<=0):=by
 have e:a-a.fdiv b*b=a.fmod b:=by
  have:=Int.fmod_add_mul_fdiv a b
  rw [Int.mul_comm b] at this; omega
 rw [e]
 refine ⟨fun h0=>⟨Int.fmod_nonneg_of_pos a h0,Int.fmod_lt_of_pos a h0⟩,fun h0=>?_⟩
 have h1:=Int.fmod_nonneg_of_pos (-a) (show 0 < -b by omega)
 have h2:=Int.fmod_lt_of_pos (-a) (show 0 < -b by omega)
 rw [Int.neg_fmod_neg] at h1 h2
 omega
theorem fdiv_q {a b:Int} (h:b≠0):(a.fdiv b).natAbs*b.natAbs<=a.natAbs+b.natAbs:=by
 have h1:=fdiv_r (a:=a) h
 rw [<- Int.natAbs_mul]
 rcases Int.lt_or_gt_of_ne h with q | q
 ·have:=h1.2 q; omega
 ·have:=h1.1 q; omega
theorem fdiv_same {a b:Int} (h:(0<b/\0<=a)\/(b<0/\a<=0)):(a-a.fdiv b*b).natAbs+(a.fdiv b).natAbs*b.natAbs=a.natAbs:=by
 have hb:b≠0:=by omega
 have h1:=fdiv_r (a:=a) hb
 rw [<- Int.natAbs_mul]
 rcases h with ⟨q,z⟩ | ⟨q,z⟩
 ·have h2:=h1.1 q
  have:0<=a.fdiv b*b:=Int.mul_nonneg (Int.fdiv_nonneg z (by omega)) (by omega)
  omega
 ·have h2:=h1.2 q
  have:a.fdiv b*b<=0:=by
   have e:a.fdiv b=(-a).fdiv (-b):=by rw [Int.neg_fdiv_neg]
   rw [e]
   have:=Int.mul_nonneg (Int.fdiv_nonneg (show 0 <= -a by omega) (show 0 <= -b by omega)) (show 0 <= -b by omega)
   rw [Int.mul_neg] at this
   omega
  omega
def phi (u v a b:Int):Nat:=v.natAbs*a.natAbs+u.natAbs*b.natAbs
theorem phi_step {u v a b:Int} (h:(0<b/\0<=a)\/(b<0/\a<=0)):phi v (u-a.fdiv b*v) b (a-a.fdiv b*b)<=phi u v a b:=by
 unfold phi
 have h1:=fdiv_same h
 have h2:(u-a.fdiv b*v).natAbs<=u.natAbs+(a.fdiv b).natAbs*v.natAbs:=by
  rw [<- Int.natAbs_mul]; omega
 have h3:=Nat.mul_le_mul_right b.natAbs h2
 have h4:v.natAbs*a.natAbs=v.natAbs*(a-a.fdiv b*b).natAbs+(a.fdiv b).natAbs*v.natAbs*b.natAbs:=by
  rw [<- h1,Nat.mul_add,Nat.mul_comm (a.fdiv b).natAbs v.natAbs,Nat.mul_assoc]
 rw [Nat.add_mul] at h3
 omega
theorem phi_first {u v a b:Int} (h:b≠0):phi v (u-a.fdiv b*v) b (a-a.fdiv b*b)<=phi u v a b+2*(v.natAbs*b.natAbs):=by
 unfold phi
 have h2:(u-a.fdiv b*v).natAbs<=u.natAbs+(a.fdiv b).natAbs*v.natAbs:=by
  rw [<- Int.natAbs_mul]; omega
 have h3:=Nat.mul_le_mul_right b.natAbs h2
 have h5:=Nat.mul_le_mul_left v.natAbs (fdiv_q (a:=a) h)
 have h6:(a-a.fdiv b*b).natAbs<=b.natAbs:=by
  have:=fdiv_r (a:=a) h
  rcases Int.lt_or_gt_of_ne h with q | q
  ·have:=this.2 q; omega
  ·have:=this.1 q; omega
 have h7:=Nat.mul_le_mul_left v.natAbs h6
 rw [Nat.add_mul] at h3
 rw [Nat.mul_add,Nat.mul_left_comm] at h5
 rw [Nat.mul_assoc] at h3
 omega
theorem bits_of_le {z:Int} {k:Nat} (h:z.natAbs<=2^k):Builtin.Int.intBits z<=k+1:=intBits_le_iff.mpr (Nat.lt_of_le_of_lt h (Nat.pow_lt_pow_right (by decide) (Nat.lt_succ_self k)))
structure Rb (m k:Nat) (r:List Int):Prop where
 len:r.length=m
 bd:∀ p,p<m->(ent r p).natAbs<=2^k
theorem Rb.mono {m k l:Nat} {r:List Int} (h:Rb m k r) (hl:k<=l):Rb m l r:=⟨h.len,fun p hp=>Nat.le_trans (h.bd p hp) (Nat.pow_le_pow_right (by decide) hl)⟩
def lowL (m:Nat) (row lead:List Int) (c:Nat):List Int:=(List.range m).map fun p=>ent row p + -((ent row c).fdiv (ent lead c))*ent lead p
theorem low_at {m c p:Nat} {row lead:List Int} (h:p<m):ent (lowL m row lead c) p=ent row p-(ent row c).fdiv (ent lead c)*ent lead p:=by
 show (lowL m row lead c).getD p 0=_
 unfold lowL
 rw [vec_getD h,Int.neg_mul]; omega
theorem low_len (m:Nat) (row lead:List Int) (c:Nat):(lowL m row lead c).length=m:=by simp [lowL]
theorem pow2_1 (k:Nat):1<=2^k:=Nat.one_le_two_pow
theorem low_q {a b:Int} {k:Nat} (hb:b≠0) (ha:a.natAbs<=2^k):(a.fdiv b).natAbs<=2^(k+1):=by
 have h:=fdiv_q (a:=a) hb
 have h1:1<=b.natAbs:=Int.natAbs_pos.mpr hb
 have h2:(a.fdiv b).natAbs*b.natAbs<=(a.natAbs+1)*b.natAbs:=by
  rw [Nat.add_mul,Nat.one_mul]
  have:=Nat.mul_le_mul_left a.natAbs h1
  omega
 have h3:=Nat.le_of_mul_le_mul_right h2 h1
 have:=pow2_1 k
 rw [Nat.pow_succ]; omega
theorem low_ok {m c k l:Nat} {row lead:List Int} (hm:m<=7) (hc:c<m) (hr:Rb m k row) (hl:Rb m l lead) (h0:ent lead c≠0) (h9:(ent lead c).natAbs<2^8999) (hk:k<=1000000) (hll:l<=1000000):f_lowered [tI row,tI lead,.int (c:Int)]=.ok (tI (lowL m row lead c)):=by
 have l1:=hr.len
 have l2:=hl.len
 have hq:=low_q (a:=ent row c) h0 (hr.bd c hc)
 have bq:=bits_of_le (z:=-((ent row c).fdiv (ent lead c))) (k:=k+1) (by rw [Int.natAbs_neg]; exact hq)
 have k1:f_shifted [tI row,tI lead,.int (-((ent row c).fdiv (ent lead c)))]=.ok (tI (lowL m row lead c)):=by
  have hz:=zipR_2 (tI row) (tI lead) _ _ rfl rfl
  rw [zipW_I2 (by omega),l1] at hz
  have e:∀ N mg me ρ (h:∀ j∈List.range m,∃ ρ1,mg (.tup [.int (row.getD j 0),.int (lead.getD j 0)]) (ρ++List.replicate (N-ρ.length) Sl.un)=some ρ1/\me ρ1=.ok (.int (ent row j + -((ent row c).fdiv (ent lead c))*ent lead j))),mComp N mg yes me ((List.range m).map fun j=>W.tup [.int (row.getD j 0),.int (lead.getD j 0)]) ρ=.ok (lI (lowL m row lead c)):=fun N mg me ρ h=>by
   rw [mComp_all (fun j=>.int (ent row j + -((ent row c).fdiv (ent lead c))*ent lead j)) _ _ ρ (by simp; omega) h,mapI]; rfl
  exists rpB,m_shifted,hz
  rw [e]
  ·exists rp18
  ·intro j hj
   have hj:j<m:=by simpa using hj
   have bl:=bits_of_le (z:=lead.getD j 0) (k:=l) (hl.bd j hj)
   have mm:=mulB_b (i:=-((ent row c).fdiv (ent lead c))) (j:=lead.getD j 0) (by omega)
   refine ⟨_,rfl,?_⟩
   exists mm
   rfl
 have dv:fI CDivZ gFz (.int (row.getD c 0)) (.int (lead.getD c 0))=.ok (.int ((ent row c).fdiv (ent lead c))):=divZ_ii h0 h9
 exists rpB,m_lowered,dv,k1
structure Eu (m c:Nat) (R O:List Int) (k:Nat) (row other:List Int):Prop where
 two:Two m R O row other
 rb:Rb m k row
 rb2:Rb m k other
 sg:(0<ent row c/\0<=ent other c)\/(ent row c<0/\ent other c<=0)
 ph:∀ p,p<m->phi (ent row p) (ent other p) (ent row c) (ent other c)<=2^k
theorem le_phi {u v a b:Int} (h:a≠0):v.natAbs<=phi u v a b:=by
 unfold phi
 have:=Nat.mul_le_mul_left v.natAbs (show 1<=a.natAbs from Int.natAbs_pos.mpr h)
 omega
theorem Eu.first {m c κ b:Nat} {R O:List Int} (hc:c<m) (hR:Rb m κ R) (hO:Rb m b O) (h0:ent O c≠0):Eu m c R O (max κ b+b+2) O (lowL m R O c):=by
 have ph:∀ p,p<m->phi (ent O p) (ent (lowL m R O c) p) (ent O c) (ent (lowL m R O c) c)<=2^(max κ b+b+2):=fun p hp=>by
  rw [low_at hp,low_at hc]
  refine Nat.le_trans (phi_first h0) ?_
  unfold phi
  have e1:=Nat.mul_le_mul (hO.bd p hp) (hR.bd c hc)
  have e2:=Nat.mul_le_mul (hR.bd p hp) (hO.bd c hc)
  have e3:=Nat.mul_le_mul (hO.bd p hp) (hO.bd c hc)
  rw [<- Nat.pow_add] at e1 e2 e3
  have f1:2^(b+κ)<=2^(max κ b+b):=Nat.pow_le_pow_right (by decide) (by omega)
  have f2:2^(κ+b)<=2^(max κ b+b):=Nat.pow_le_pow_right (by decide) (by omega)
  have f3:2^(b+b)<=2^(max κ b+b):=Nat.pow_le_pow_right (by decide) (by omega)
  rw [Nat.pow_add _ _ 2]
  omega
 refine ⟨(Two.refl m R O).step (q:=(ent R c).fdiv (ent O c)) fun p hp=>low_at hp,hO.mono (by omega),⟨low_len _ _ _ _,fun p hp=>Nat.le_trans (le_phi h0) (ph p hp)⟩,?_,ph⟩
 rw [low_at hc]
 have:=fdiv_r (a:=ent R c) h0
 rcases Int.lt_or_gt_of_ne h0 with q | q
 ·have:=this.2 q; omega
 ·have:=this.1 q; omega
theorem Eu.next {m c k:Nat} {R O row other:List Int} (hc:c<m) (h:Eu m c R O k row other) (h0:ent other c≠0):Eu m c R O k other (lowL m row other c):=by
 have sg:(0<ent other c/\0<=ent row c)\/(ent other c<0/\ent row c<=0):=by
  have:=h.sg; omega
 have ph:∀ p,p<m->phi (ent other p) (ent (lowL m row other c) p) (ent other c) (ent (lowL m row other c) c)<=2^k:=fun p hp=>by
  rw [low_at hp,low_at hc]
  exact Nat.le_trans (phi_step sg) (h.ph p hp)
 refine ⟨h.two.step (q:=(ent row c).fdiv (ent other c)) fun p hp=>low_at hp,h.rb2,⟨low_len _ _ _ _,fun p hp=>Nat.le_trans (le_phi h0) (ph p hp)⟩,?_,ph⟩
 rw [low_at hc]
 have:=fdiv_r (a:=ent row c) h0
 rcases Int.lt_or_gt_of_ne h0 with q | q
 ·have:=this.2 q; omega
 ·have:=this.1 q; omega
theorem low_lt {m c:Nat} {row other:List Int} (hc:c<m) (h0:ent other c≠0):(ent (lowL m row other c) c).natAbs<(ent other c).natAbs:=by
 rw [low_at hc]
 have:=fdiv_r (a:=ent row c) h0
 rcases Int.lt_or_gt_of_ne h0 with q | q
 ·have:=this.2 q; omega
 ·have:=this.1 q; omega
structure Dv (m c:Nat) (R O:List Int) (k:Nat) (p0 p1:List Int):Prop where
 two:Two m R O p0 p1
 z:ent p1 c=0
 or:(p0=R/\p1=O)\/ent p0 c≠0
 rb:Rb m k p0
 rb2:Rb m k p1
theorem divided_ok {m c κ b:Nat} {R O:List Int} (hm:m<=7) (hc:c<m) (hR:Rb m κ R) (hO:Rb m b O) (h9:max κ b+b+2<=8998):Ok (f_divided [tI R,tI O,.int (c:Int)]) fun v=>∃ p0 p1,v=.tup [tI p0,tI p1]/\Dv m c R O (max κ b+b+2) p0 p1:=by
 have lt9:∀ {z:Int} {k:Nat},z.natAbs<=2^k->k<=8998->z.natAbs<2^8999:=fun {z k} h hk=>Nat.lt_of_le_of_lt h (Nat.pow_lt_pow_right (by decide) (by omega))
 exists rpB,m_divided
 refine ok_end (po_seq ?_)
 refine po_while (fun M ρ=>∃ (row other:List Int) (z:Sl),((ρ = [.par (tI row),.par (tI other),.par (.int (c:Int)),z]/\row=R/\other=O)\/(ρ = [.val (tI row),.val (tI other),.par (.int (c:Int)),z]/\Eu m c R O (max κ b+b+2) row other))/\M=(ent other c).natAbs) ?_ (ent O c).natAbs _ ⟨R,O,.un,.inl ⟨rfl,rfl,rfl⟩,rfl⟩
 rintro M ρ ⟨row,other,z,hρ,rfl⟩
 have hlen:row.length=m/\other.length=m:=by
  rcases hρ with ⟨_,rfl,rfl⟩ | ⟨_,h⟩
  ·exact ⟨hR.len,hO.len⟩
  ·exact ⟨h.rb.len,h.rb2.len⟩
 obtain ⟨l1,l2⟩:=hlen
 by_cases h0:ent other c=0
 ·have d1:decide (other.getD c 0=0)=true:=decide_eq_true h0
  refine ⟨false,?_,?_⟩
  ·rcases hρ with ⟨rfl,_,_⟩ | ⟨rfl,_⟩
   all_goals exists d1
  rw [if_neg (by decide)]
  rcases hρ with ⟨rfl,rfl,rfl⟩ | ⟨rfl,h⟩
  ·exists chk_no (noL_tI row),chk_no (noL_tI other)
   exact ⟨row,other,rfl,Two.refl _ _ _,h0,.inl ⟨rfl,rfl⟩,hR.mono (by omega),hO.mono (by omega)⟩
  ·exists chk_no (noL_tI row),chk_no (noL_tI other)
   refine ⟨row,other,rfl,h.two,h0,.inr ?_,h.rb,h.rb2⟩
   have:=h.sg; omega
 ·have d1:decide (other.getD c 0=0)=false:=decide_eq_false h0
  refine ⟨true,?_,?_⟩
  ·rcases hρ with ⟨rfl,_,_⟩ | ⟨rfl,_⟩
   all_goals exists d1
  rw [if_pos rfl]
  rcases hρ with ⟨rfl,rfl,rfl⟩ | ⟨rfl,h⟩
  ·have k1:=low_ok (c:=c) hm hc hR hO h0 (lt9 (hO.bd c hc) (by omega)) (by omega) (by omega)
   exists k1,chk_no (noL_tI other),chk_no (noL_tI (lowL m row other c))
   exact ⟨_,low_lt hc h0,other,lowL m row other c,_,.inr ⟨rfl,Eu.first hc hR hO h0⟩,rfl⟩
  ·have k1:=low_ok (c:=c) hm hc h.rb h.rb2 h0 (lt9 (h.rb2.bd c hc) (by omega)) (by omega) (by omega)
   exists k1,chk_no (noL_tI other),chk_no (noL_tI (lowL m row other c))
   exact ⟨_,low_lt hc h0,other,lowL m row other c,_,.inr ⟨rfl,h.next hc h0⟩,rfl⟩
def kp (bs:Nat->Nat):Nat->Nat
 | 0=>bs 0
 | i+1=>max (kp bs i) (bs (i+1))+bs (i+1)+2
structure Gth (m c:Nat) (M:(Nat->Int)->Prop) (bs:Nat->Nat) (rows:List (List Int)) (i:Nat) (kept:List (List Int)):Prop where
 len:kept.length=i+1
 sp:∀ v,Spn m rows v->Spn m (kept++rows.drop (i+1)) v
 ind:Ind m rows->Ind m (kept++rows.drop (i+1))
 z:∀ j,1<=j->j<=i->rA kept j c=0
 or:(kept=rows.take (i+1)/\rA kept 0 c=0)\/rA kept 0 c≠0
 mem:∀ j,j<=i->M (rA kept j)
 rb:Rb m (kp bs i) (kept.getD 0 [])
 rb2:∀ j,1<=j->j<=i->Rb m (kp bs j) (kept.getD j [])
theorem cs_cons {cs:List Int} {n:Nat} (h:cs.length=n+1):∃ c t,cs=c::t/\t.length=n:=by
 cases cs with
 | nil=>cases h
 | cons c t=>exact ⟨c,t,rfl,by simpa using h⟩
theorem cs_mid {cs:List Int} {n k:Nat} (h:cs.length=n+(k+1)):∃ x c y,cs=x++c::y/\x.length=n/\y.length=k:=by
 have h1:(cs.drop n).length=k+1:=by rw [List.length_drop]; omega
 obtain ⟨c,y,e,hy⟩:=cs_cons h1
 exact ⟨cs.take n,c,y,by rw [<- e,List.take_append_drop],by rw [List.length_take]; omega,hy⟩
section
variable {m:Nat} {a b a' b':List Int} {K rest:List (List Int)}
theorem lc_two (c0 c1:Int) {x y:List Int} (hx:x.length=K.length) (p:Nat):lc (c0::x++c1::y) (a::K++b::rest) p=c0*ent a p+c1*ent b p+(lc x K p+lc y rest p):=by
 have h:lc ((c0::x)++(c1::y)) ((a::K)++(b::rest)) p=_:=lc_app (by simp [hx]) p
 rw [h]
 show c0*ent a p+lc x K p+(c1*ent b p+lc y rest p)=_
 omega
theorem Spn.swap {v:Nat->Int} (h:Two m a b a' b') (hs:Spn m (a::K++b::rest) v):Spn m ((a'::K ++ [b'])++rest) v:=by
 obtain ⟨cs,hl,hv⟩:=hs
 obtain ⟨c0,t,rfl,ht⟩:=cs_cons (n:=K.length+(rest.length+1)) (by rw [hl]; simp)
 obtain ⟨x,c1,y,rfl,hx,hy⟩:=cs_mid ht
 obtain ⟨c',d',hc⟩:=h.back c0 c1
 refine ⟨c'::x++d'::y,by simp [hx,hy],fun p hp=>?_⟩
 rw [hv p hp,List.append_assoc]
 have e1:=lc_two (a:=a) (b:=b) (rest:=rest) c0 c1 (y:=y) hx p
 have e2:=lc_two (a:=a') (b:=b') (rest:=rest) c' d' (y:=y) hx p
 have:=hc p hp
 show lc (c0::x++c1::y) (a::K++b::rest) p=lc (c'::x++d'::y) (a'::K++b'::rest) p
 omega
theorem Ind.swap (h:Two m a b a' b') (hi:Ind m (a::K++b::rest)):Ind m ((a'::K ++ [b'])++rest):=fun cs hl hz c hc=>by
 obtain ⟨c0,t,rfl,ht⟩:=cs_cons (n:=K.length+(rest.length+1)) (by rw [hl]; simp)
 obtain ⟨x,c1,y,rfl,hx,hy⟩:=cs_mid ht
 obtain ⟨c',d',hr,hzz⟩:=h.rel c0 c1
 have key:=hi (c'::x++d'::y) (by simp [hx,hy]) fun p hp=>by
  have e1:=lc_two (a:=a) (b:=b) (rest:=rest) c' d' (y:=y) hx p
  have e2:=lc_two (a:=a') (b:=b') (rest:=rest) c0 c1 (y:=y) hx p
  have e3:=hz p hp
  rw [List.append_assoc] at e3
  change lc (c0::x++c1::y) (a'::K++b'::rest) p=0 at e3
  have:=hr p hp
  omega
 obtain ⟨z0,z1⟩:=hzz (key c' (by simp)) (key d' (by simp))
 rcases List.mem_cons.mp hc with q | q
 ·rw [q,z0]
 ·rcases List.mem_append.mp q with q | q
  ·exact key c (by simp [q])
  ·rcases List.mem_cons.mp q with q | q
   ·rw [q,z1]
   ·exact key c (by simp [q])
theorem two_lin (h:Two m a b a' b') (la:a.length=m) (lb:b.length=m) (la':a'.length=m) (lb':b'.length=m):∃ x y z w:Int,(ent a'=fun p=>x*ent a p+y*ent b p)/\ent b'=fun p=>z*ent a p+w*ent b p:=by
 obtain ⟨x,y,z,w,e,_,_,hp⟩:=h
 have out:∀ {r:List Int},r.length=m->∀ p,¬ p<m->ent r p=0:=fun {r} hl p hp=>by
  unfold ent
  rw [List.getD_eq_getElem?_getD,List.getElem?_eq_none (by omega)]; rfl
 refine ⟨x,y,z,w,funext fun p=>?_,funext fun p=>?_⟩
 ·by_cases q:p<m
  ·exact (hp p q).1
  ·rw [out la' p q,out la p q,out lb p q]; omega
 ·by_cases q:p<m
  ·exact (hp p q).2
  ·rw [out lb' p q,out la p q,out lb p q]; omega
end
theorem cutL_t (rows:List (List Int)):cutL rows none (some 1)=rows.take 1:=by
 unfold cutL
 rw [HT.sIx_none,show ((1:Int))=((1:Nat):Int) from rfl,HT.sIx_nat,List.drop_zero]
 cases rows with
 | nil=>rfl
 | cons r rs=>simp
theorem cutL_d (rows:List (List Int)):cutL rows (some 1) none=rows.drop 1:=by
 unfold cutL
 rw [HT.sIx_none,show ((1:Int))=((1:Nat):Int) from rfl,HT.sIx_nat]
 cases rows with
 | nil=>rfl
 | cons r rs=>simp
theorem getD_cons {α:Type} (a:α) (l:List α) (i:Nat) (d:α):(a::l).getD (i+1) d=l.getD i d:=by simp
theorem getD_app {α:Type} {xs ys:List α} {d:α} {i:Nat} (h:i<xs.length):(xs++ys).getD i d=xs.getD i d:=by
 rw [List.getD_eq_getElem?_getD,List.getD_eq_getElem?_getD,List.getElem?_append_left h]
theorem getD_end {α:Type} {xs:List α} {y d:α} {i:Nat} (h:xs.length=i):(xs ++ [y]).getD i d=y:=by
 subst h
 rw [List.getD_eq_getElem?_getD,List.getElem?_append_right (Nat.le_refl _),Nat.sub_self]; rfl
theorem drop_get {α:Type} {l:List α} {i:Nat} {d:α} (h:i<l.length):l.drop i=l.getD i d::l.drop (i+1):=by
 rw [List.drop_eq_getElem_cons h,List.getD_eq_getElem?_getD,List.getElem?_eq_getElem h]; rfl
theorem take_get {α:Type} {l:List α} {i:Nat} {d:α} (h:i<l.length):l.take (i+1)=l.take i ++ [l.getD i d]:=by
 rw [List.take_succ,List.getElem?_eq_getElem h,List.getD_eq_getElem?_getD,List.getElem?_eq_getElem h]; rfl
section
variable {m c:Nat} {M:(Nat->Int)->Prop} {bs:Nat->Nat} {rows:List (List Int)}
theorem Gth.start (hr0:0<rows.length) (hrb:∀ j,j<rows.length->Rb m (bs j) (rows.getD j [])) (hmem:∀ j,j<rows.length->M (rA rows j)):Gth m c M bs rows 0 (rows.take 1):=by
 have e:(rows.take 1).getD 0 []=rows.getD 0 []:=by
  rw [List.getD_eq_getElem?_getD,List.getElem?_take,if_pos (by decide),List.getD_eq_getElem?_getD]
 refine ⟨by rw [List.length_take]; omega,fun v h=>by rw [List.take_append_drop]; exact h,fun h=>by rw [List.take_append_drop]; exact h,fun j h1 h2=>by omega,?_,fun j hj=>?_,by rw [e]; exact hrb 0 hr0,fun j h1 h2=>by omega⟩
 ·by_cases q:rA (rows.take 1) 0 c=0
  ·exact .inl ⟨rfl,q⟩
  ·exact .inr q
 ·have:j=0:=by omega
  subst this
  show M (ent ((rows.take 1).getD 0 []))
  rw [e]; exact hmem 0 hr0
theorem Gth.go (hM:Lat M) (hrb:∀ j,j<rows.length->Rb m (bs j) (rows.getD j [])) (hmem:∀ j,j<rows.length->M (rA rows j)) {i:Nat} {k0 p0 p1:List Int} {K:List (List Int)} (hi:i+1<rows.length) (h:Gth m c M bs rows i (k0::K)) (hd:Dv m c k0 (rows.getD (i+1) []) (kp bs (i+1)) p0 p1):Gth m c M bs rows (i+1) (p0::K ++ [p1]):=by
 have hK:K.length=i:=by have:=h.len; simpa using this
 have hdr:=drop_get (d:=[]) hi
 obtain ⟨x,y,z,w,e0,e1⟩:=two_lin hd.two h.rb.len (hrb _ hi).len hd.rb.len hd.rb2.len
 have mk0:M (ent k0):=h.mem 0 (Nat.zero_le _)
 have mrow:M (ent (rows.getD (i+1) [])):=hmem (i+1) hi
 have low:∀ j,1<=j->j<=i->(p0::K ++ [p1]).getD j []=(k0::K).getD j []:=fun j h1 h2=>by
  obtain ⟨j,rfl⟩:∃ j',j=j'+1:=⟨j-1,by omega⟩
  rw [List.cons_append,getD_cons,getD_cons,getD_app (by omega)]
 have last:(p0::K ++ [p1]).getD (i+1) []=p1:=getD_end (by simp [hK])
 refine ⟨by simp [hK],fun v hv=>?_,fun hi'=>?_,fun j h1 h2=>?_,?_,fun j hj=>?_,hd.rb,fun j h1 h2=>?_⟩
 ·have:=h.sp v hv
  rw [hdr] at this
  exact Spn.swap hd.two this
 ·have:=h.ind hi'
  rw [hdr] at this
  exact Ind.swap hd.two this
 ·by_cases q:j=i+1
  ·subst q
   show ent ((p0::K ++ [p1]).getD (i+1) []) c=0
   rw [last]; exact hd.z
  ·show ent ((p0::K ++ [p1]).getD j []) c=0
   rw [low j h1 (by omega)]; exact h.z j h1 (by omega)
 ·rcases hd.or with ⟨q0,q1⟩ | q
  ·rcases h.or with ⟨r1,r2⟩ | r
   ·refine .inl ⟨?_,?_⟩
    ·rw [take_get (d:=[]) hi,<- r1,q0,q1]
    ·show ent p0 c=0
     rw [q0]; exact r2
   ·refine .inr ?_
    show ent p0 c≠0
    rw [q0]; exact r
  ·exact .inr q
 ·show M (ent ((p0::K ++ [p1]).getD j []))
  by_cases q:j=i+1
  ·subst q
   rw [last,e1]; exact hM.lin z w mk0 mrow
  ·by_cases q0:j=0
   ·subst q0
    show M (ent p0)
    rw [e0]; exact hM.lin x y mk0 mrow
   ·rw [low j (by omega) (by omega)]; exact h.mem j (by omega)
 ·by_cases q:j=i+1
  ·subst q
   rw [last]; exact hd.rb2
  ·rw [low j h1 (by omega)]; exact h.rb2 j h1 (by omega)
end
theorem gathered_ok {m c:Nat} {M:(Nat->Int)->Prop} {bs:Nat->Nat} {rows:List (List Int)} (hm:m<=7) (hc:c<m) (hM:Lat M) (hr0:0<rows.length) (hr6:rows.length<=6) (hrb:∀ j,j<rows.length->Rb m (bs j) (rows.getD j [])) (hmem:∀ j,j<rows.length->M (rA rows j)) (h9:∀ j,j<rows.length->kp bs j<=8998) {X:W} (hX:X=lS rows):Ok (f_gathered [X,.int (c:Int)]) fun v=>∃ gs,v=lS gs/\Gth m c M bs rows (rows.length-1) gs:=by
 subst hX
 exists rpB,m_gathered
 rw [cutL_t,cutL_d]
 refine ok_end (po_fors (fun i ρ=>∃ (kept:List (List Int)) (a3 a4:Sl),ρ = [.par (lS rows),.par (.int (c:Int)),.own (kept.map tI),a3,a4]/\Gth m c M bs rows i kept) ⟨_,_,_,rfl,Gth.start hr0 hrb hmem⟩ ?_ ?_)
 ·rintro i u ρ hu ⟨kept,a3,a4,rfl,h⟩
  rw [List.getElem?_map] at hu
  have hi:i+1<rows.length:=by
   rcases Nat.lt_or_ge (i+1) rows.length with q | q
   ·exact q
   ·rw [List.getElem?_eq_none (by rw [List.length_drop]; omega)] at hu; cases hu
  have hu':u=tI (rows.getD (i+1) []):=by
   rw [List.getElem?_drop,Nat.add_comm 1 i,List.getElem?_eq_getElem hi] at hu
   cases hu
   rw [List.getD_eq_getElem?_getD,List.getElem?_eq_getElem hi]; rfl
  subst hu'
  obtain ⟨k0,K,hk0,hkd,hk⟩:∃ k0 K,kept.getD 0 []=k0/\kept.drop 1=K/\kept=k0::K:=by
   cases kept with
   | nil=>have:=h.len; simp at this
   | cons k0 K=>exact ⟨k0,K,rfl,rfl,rfl⟩
  have hkl:0<kept.length:=by rw [h.len]; omega
  have hrb0:=h.rb
  rw [hk0] at hrb0
  obtain ⟨_,k1,p0,p1,rfl,hd⟩:=divided_ok hm hc hrb0 (hrb _ hi) (h9 (i+1) hi)
  have a0:L2.atI (kept.map tI) 0=some (tI k0):=by rw [hk]; exact atW_of (k:=0) rfl
  have b0:L2.atI [tI p0,tI p1] 0=some (tI p0):=rfl
  have b1:L2.atI [tI p0,tI p1] 1=some (tI p1):=rfl
  rw [hk] at h
  have hK:K.length=i:=by have:=h.len; simpa using this
  have c1:fCat true (.lst [tI p0]) (.lst (K.map tI))=.ok (lS (p0::K)):=by
   exists rp18
   rfl
  have c2:fCat true (lS (p0::K)) (.lst [tI p1])=.ok (lS (p0::K ++ [p1])):=by
   exists rp18
   rfl
  refine ⟨_,rfl,?_⟩
  exists a0
  rw [k1]
  exists b0,b1,cutL_d,hkd,c1,c2
  exact ⟨p0::K ++ [p1],_,_,rfl,Gth.go hM hrb hmem hi h hd⟩
 ·rintro ρ ⟨kept,a3,a4,rfl,h⟩
  rw [List.length_map,List.length_drop] at h
  exists rp18
  exact ⟨kept,rfl,h⟩
def bsT (b:Nat):Nat->Nat->Nat
 | 0=>fun _=>b
 | t+1=>fun j=>kp (bsT b t) (j+1)
structure Nt (m:Nat) (M:(Nat->Int)->Prop) (r b c:Nat) (fs:List (List Int)) (q:Nat->Nat) (ls:List (List Int)):Prop where
 tot:fs.length+ls.length=r
 ech:Ech m fs q
 qc:∀ i,i<fs.length->q i<c
 fm:∀ i,i<fs.length->M (rA fs i)
 lm:∀ j,j<ls.length->M (rA ls j)
 lz:∀ j,j<ls.length->∀ p,p<c->rA ls j p=0
 ind:Ind m ls
 gn:∀ x,M x->(∃ i,Ld q fs x i)\/((∀ p,p<c->x p=0)/\Spn m ls x)
 lb:∀ j,j<ls.length->Rb m (bsT b fs.length j) (ls.getD j [])
 fb:∀ i,i<fs.length->Rb m (9000*fs.length) (fs.getD i [])
theorem out_0 {r:List Int} {m:Nat} (hl:r.length=m) {p:Nat} (hp:¬ p<m):ent r p=0:=by
 unfold ent
 rw [List.getD_eq_getElem?_getD,List.getElem?_eq_none (by omega)]; rfl
theorem lc_at {p:Nat}:∀ {cs:List Int} {rs:List (List Int)},(∀ j,j<rs.length->rA rs j p=0)->lc cs rs p=0
 | [],[],_=>rfl
 | _::_,[],_=>rfl
 | [],_::_,_=>rfl
 | c::cs,r::rs,h=>by
  show c*ent r p+lc cs rs p=0
  have h0:ent r p=0:=h 0 (by simp)
  rw [h0,Int.mul_zero,lc_at fun j hj=>by
   have:=h (j+1) (by simpa using hj)
   simpa [rA] using this]; rfl
def upr (row:List Int) (c:Nat):List Int:=if 0<ent row c then row else row.map fun x=>-x
theorem upr_at {row:List Int} {c:Nat} (p:Nat):ent (upr row c) p=if 0<ent row c then ent row p else-ent row p:=by
 unfold upr
 split
 ·rfl
 ·unfold ent
  rw [List.getD_eq_getElem?_getD,List.getElem?_map,List.getD_eq_getElem?_getD]
  cases row[p]? <;> simp
theorem upr_rb {m k c:Nat} {row:List Int} (h:Rb m k row):Rb m k (upr row c):=by
 refine ⟨?_,fun p hp=>?_⟩
 ·unfold upr
  split
  ·exact h.len
  ·rw [List.length_map]; exact h.len
 ·rw [upr_at]
  split
  ·exact h.bd p hp
  ·rw [Int.natAbs_neg]; exact h.bd p hp
theorem map_get {rs:List (List Int)} {f:List Int->List Int} {i:Nat} (h:i<rs.length):(rs.map f).getD i []=f (rs.getD i []):=by
 rw [List.getD_eq_getElem?_getD,List.getElem?_map,List.getElem?_eq_getElem h,List.getD_eq_getElem?_getD,List.getElem?_eq_getElem h]; rfl
section
variable {m:Nat} {M:(Nat->Int)->Prop} {r b c:Nat} {fs ls gs:List (List Int)} {q:Nat->Nat}
abbrev MZ (M:(Nat->Int)->Prop) (c:Nat) (x:Nat->Int):Prop:=M x/\∀ p,p<c->x p=0
theorem Lat.z (hM:Lat M) (c:Nat):Lat (MZ M c):=⟨fun a b h1 h2=>⟨hM.lin a b h1.1 h2.1,fun p hp=>by
 show a*_+b*_=0
 rw [h1.2 p hp,h2.2 p hp,Int.mul_zero,Int.mul_zero]; rfl⟩⟩
theorem Nt.flat (hc:c<m) (h:Nt m M r b c fs q ls) (hl:0<ls.length) (hg:Gth m c (MZ M c) (bsT b fs.length) ls (ls.length-1) gs) (h0:rA gs 0 c=0):gs=ls/\Nt m M r b (c+1) fs q ls:=by
 have e:gs=ls:=by
  rcases hg.or with ⟨e,_⟩ | e
  ·rw [e,List.take_of_length_le (by omega)]
  ·exact absurd h0 e
 subst e
 have hz:∀ j,j<gs.length->rA gs j c=0:=fun j hj=>by
  by_cases q:j=0
  ·subst q; exact h0
  ·exact hg.z j (by omega) (by omega)
 refine ⟨rfl,h.tot,h.ech,fun i hi=>Nat.lt_succ_of_lt (h.qc i hi),h.fm,h.lm,fun j hj p hp=>?_,h.ind,fun x hx=>?_,h.lb,h.fb⟩
 ·by_cases q:p=c
  ·subst q; exact hz j hj
  ·exact h.lz j hj p (by omega)
 ·rcases h.gn x hx with a | ⟨a,cs,hl,hv⟩
  ·exact .inl a
  ·refine .inr ⟨fun p hp=>?_,cs,hl,hv⟩
   by_cases q:p=c
   ·subst q
    rw [hv p hc]; exact lc_at hz
   ·exact a p (by omega)
theorem Nt.pivot (hM:Lat M) (hc:c<m) (h9:∀ t j,t+j<r->kp (bsT b t) j<=8998) (h:Nt m M r b c fs q ls) (hl:0<ls.length) (hg:Gth m c (MZ M c) (bsT b fs.length) ls (ls.length-1) gs) (h0:rA gs 0 c≠0):Nt m M r b (c+1) (fs.map (fun row=>lowL m row (upr (gs.getD 0 []) c) c) ++ [upr (gs.getD 0 []) c]) (fun i=>if i<fs.length then q i else c) (gs.drop 1):=by
 have hgl:gs.length=ls.length:=by rw [hg.len]; omega
 obtain ⟨g0,G,rfl⟩:∃ g0 G,gs=g0::G:=by
  cases gs with
  | nil=>simp at hgl; omega
  | cons g0 G=>exact ⟨_,_,rfl⟩
 show Nt m M r b (c+1) (fs.map (fun row=>lowL m row (upr g0 c) c) ++ [upr g0 c]) _ G
 have h0:ent g0 c≠0:=h0
 obtain ⟨mg0,zg0⟩:=hg.mem 0 (Nat.zero_le _)
 change M (ent g0) at mg0
 change ∀ p,p<c->ent g0 p=0 at zg0
 have rg0:Rb m 8998 g0:=hg.rb.mono (h9 _ _ (by have:=h.tot; omega))
 obtain ⟨ld,hld⟩:∃ ld,ld=upr g0 c:=⟨_,rfl⟩
 have lp:1<=ent ld c:=by
  rw [hld,upr_at]; split <;> omega
 have lz:∀ p,p<c->ent ld p=0:=fun p hp=>by
  rw [hld,upr_at,zg0 p hp]; split <;> rfl
 have lrb:Rb m 8998 ld:=by rw [hld]; exact upr_rb rg0
 have lm:M (ent ld):=by
  have e:ent ld=fun p=>(if 0<ent g0 c then 1 else -1)*ent g0 p+0*ent g0 p:=funext fun p=>by
   rw [hld,upr_at]; split <;> omega
  rw [e]; exact hM.lin _ _ mg0 mg0
 have ldv:∀ x:Int,ent g0 c∣x->ent ld c∣x:=fun x hx=>by
  rw [hld,upr_at]
  split
  ·exact hx
  ·exact Int.neg_dvd.mpr hx
 rw [<- hld]
 have hfl:(fs.map fun row=>lowL m row ld c).length=fs.length:=List.length_map _
 have f1:∀ i,i<fs.length->(fs.map (fun row=>lowL m row ld c) ++ [ld]).getD i []=lowL m (fs.getD i []) ld c:=fun i hi=>by
  rw [getD_app (by omega),map_get hi]
 have f2:(fs.map (fun row=>lowL m row ld c) ++ [ld]).getD fs.length []=ld:=getD_end hfl
 have r1:∀ i,i<fs.length->∀ p,p<c->rA (fs.map (fun row=>lowL m row ld c) ++ [ld]) i p=rA fs i p:=fun i hi p hp=>by
  show ent ((fs.map (fun row=>lowL m row ld c) ++ [ld]).getD i []) p=_
  rw [f1 i hi,low_at (by omega),lz p hp,Int.mul_zero,Int.sub_zero]
 have r2:∀ p,rA (fs.map (fun row=>lowL m row ld c) ++ [ld]) fs.length p=ent ld p:=fun p=>by
  show ent ((fs.map (fun row=>lowL m row ld c) ++ [ld]).getD fs.length []) p=_
  rw [f2]
 have tl:(fs.map (fun row=>lowL m row ld c) ++ [ld]).length=fs.length+1:=by simp
 have qi:∀ i,i<fs.length->(if i<fs.length then q i else c)=q i:=fun i hi=>if_pos hi
 have qt:(if fs.length<fs.length then q fs.length else c)=c:=if_neg (Nat.lt_irrefl _)
 have cas:∀ i,i<fs.length+1->i<fs.length\/i=fs.length:=fun i hi=>by omega
 refine ⟨?_,⟨fun i hi=>?_,fun i j hij hj=>?_,fun i hi p hp=>?_,fun i hi=>?_,fun i j hij hj=>?_⟩,fun i hi=>?_,fun i hi=>?_,fun j hj=>?_,fun j hj p hp=>?_,?_,fun x hx=>?_,fun j hj=>?_,fun i hi=>?_⟩
 ·rw [tl]
  have:=h.tot
  simp at hgl; omega
 ·rw [tl] at hi
  rcases cas i hi with z | rfl
  ·rw [qi i z]; exact h.ech.lt i z
  ·rw [qt]; exact hc
 ·rw [tl] at hj
  rcases cas j hj with z | rfl
  ·rw [qi j z,qi i (by omega)]; exact h.ech.inc i j hij z
  ·rw [qt,qi i hij]; exact h.qc i hij
 ·rw [tl] at hi
  rcases cas i hi with z | rfl
  ·rw [qi i z] at hp
   rw [r1 i z p (Nat.lt_trans hp (h.qc i z))]; exact h.ech.z i z p hp
  ·rw [qt] at hp
   rw [r2]; exact lz p hp
 ·rw [tl] at hi
  rcases cas i hi with z | rfl
  ·rw [qi i z,r1 i z _ (h.qc i z)]; exact h.ech.pos i z
  ·rw [qt,r2]; exact lp
 ·rw [tl] at hj
  rcases cas j hj with z | rfl
  ·rw [qi j z,r1 i (by omega) _ (h.qc j z),r1 j z _ (h.qc j z)]; exact h.ech.red i j hij z
  ·rw [qt,r2]
   show 0<=ent ((fs.map (fun row=>lowL m row ld c) ++ [ld]).getD i []) c/\ent ((fs.map (fun row=>lowL m row ld c) ++ [ld]).getD i []) c<_
   rw [f1 i hij,low_at hc]
   exact (fdiv_r (by omega)).1 (by omega)
 ·rw [tl] at hi
  rcases cas i hi with z | rfl
  ·rw [qi i z]; exact Nat.lt_succ_of_lt (h.qc i z)
  ·rw [qt]; exact Nat.lt_succ_self c
 ·rw [tl] at hi
  rcases cas i hi with z | rfl
  ·have e:rA (fs.map (fun row=>lowL m row ld c) ++ [ld]) i=fun p=>1*rA fs i p + -((rA fs i c).fdiv (ent ld c))*ent ld p:=funext fun p=>by
    show ent ((fs.map (fun row=>lowL m row ld c) ++ [ld]).getD i []) p=_
    rw [f1 i z]
    by_cases hp:p<m
    ·rw [low_at hp,Int.neg_mul]
     show _=1*ent (fs.getD i []) p + -(((ent (fs.getD i []) c).fdiv (ent ld c))*ent ld p)
     omega
    ·rw [out_0 (low_len m _ ld c) hp,out_0 lrb.len hp]
     show 0=1*ent (fs.getD i []) p+_
     rw [out_0 (h.fb i z).len hp]; omega
   rw [e]; exact hM.lin _ _ (h.fm i z) lm
  ·have e:rA (fs.map (fun row=>lowL m row ld c) ++ [ld]) fs.length=ent ld:=funext r2
   rw [e]; exact lm
 ·have:=hg.mem (j+1) (by simp at hgl; omega)
  have e:rA (g0::G) (j+1)=rA G j:=by unfold rA; rw [getD_cons]
  rw [e] at this
  exact this.1
 ·have h1:=hg.mem (j+1) (by simp at hgl; omega)
  have h2:=hg.z (j+1) (by omega) (by simp at hgl; omega)
  have e:rA (g0::G) (j+1)=rA G j:=by unfold rA; rw [getD_cons]
  rw [e] at h1 h2
  by_cases z:p=c
  ·subst z; exact h2
  ·exact h1.2 p (by omega)
 ·have:=hg.ind h.ind
  rw [List.drop_eq_nil_of_le (by omega),List.append_nil] at this
  exact this.tail
 ·rcases h.gn x hx with ⟨i,hi,a1,a2,a3⟩ | ⟨a,hs⟩
  ·refine .inl ⟨i,by rw [tl]; omega,?_⟩
   dsimp only
   rw [qi i hi,r1 i hi _ (h.qc i hi)]
   exact ⟨a1,a2,a3⟩
  ·have:=hg.sp x hs
   rw [List.drop_eq_nil_of_le (by omega),List.append_nil] at this
   obtain ⟨cs,hcl,hv⟩:=this
   obtain ⟨t0,ds,rfl,hdl⟩:=cs_cons hcl
   have hGc:∀ j,j<G.length->rA G j c=0:=fun j hj=>by
    have h2:=hg.z (j+1) (by omega) (by simp at hgl; omega)
    have e:rA (g0::G) (j+1)=rA G j:=by unfold rA; rw [getD_cons]
    rwa [e] at h2
   have hxc:x c=t0*ent g0 c:=by
    rw [hv c hc]
    show t0*ent g0 c+lc ds G c=_
    rw [lc_at hGc,Int.add_zero]
   by_cases ht:t0=0
   ·refine .inr ⟨fun p hp=>?_,ds,hdl,fun p hp=>?_⟩
    ·by_cases z:p=c
     ·subst z; rw [hxc,ht,Int.zero_mul]
     ·exact a p (by omega)
    ·rw [hv p hp]
     show t0*ent g0 p+lc ds G p=_
     rw [ht,Int.zero_mul,Int.zero_add]
   ·refine .inl ⟨fs.length,by rw [tl]; omega,?_⟩
    dsimp only
    rw [qt,r2]
    exact ⟨a,by rw [hxc]; exact Int.mul_ne_zero ht h0,ldv _ (by rw [hxc]; exact Int.dvd_mul_left _ _)⟩
 ·have:=hg.rb2 (j+1) (by omega) (by simp at hgl; omega)
  rw [getD_cons] at this
  rw [tl]; exact this
 ·rw [tl] at hi
  rcases cas i hi with z | rfl
  ·rw [f1 i z,tl]
   refine ⟨low_len _ _ _ _,fun p hp=>?_⟩
   rw [low_at hp]
   have hb:=h.fb i z
   have k1:=low_q (a:=ent (fs.getD i []) c) (b:=ent ld c) (by omega) (hb.bd c hc)
   have k2:=Nat.mul_le_mul k1 (lrb.bd p hp)
   rw [<- Nat.pow_add,<- Int.natAbs_mul] at k2
   have k3:=hb.bd p hp
   have k4:2^(9000*fs.length+1+8998)+2^(9000*fs.length)<=2^(9000*(fs.length+1)):=by
    have e1:2^(9000*fs.length)<=2^(9000*fs.length+1+8998):=Nat.pow_le_pow_right (by decide) (by omega)
    have e2:2^(9000*(fs.length+1))=2^(9000*fs.length+1+8998)*2:=by rw [<- Nat.pow_succ]; congr 1
    omega
   have k5:(ent (fs.getD i []) p-(ent (fs.getD i []) c).fdiv (ent ld c)*ent ld p).natAbs<=(ent (fs.getD i []) p).natAbs+((ent (fs.getD i []) c).fdiv (ent ld c)*ent ld p).natAbs:=by omega
   omega
  ·rw [f2,tl]; exact lrb.mono (by omega)
end
theorem upright_ok {m c:Nat} {row:List Int} (hm:m<=7) (hc:c<m) (hl:row.length=m):f_upright [tI row,.int (c:Int)]=.ok (tI (upr row c)):=by
 have e:∀ N mg me ρ (h:∀ x∈row,∃ ρ1,mg (.int x) (ρ++List.replicate (N-ρ.length) Sl.un)=some ρ1/\me ρ1=.ok (.int (-x))),mComp N mg yes me (row.map W.int) ρ=.ok (lI (row.map fun x=>-x)):=fun N mg me ρ h=>by
  rw [mComp_all (fun x=>.int (-x)) _ _ ρ (by omega) h,mapI]
 have fin:Ok (f_upright [tI row,.int (c:Int)]) fun v=>v=tI (upr row c):=by
  by_cases h:0<row.getD c 0
  ·exists rpB,m_upright,decide_eq_true h
   refine ⟨_,rfl,?_⟩
   show _=tI (upr row c)
   unfold upr
   rw [if_pos (show 0<ent row c from h)]
  ·exists rpB,m_upright,decide_eq_false h
   rw [e]
   rotate_left
   ·intro x hx
    refine ⟨_,rfl,?_⟩
    exists rp18
   exists rp18
   refine ⟨_,rfl,?_⟩
   show _=tI (upr row c)
   unfold upr
   rw [if_neg (show ¬ 0<ent row c from h)]
 obtain ⟨v,e,rfl⟩:=fin
 exact e
theorem neat_ok {m:Nat} {M:(Nat->Int)->Prop} {b:Nat} {rows:List (List Int)} (hm:m<=7) (hM:Lat M) (hr:rows.length<=6) (hrb:∀ j,j<rows.length->Rb m b (rows.getD j [])) (hmem:∀ j,j<rows.length->M (rA rows j)) (hind:Ind m rows) (hgen:∀ x,M x->Spn m rows x) (h9:∀ t j,t+j<rows.length->kp (bsT b t) j<=8998):Ok (f_neat [lS rows]) fun v=>∃ fs q,v=lS fs/\fs.length=rows.length/\Ech m fs q/\(∀ i,i<fs.length->M (rA fs i))/\(∀ i,i<fs.length->(fs.getD i []).length=m)/\Gen m M fs q:=by
 have n0:∀ {i:Nat} {P:Prop},i<([]:List (List Int)).length->P:=fun {i P} hi=>absurd hi (Nat.not_lt_zero _)
 have start:Nt m M rows.length b 0 [] (fun _=>0) rows:=⟨by simp,⟨fun i hi=>n0 hi,fun i j _ hj=>n0 hj,fun i hi=>n0 hi,fun i hi=>n0 hi,fun i j _ hj=>n0 hj⟩,fun i hi=>n0 hi,fun i hi=>n0 hi,hmem,fun j _ p hp=>absurd hp (Nat.not_lt_zero _),hind,fun x hx=>.inr ⟨fun p hp=>absurd hp (Nat.not_lt_zero _),hgen x hx⟩,hrb,fun i hi=>n0 hi⟩
 exists rpB,m_neat
 refine ok_end (po_seq ?_)
 refine po_while (fun K ρ=>∃ (fs ls:List (List Int)) (q:Nat->Nat) (c:Nat) (s a4:Sl),ρ = [.par (lS rows),.own (fs.map tI),s,.val (.int (c:Int)),a4]/\(s=.par (lS ls)\/s=.own (ls.map tI))/\Nt m M rows.length b c fs q ls/\c<=m/\K=m-c) ?_ m _ ⟨[],rows,_,0,_,_,rfl,.inl rfl,start,Nat.zero_le _,rfl⟩
 rintro K ρ ⟨fs,ls,q,c,s,a4,rfl,hs,h,hcm,rfl⟩
 have htot:=h.tot
 by_cases hl:0<ls.length
 ·have hc:c<m:=by
   refine Nat.lt_of_le_of_ne hcm fun e=>?_
   subst e
   cases ls with
   | nil=>simp at hl
   | cons l ls=>
    have:=h.ind (1::ls.map fun _=>0) (by simp) (fun p hp=>?_) 1 List.mem_cons_self
    ·exact absurd this (by decide)
    ·show 1*ent l p+lc (ls.map fun _=>0) ls p=0
     rw [lc_zero _ fun x hx=>by obtain ⟨_,_,rfl⟩:=List.mem_map.mp hx; rfl]
     have:ent l p=0:=h.lz 0 (by simp) p hp
     omega
  have d1:decide (0<(ls.length:Int))=true:=decide_eq_true (by omega)
  obtain ⟨_,k1,gs,rfl,hg⟩:=gathered_ok (c:=c) (M:=MZ M c) (bs:=bsT b fs.length) (rows:=ls) hm hc (hM.z c) hl (by omega) h.lb (fun j hj=>⟨h.lm j hj,h.lz j hj⟩) (fun j hj=>h9 _ _ (by omega)) rfl
  have hgl:gs.length=ls.length:=by rw [hg.len]; omega
  have a0:L2.atI (gs.map tI) 0=some (tI (gs.getD 0 [])):=atS_c (by omega)
  have l0:=hg.rb.len
  refine ⟨true,?_,?_⟩
  ·rcases hs with rfl | rfl
   all_goals exists d1
  rw [if_pos rfl]
  have eL:∀ N mg me ρ (h:∀ row∈fs,∃ ρ1,mg (tI row) (ρ++List.replicate (N-ρ.length) Sl.un)=some ρ1/\me ρ1=.ok (tI (lowL m row (upr (gs.getD 0 []) c) c))),mComp N mg yes me (fs.map tI) ρ=.ok (lS (fs.map fun row=>lowL m row (upr (gs.getD 0 []) c) c)):=fun N mg me ρ h=>by
   rw [mComp_all (fun row=>tI (lowL m row (upr (gs.getD 0 []) c) c)) _ _ ρ (by omega) h]
   show _=R.ok (W.lst ((fs.map fun row=>lowL m row (upr (gs.getD 0 []) c) c).map tI))
   rw [List.map_map]; rfl
  have k2:=upright_ok (c:=c) (row:=gs.getD 0 []) hm hc l0
  rcases hs with rfl | rfl
  all_goals
   exists k1,a0
   by_cases h0:rA gs 0 c=0
   ·obtain ⟨e,h2⟩:=h.flat hc hl hg h0
    have d2:decide ((gs.getD 0 []).getD c 0=0)=true:=decide_eq_true h0
    exists d2
    exact ⟨m-(c+1),by omega,fs,gs,q,c+1,_,_,rfl,.inr rfl,by rw [e]; exact h2,by omega,rfl⟩
   ·have h2:=h.pivot hM hc h9 hl hg h0
    have d2:decide ((gs.getD 0 []).getD c 0=0)=false:=decide_eq_false h0
    have hfl:(fs.map fun row=>lowL m row (upr (gs.getD 0 []) c) c).length=fs.length:=List.length_map _
    have rl:Rb m 8998 (upr (gs.getD 0 []) c):=upr_rb (hg.rb.mono (h9 _ _ (by omega)))
    have c2:fCat true (lS (fs.map fun row=>lowL m row (upr (gs.getD 0 []) c) c)) (.lst [tI (upr (gs.getD 0 []) c)])=.ok (lS (fs.map (fun row=>lowL m row (upr (gs.getD 0 []) c) c) ++ [upr (gs.getD 0 []) c])):=by
     generalize (fs.map fun row=>lowL m row (upr (gs.getD 0 []) c) c)=F at hfl
     exists rp18
    exists d2,a0
    rw [k2]
    exists rp18
    rw [eL]
    rotate_left
    ·intro row hrow
     obtain ⟨i,hi,rfl⟩:=List.getElem_of_mem hrow
     have hb:=h.fb i hi
     rw [List.getD_eq_getElem?_getD,List.getElem?_eq_getElem hi] at hb
     have k3:=low_ok (c:=c) (row:=fs[i]) (lead:=upr (gs.getD 0 []) c) hm hc hb rl (by
      rw [upr_at]
      have h0:ent (gs.getD 0 []) c≠0:=h0
      split <;> omega) (Nat.lt_of_le_of_lt (rl.bd c hc) (Nat.pow_lt_pow_right (by decide) (by omega))) (by omega) (by omega)
     refine ⟨_,rfl,?_⟩
     exists k3
    exists c2,cutL_d
    exact ⟨m-(c+1),by omega,_,_,_,c+1,_,_,rfl,.inr rfl,h2,by omega,rfl⟩
 ·have d1:decide (0<(ls.length:Int))=false:=decide_eq_false (by omega)
  have hl0:ls.length=0:=by omega
  refine ⟨false,?_,?_⟩
  ·rcases hs with rfl | rfl
   all_goals exists d1
  rw [if_neg (by decide)]
  rcases hs with rfl | rfl
  all_goals
   exists rp18
   refine ⟨fs,q,rfl,by omega,h.ech,h.fm,fun i hi=>(h.fb i hi).len,fun x hx=>?_⟩
   rcases h.gn x hx with a | ⟨_,cs,hcl,hv⟩
   ·exact .inr a
   ·refine .inl fun p hp=>?_
    rw [hv p hp]
    exact lc_at fun j hj=>absurd hj (by omega)
theorem lead_le {m:Nat} {L:(Nat->Int)->Prop} {rs rs':List (List Int)} {q q':Nat->Nat} (hE:Ech m rs q) (hG:Gen m L rs q) (hE':Ech m rs' q') (hM':∀ i,i<rs'.length->L (rA rs' i)) {i:Nat} (hi:i<rs'.length) (h:∀ k,k<i->k<rs.length->q k=q' k) (hk:i<=rs.length):i<rs.length/\q i<=q' i:=by
 have p1:=hE'.pos i hi
 rcases hG _ (hM' i hi) with z | ⟨k,hkr,h1,h2,_⟩
 ·rw [z _ (hE'.lt i hi)] at p1; exact absurd p1 (by decide)
 ·have e:q' i=q k:=by
   rcases Nat.lt_trichotomy (q' i) (q k) with z | z | z
   ·rw [h1 _ z] at p1; exact absurd p1 (by decide)
   ·exact z
   ·exact absurd (hE'.z i hi _ z) h2
  have hik:i<=k:=by
   rcases Nat.lt_or_ge k i with z | z
   ·have a1:=h k z hkr
    have a2:=hE'.inc k i z hi
    omega
   ·exact z
  refine ⟨by omega,?_⟩
  rw [e]
  rcases Nat.lt_or_ge i k with z | z
  ·exact Nat.le_of_lt (hE.inc i k z hkr)
  ·have:i=k:=by omega
   rw [this]; exact Nat.le_refl _
theorem lead_eq {m:Nat} {L:(Nat->Int)->Prop} {rs rs':List (List Int)} {q q':Nat->Nat} (hE:Ech m rs q) (hG:Gen m L rs q) (hM:∀ i,i<rs.length->L (rA rs i)) (hE':Ech m rs' q') (hG':Gen m L rs' q') (hM':∀ i,i<rs'.length->L (rA rs' i)):rs'.length=rs.length/\∀ i,i<rs.length->q i=q' i:=by
 have key:∀ n,∀ i,i<n->i<rs.length->i<rs'.length->q i=q' i:=by
  intro n
  induction n with
  | zero=>intro i hi; exact absurd hi (Nat.not_lt_zero _)
  | succ n ih=>
   intro i hi h1 h2
   have a:=lead_le hE hG hE' hM' h2 (fun k hk hr=>ih k (by omega) hr (by omega)) (by omega)
   have b:=lead_le hE' hG' hE hM h1 (fun k hk hr=>(ih k (by omega) (by omega) hr).symm) (by omega)
   omega
 have hl:rs'.length=rs.length:=by
  rcases Nat.lt_trichotomy rs'.length rs.length with z | z | z
  ·have:=lead_le hE' hG' hE hM (i:=rs'.length) z (fun k hk hr=>(key rs.length k (by omega) (by omega) hr).symm) (Nat.le_refl _)
   omega
  ·exact z
  ·have:=lead_le hE hG hE' hM' (i:=rs.length) z (fun k hk hr=>key rs.length k (by omega) hr (by omega)) (Nat.le_refl _)
   omega
 exact ⟨hl,fun i hi=>key rs.length i hi hi (by omega)⟩
theorem Ech.ind {m:Nat}:∀ {rs:List (List Int)} {q:Nat->Nat},Ech m rs q->Ind m rs
 | [],_,_=>fun cs hl _ c hc=>by
  have:cs = []:=List.eq_nil_of_length_eq_zero hl
  rw [this] at hc; cases hc
 | r::rs,q,h=>fun cs hl hz c hc=>by
  obtain ⟨c0,ds,rfl,hd⟩:=cs_cons hl
  have g:∀ i,rA (r::rs) (i+1)=rA rs i:=fun i=>by unfold rA; rw [getD_cons]
  have h':Ech m rs fun i=>q (i+1):=⟨fun i hi=>h.lt (i+1) (by simpa using hi),fun i j a b=>h.inc (i+1) (j+1) (by omega) (by simpa using b),fun i hi p hp=>by have:=h.z (i+1) (by simpa using hi) p hp; rwa [g] at this,fun i hi=>by have:=h.pos (i+1) (by simpa using hi); rwa [g] at this,fun i j a b=>by have:=h.red (i+1) (j+1) (by omega) (by simpa using b); rwa [g,g] at this⟩
  have q0:=h.lt 0 (by simp)
  have c00:c0=0:=by
   have e:=hz (q 0) q0
   change c0*ent r (q 0)+lc ds rs (q 0)=0 at e
   rw [lc_at fun j hj=>by
    have:=h.z (j+1) (by simpa using hj) (q 0) (h.inc 0 (j+1) (by omega) (by simpa using hj))
    rwa [g] at this,Int.add_zero] at e
   have p:=h.pos 0 (by simp)
   change 1<=ent r (q 0) at p
   rcases Int.mul_eq_zero.mp e with z | z
   ·exact z
   ·omega
  rcases List.mem_cons.mp hc with e | e
  ·rw [e,c00]
  ·refine h'.ind ds hd (fun p hp=>?_) c e
   have:=hz p hp
   change c0*ent r p+lc ds rs p=0 at this
   rwa [c00,Int.zero_mul,Int.zero_add] at this
theorem lc_upd {p:Nat}:∀ {cs:List Int} {rs:List (List Int)} {i:Nat} {t:Int},cs.length=rs.length->i<rs.length->lc (cs.set i (cs.getD i 0+t)) rs p=lc cs rs p+t*rA rs i p
 | c::cs,r::rs,0,t,_,_=>by
  show (c+t)*ent r p+lc cs rs p=c*ent r p+lc cs rs p+t*ent r p
  rw [Int.add_mul]; omega
 | c::cs,r::rs,i+1,t,h,hi=>by
  have e:rA (r::rs) (i+1) p=rA rs i p:=by unfold rA; rw [getD_cons]
  rw [e]
  show c*ent r p+lc (cs.set i ((c::cs).getD (i+1) 0+t)) rs p=c*ent r p+lc cs rs p+_
  rw [getD_cons,lc_upd (by simpa using h) (by simpa using hi)]; omega
 | [],[],_,_,_,hi=>absurd hi (Nat.not_lt_zero _)
 | [],_::_,_,_,h,_=>by cases h
 | _::_,[],_,_,h,_=>by cases h
theorem Gen.sp {m:Nat} {L:(Nat->Int)->Prop} {rs:List (List Int)} {q:Nat->Nat} (hL:Lat L) (hE:Ech m rs q) (hG:Gen m L rs q) (hM:∀ i,i<rs.length->L (rA rs i)):∀ (d k:Nat),k+d=m->∀ v,L v->(∀ p,p<k->v p=0)->Spn m rs v
 | 0,k,hk,v,_,hz=>⟨rs.map fun _=>0,by simp,fun p hp=>by
  rw [hz p (by omega),lc_zero _ fun x hx=>by obtain ⟨_,_,rfl⟩:=List.mem_map.mp hx; rfl]⟩
 | d+1,k,hk,v,hv,hz=>by
  by_cases h0:v k=0
  ·exact Gen.sp hL hE hG hM d (k+1) (by omega) v hv fun p hp=>if e:p=k then e ▸ h0 else hz p (by omega)
  ·rcases hG v hv with a | ⟨i,hi,a1,a2,a3⟩
   ·exact absurd (a k (by omega)) h0
   ·have e:q i=k:=by
     rcases Nat.lt_trichotomy (q i) k with z | z | z
     ·exact absurd (hz _ z) a2
     ·exact z
     ·exact absurd (a1 _ z) h0
    obtain ⟨t,ht⟩:=a3
    have hw:=hL.lin 1 (-t) hv (hM i hi)
    have hs:=Gen.sp hL hE hG hM d (k+1) (by omega) _ hw fun p hp=>by
     show 1*v p + -t*rA rs i p=0
     by_cases z:p=k
     ·subst z
      have hv1:v p=rA rs i p*t:=e ▸ ht
      rw [hv1,Int.one_mul,Int.neg_mul,Int.mul_comm t]; omega
     ·rw [hz p (by omega),hE.z i hi p (by omega)]; omega
    obtain ⟨cs,hl,hc⟩:=hs
    refine ⟨cs.set i (cs.getD i 0+t),by simp [hl],fun p hp=>?_⟩
    rw [lc_upd hl hi,<- hc p hp]
    show v p=1*v p + -t*rA rs i p+t*rA rs i p
    rw [Int.neg_mul]; omega
theorem lc_dt {n:Nat} {s:Nat->Int}:∀ (cs:List Int) (rs:List (List Int)),dt n (lc cs rs) s=lc cs (rs.map fun r=>dt n (ent r) s::r) 0
 | [],[]=>sumN_zero fun p _=>Int.zero_mul _
 | _::_,[]=>sumN_zero fun p _=>Int.zero_mul _
 | [],_::_=>sumN_zero fun p _=>Int.zero_mul _
 | c::cs,r::rs=>by
  have h:=dt_lin n (ent r) (lc cs rs) s c 1
  have e:(fun p=>c*ent r p+1*lc cs rs p)=lc (c::cs) (r::rs):=funext fun p=>by
   show _=c*ent r p+lc cs rs p
   omega
  rw [e] at h
  rw [h,lc_dt cs rs]
  show _=c*dt n (ent r) s+_
  omega
theorem lc_tail {p:Nat} {s:List Int->Int}:∀ (cs:List Int) (rs:List (List Int)),lc cs (rs.map fun r=>s r::r) (p+1)=lc cs rs p
 | [],[]=>rfl
 | _::_,[]=>rfl
 | [],_::_=>rfl
 | c::cs,r::rs=>by
  show c*ent (s r::r) (p+1)+lc cs _ (p+1)=c*ent r p+lc cs rs p
  rw [lc_tail cs rs]
  unfold ent
  rw [getD_cons]
def Bb:Nat->Nat
 | 0=>2142 | 1=>1054 | 2=>510 | 3=>238 | 4=>102 | 5=>34 | _=>0
def Cb (r:Nat):Nat:=if r=6 then 0 else Bb r+3
structure Bal (n:Nat) (L:(Nat->Int)->Prop) (rs:List (List Int)) (q:Nat->Nat) (u:Nat->Nat->Int) (B:Nat):Prop where
 ech:Ech n rs q
 mem:∀ i,i<rs.length->L (rA rs i)
 len:∀ i,i<rs.length->(rs.getD i []).length=n
 gen:Gen n L rs q
 dia:Dia n L rs.length q u B
 b:B<=2^Bb rs.length
 c:∀ p,p<n->colS u p 0 rs.length<=2^Cb rs.length
theorem h9_6:∀ r,r<=6->∀ t,t<=6->∀ j,j<=6->t+j<r->kp (bsT (Cb r+33) t) j<=8998:=by decide +kernel
theorem Bb_step {r:Nat} (h1:1<=r) (h6:r<=6):Bb (r-1)=2*Bb r+34:=by
 have:r=1\/r=2\/r=3\/r=4\/r=5\/r=6:=by omega
 rcases this with rfl | rfl | rfl | rfl | rfl | rfl <;> rfl
abbrev wR (n:Nat) (s:Nat->Int) (r:List Int):List Int:=dt n (ent r) s::r
abbrev ML (L:(Nat->Int)->Prop) (n:Nat) (s:Nat->Int) (x:Nat->Int):Prop:=L (fun p=>x (p+1))/\x 0=dt n (fun p=>x (p+1)) s
section
variable {n:Nat} {L:(Nat->Int)->Prop} {rs:List (List Int)} {q:Nat->Nat} {u:Nat->Nat->Int} {B:Nat} {s:Nat->Int}
theorem Lat.m (hL:Lat L):Lat (ML L n s):=⟨fun {v w} a b h1 h2=>⟨hL.lin a b h1.1 h2.1,by
 show a*v 0+b*w 0=dt n (fun p=>a*v (p+1)+b*w (p+1)) s
 rw [dt_lin,h1.2,h2.2]⟩⟩
theorem wR_at (r:List Int) (p:Nat):ent (wR n s r) (p+1)=ent r p:=by
 unfold ent
 rw [getD_cons]
theorem Bal.w (hL:Lat L) (hn:n<=6) (h:Bal n L rs q u B) (hr:rs.length<=6) (hs:∀ p,p<n->(s p).natAbs<=1000000000) :
  (∀ j,j<(rs.map (wR n s)).length->Rb (n+1) (Cb rs.length+33) ((rs.map (wR n s)).getD j []))/\(∀ j,j<(rs.map (wR n s)).length->ML L n s (rA (rs.map (wR n s)) j))/\Ind (n+1) (rs.map (wR n s))/\∀ x,ML L n s x->Spn (n+1) (rs.map (wR n s)) x:=by
 have hl:(rs.map (wR n s)).length=rs.length:=List.length_map _
 have bd:∀ i,i<rs.length->∀ p,p<n->(rA rs i p).natAbs<=2^Cb rs.length:=fun i hi p hp=>Nat.le_trans (h.dia.bound hL h.ech h.gen h.mem hi hp) (h.c p hp)
 refine ⟨fun j hj=>?_,fun j hj=>?_,fun cs hcl hz=>?_,fun x hx=>?_⟩
 ·rw [hl] at hj
  rw [map_get hj]
  refine ⟨by have:=h.len j hj; show (_::rs.getD j []).length=n+1; rw [List.length_cons,this],fun p hp=>?_⟩
  cases p with
  | zero=>
   show (dt n (ent (rs.getD j [])) s).natAbs<=_
   refine Nat.le_trans (dt_bd (bd j hj) hs) ?_
   rw [Nat.pow_add]
   have:n*(2^Cb rs.length*1000000000)<=6*(2^Cb rs.length*1000000000):=Nat.mul_le_mul_right _ hn
   refine Nat.le_trans this ?_
   have e:(6*(2^Cb rs.length*1000000000))=2^Cb rs.length*6000000000:=by omega
   rw [e]
   exact Nat.mul_le_mul_left _ (by decide)
  | succ p=>
   rw [wR_at]
   exact Nat.le_trans (bd j hj p (by omega)) (Nat.pow_le_pow_right (by decide) (by omega))
 ·rw [hl] at hj
  have e:rA (rs.map (wR n s)) j=ent (wR n s (rs.getD j [])):=by
   show ent ((rs.map (wR n s)).getD j [])=_
   rw [map_get hj]
  rw [e]
  have e2:(fun p=>ent (wR n s (rs.getD j [])) (p+1))=rA rs j:=funext fun p=>wR_at _ p
  refine ⟨?_,?_⟩
  ·rw [e2]; exact h.mem j hj
  ·rw [e2]; rfl
 ·rw [hl] at hcl
  refine h.ech.ind cs hcl fun p hp=>?_
  have:=hz (p+1) (by omega)
  rwa [lc_tail] at this
 ·obtain ⟨cs,hcl,hv⟩:=Gen.sp hL h.ech h.gen h.mem n 0 (by omega) _ hx.1 fun p hp=>absurd hp (Nat.not_lt_zero _)
  refine ⟨cs,by rw [hl]; exact hcl,fun p hp=>?_⟩
  cases p with
  | zero=>
   rw [hx.2]
   have:dt n (fun p=>x (p+1)) s=dt n (lc cs rs) s:=sumN_congr fun p hp=>by rw [hv p hp]
   rw [this,lc_dt]
  | succ p=>
   rw [lc_tail]; exact hv p (by omega)
end
def kpt (fs:List (List Int)):List (List Int):=(fs.filter fun r=>decide (ent r 0=0)).map fun r=>r.drop 1
theorem tl_at (r:List Int) (p:Nat):ent (r.drop 1) p=ent r (p+1):=by
 unfold ent
 rw [List.getD_eq_getElem?_getD,List.getElem?_drop,List.getD_eq_getElem?_getD,Nat.add_comm]
theorem kpt_off {m:Nat} {fs:List (List Int)} {Q:Nat->Nat} (h:Ech (m+1) fs Q):∃ off,kpt fs=(fs.drop off).map (fun r=>r.drop 1)/\(∀ i,i+off<fs.length->1<=Q (i+off))/\(off=0\/(off=1/\0<fs.length/\Q 0=0)):=by
 cases fs with
 | nil=>exact ⟨0,rfl,fun i hi=>absurd hi (Nat.not_lt_zero _),.inl rfl⟩
 | cons f0 F=>
  have hF:F.filter (fun r=>decide (ent r 0=0))=F:=by
   rw [List.filter_eq_self]
   intro r hr
   obtain ⟨j,hj,rfl⟩:=List.getElem_of_mem hr
   have:=h.z (j+1) (by simpa using hj) 0 (by have:=h.inc 0 (j+1) (by omega) (by simpa using hj); omega)
   have e:rA (f0::F) (j+1) 0=ent F[j] 0:=by
    show ent ((f0::F).getD (j+1) []) 0=_
    rw [getD_cons,List.getD_eq_getElem?_getD,List.getElem?_eq_getElem hj]; rfl
   rw [e] at this
   exact decide_eq_true this
  have p0:=h.pos 0 (by simp)
  by_cases e:ent f0 0=0
  ·refine ⟨0,?_,fun i hi=>?_,.inl rfl⟩
   ·unfold kpt
    rw [List.filter_cons,if_pos (decide_eq_true e),hF]; rfl
   ·have q0:Q 0≠0:=fun z=>by
     rw [z] at p0
     change 1<=ent f0 0 at p0
     omega
    cases i with
    | zero=>exact Nat.pos_of_ne_zero q0
    | succ i=>have:=h.inc 0 (i+1) (by omega) hi; show 1<=Q (i+1); omega
  ·refine ⟨1,?_,fun i hi=>?_,.inr ⟨rfl,by simp,?_⟩⟩
   ·unfold kpt
    rw [List.filter_cons,if_neg (by simpa using e),hF]; rfl
   ·have:=h.inc 0 (i+1) (by omega) hi
    show 1<=Q (i+1)
    omega
   ·rcases Nat.eq_zero_or_pos (Q 0) with z | z
    ·exact z
    ·exact absurd (h.z 0 (by simp) 0 z) e
section
variable {n:Nat} {L:(Nat->Int)->Prop} {rs fs:List (List Int)} {q Q:Nat->Nat} {u:Nat->Nat->Int} {B:Nat} {s:Nat->Int}
theorem Bal.next (hL:Lat L) (hn:n<=6) (h:Bal n L rs q u B) (hr:rs.length<=6) (hs:∀ p,p<n->(s p).natAbs<=1000000000) (hfl:fs.length=rs.length) (hE:Ech (n+1) fs Q) (hM:∀ i,i<fs.length->ML L n s (rA fs i)) (hlen:∀ i,i<fs.length->(fs.getD i []).length=n+1) (hG:Gen (n+1) (ML L n s) fs Q) :
  (kpt fs).length<=6/\∃ q' u' B',Bal n (fun v=>L v/\dt n v s=0) (kpt fs) q' u' B':=by
 obtain ⟨off,hk,hq1,hoff⟩:=kpt_off hE
 have hkl:(kpt fs).length=fs.length-off:=by rw [hk,List.length_map,List.length_drop]
 have hlt:∀ i,i<(kpt fs).length->i+off<fs.length:=fun i hi=>by rw [hkl] at hi; omega
 have gd:∀ i,i<(kpt fs).length->(kpt fs).getD i []=(fs.getD (i+off) []).drop 1:=fun i hi=>by
  have h2:=hlt i hi
  rw [hk,map_get (by rw [List.length_drop]; omega),List.getD_eq_getElem?_getD,List.getElem?_drop,Nat.add_comm off i,<- List.getD_eq_getElem?_getD]
 have ra:∀ i,i<(kpt fs).length->∀ p,rA (kpt fs) i p=rA fs (i+off) (p+1):=fun i hi p=>by
  show ent ((kpt fs).getD i []) p=_
  rw [gd i hi,tl_at]
 have e1:∀ {a:Nat},1<=a->a-1+1=a:=fun {a} h=>by omega
 have hE':Ech n (kpt fs) fun i=>Q (i+off)-1:=by
  refine ⟨fun i hi=>?_,fun i j hij hj=>?_,fun i hi p hp=>?_,fun i hi=>?_,fun i j hij hj=>?_⟩
  ·have a:=hE.lt _ (hlt i hi)
   have b:=hq1 i (hlt i hi)
   show Q (i+off)-1<n
   omega
  ·have a:=hE.inc (i+off) (j+off) (by omega) (hlt j hj)
   have b:=hq1 i (hlt i (by omega))
   show Q (i+off)-1<Q (j+off)-1
   omega
  ·rw [ra i hi]
   exact hE.z _ (hlt i hi) _ (by have hp:p<Q (i+off)-1:=hp; omega)
  ·rw [ra i hi,e1 (hq1 i (hlt i hi))]
   exact hE.pos _ (hlt i hi)
  ·rw [ra i (by omega),ra j hj,e1 (hq1 j (hlt j hj))]
   exact hE.red _ _ (by omega) (hlt j hj)
 have fe:∀ i,i<(kpt fs).length->(fun p=>rA fs (i+off) (p+1))=rA (kpt fs) i:=fun i hi=>funext fun p=>(ra i hi p).symm
 have hM':∀ i,i<(kpt fs).length->L (rA (kpt fs) i)/\dt n (rA (kpt fs) i) s=0:=fun i hi=>by
  have a:=hM _ (hlt i hi)
  rw [<- fe i hi]
  refine ⟨a.1,?_⟩
  rw [<- a.2]
  exact hE.z _ (hlt i hi) 0 (hq1 i (hlt i hi))
 have hG':Gen n (fun v=>L v/\dt n v s=0) (kpt fs) fun i=>Q (i+off)-1:=fun v hv=>by
  obtain ⟨x,hx0,hx⟩:∃ x:Nat->Int,x 0=0/\∀ p,x (p+1)=v p:=⟨fun p=>match p with | 0=>0 | p+1=>v p,rfl,fun _=>rfl⟩
  have xe:(fun p=>x (p+1))=v:=funext hx
  have mx:ML L n s x:=by
   refine ⟨by rw [xe]; exact hv.1,by rw [xe,hx0]; exact hv.2.symm⟩
  rcases hG x mx with a | ⟨k,hk1,a1,a2,a3⟩
  ·exact .inl fun p hp=>by rw [<- hx]; exact a (p+1) (by omega)
  ·have qk:1<=Q k:=by
    rcases Nat.eq_zero_or_pos (Q k) with z | z
    ·rw [z,hx0] at a2; exact absurd rfl a2
    ·exact z
   have ok:off<=k:=by
    rcases hoff with z | ⟨z,_,z0⟩
    ·omega
    ·rcases Nat.eq_zero_or_pos k with y | y
     ·rw [y,z0] at qk; omega
     ·omega
   have ek:k-off+off=k:=by omega
   have hki:k-off<(kpt fs).length:=by rw [hkl]; omega
   refine .inr ⟨k-off,hki,fun p hp=>?_,?_,?_⟩
   ·have hp:p<Q (k-off+off)-1:=hp
    rw [ek] at hp
    rw [<- hx]; exact a1 _ (by omega)
   ·dsimp only
    rw [ek,<- hx,e1 qk]; exact a2
   ·dsimp only
    rw [ra _ hki,ek,e1 qk,<- hx,e1 qk]; exact a3
 have hlen':∀ i,i<(kpt fs).length->((kpt fs).getD i []).length=n:=fun i hi=>by
  rw [gd i hi,List.length_drop,hlen _ (hlt i hi)]; rfl
 refine ⟨by rw [hkl]; omega,?_⟩
 rcases Dia.next hL h.ech h.gen h.dia hs hE' hM' with ⟨hz,_⟩ | ⟨⟨k,hkr,hk0⟩,u',hD'⟩
 ·-- nothing new
  have same:∀ v,L v->dt n v s=0:=fun v hv=>Dia.still hL h.gen h.dia rs.length 0 (by omega) (fun k _ hk=>hz k hk) v hv fun k hk=>absurd hk (Nat.not_lt_zero _)
  have hGL:Gen n L (kpt fs) fun i=>Q (i+off)-1:=fun v hv=>hG' v ⟨hv,same v hv⟩
  obtain ⟨l1,l2⟩:=lead_eq h.ech h.gen h.mem hE' hGL fun i hi=>(hM' i hi).1
  refine ⟨_,u,B,hE',hM',hlen',hG',⟨fun i hi=>⟨h.dia.mem i (by omega),hz i (by omega)⟩,fun i hi=>?_,fun i j hi hj e=>?_,fun i hi=>h.dia.bd i (by omega)⟩,by rw [l1]; exact h.b,fun p hp=>by rw [l1]; exact h.c p hp⟩
  ·rw [<- l2 i (by omega)]; exact h.dia.ne i (by omega)
  ·rw [<- l2 j (by omega)]; exact h.dia.off i j (by omega) (by omega) e
 ·-- one row fewer
  have h1:1<=rs.length:=by omega
  have off1:off=1:=by
   rcases hoff with z | ⟨z,_⟩
   ·obtain ⟨x,hx0,hx⟩:∃ x:Nat->Int,x 0=dt n (u k) s/\∀ p,x (p+1)=u k p:=⟨fun p=>match p with | 0=>dt n (u k) s | p+1=>u k p,rfl,fun _=>rfl⟩
    have xe:(fun p=>x (p+1))=u k:=funext hx
    rcases hG x ⟨by rw [xe]; exact h.dia.mem k hkr,by rw [xe]; exact hx0⟩ with a | ⟨j,hj,a1,_,_⟩
    ·have:=a 0 (by omega)
     rw [hx0] at this; exact absurd this hk0
    ·have:=hq1 j (by omega)
     rw [z,Nat.add_zero] at this
     have:=a1 0 (by omega)
     rw [hx0] at this; exact absurd this hk0
   ·exact z
  have hr':(kpt fs).length=rs.length-1:=by rw [hkl,off1,hfl]
  have hB:2*(n*(B*1000000000)*B)<=2^Bb (kpt fs).length:=by
   rw [hr',Bb_step h1 hr]
   have b1:=h.b
   have b2:=Nat.mul_le_mul b1 b1
   rw [<- Nat.pow_add] at b2
   have e:2*(n*(B*1000000000)*B)=2*n*1000000000*(B*B):=by ac_rfl
   rw [e,show 2*Bb rs.length+34=34+(Bb rs.length+Bb rs.length) by omega,Nat.pow_add]
   exact Nat.mul_le_mul (Nat.le_trans (Nat.mul_le_mul_right _ (Nat.mul_le_mul_left 2 hn)) (by decide)) b2
  refine ⟨_,u',_,hE',hM',hlen',hG',hD',hB,fun p hp=>?_⟩
  refine Nat.le_trans (colS_le (fun i hi=>Nat.le_trans (hD'.bd i hi p hp) hB) (kpt fs).length 0 (by omega)) ?_
  have hc:Cb (kpt fs).length=Bb (kpt fs).length+3:=if_neg (by omega)
  rw [hc,Nat.pow_add,Nat.mul_comm]
  exact Nat.mul_le_mul_left _ (by omega)
end
def uL (n i:Nat):List Int:=(List.range n).map fun p=>if p=i then 1 else 0
theorem uL_at {n i p:Nat} (h:p<n):ent (uL n i) p=if p=i then 1 else 0:=vec_getD h
theorem Bal.start {n:Nat} (hn:n<=6):Bal n (fun _=>True) ((List.range n).map (uL n)) (fun i=>i) (fun i p=>if p=i then 1 else 0) 1:=by
 have hl:((List.range n).map (uL n)).length=n:=by simp
 have g:∀ i,i<n->((List.range n).map (uL n)).getD i []=uL n i:=fun i hi=>by
  rw [List.getD_eq_getElem?_getD,List.getElem?_map,List.getElem?_range hi]; rfl
 have ra:∀ i,i<n->∀ p,p<n->rA ((List.range n).map (uL n)) i p=if p=i then 1 else 0:=fun i hi p hp=>by
  show ent (((List.range n).map (uL n)).getD i []) p=_
  rw [g i hi,uL_at hp]
 have cs:∀ (p d t:Nat),colS (fun i p=>if p=i then 1 else 0) p t d<=(if t<=p then 1 else 0):=fun p d=>by
  induction d with
  | zero=>intro t; exact Nat.zero_le _
  | succ d ih=>
   intro t
   have:=ih (t+1)
   show (if p=t then (1:Int) else 0).natAbs+colS _ p (t+1) d<=_
   by_cases e:p=t
   ·subst e
    rw [if_neg (by omega)] at this
    rw [if_pos rfl,if_pos (Nat.le_refl _)]
    have:(1:Int).natAbs=1:=rfl
    omega
   ·rw [if_neg e]
    have z:(0:Int).natAbs=0:=rfl
    by_cases e2:t<=p
    ·rw [if_pos (by omega)] at this
     rw [if_pos e2]; omega
    ·rw [if_neg (by omega)] at this
     rw [if_neg e2]; omega
 refine ⟨⟨fun i hi=>by rw [hl] at hi; exact hi,fun i j h _=>h,fun i hi p hp=>?_,fun i hi=>?_,fun i j hij hj=>?_⟩,fun _ _=>trivial,fun i hi=>?_,fun v _=>?_,⟨fun _ _=>trivial,fun i hi=>?_,fun i k hi hk e=>?_,fun i hi p hp=>?_⟩,?_,fun p hp=>?_⟩
 ·rw [hl] at hi
  rw [ra i hi p (by omega),if_neg (by omega)]
 ·rw [hl] at hi
  rw [ra i hi i hi,if_pos rfl]; exact Int.le_refl _
 ·rw [hl] at hj
  rw [ra i (by omega) j hj,ra j hj j hj,if_neg (by omega),if_pos rfl]; decide
 ·rw [hl] at hi
  rw [g i hi]; simp [uL]
 ·by_cases h:∀ p,p<n->v p=0
  ·exact .inl h
  ·refine .inr ?_
   have:∃ i,i<n/\v i≠0/\∀ p,p<i->v p=0:=by
    have key:∀ k,k<=n->(∀ p,p<k->v p=0)\/∃ i,i<k/\v i≠0/\∀ p,p<i->v p=0:=by
     intro k
     induction k with
     | zero=>intro _; exact .inl fun p hp=>absurd hp (Nat.not_lt_zero _)
     | succ k ih=>
      intro hk
      rcases ih (by omega) with a | ⟨i,h1,h2⟩
      ·by_cases e:v k=0
       ·exact .inl fun p hp=>if z:p=k then z ▸ e else a p (by omega)
       ·exact .inr ⟨k,by omega,e,a⟩
      ·exact .inr ⟨i,by omega,h2⟩
    rcases key n (Nat.le_refl _) with a | a
    ·exact absurd a h
    ·exact a
   obtain ⟨i,hi,h1,h2⟩:=this
   exact ⟨i,by rw [hl]; exact hi,h2,h1,by rw [ra i hi i hi,if_pos rfl]; exact Int.one_dvd _⟩
 ·show (if i=i then (1:Int) else 0)≠0
  rw [if_pos rfl]; decide
 ·show (if k=i then (1:Int) else 0)=0
  rw [if_neg fun z=>e z.symm]
 ·show (if p=i then (1:Int) else 0).natAbs<=1
  split <;> decide
 ·exact Nat.one_le_two_pow
 ·refine Nat.le_trans (cs p _ 0) ?_
  rw [if_pos (Nat.zero_le _)]; exact Nat.one_le_two_pow
theorem unit_ok {n i:Nat} (hn:n<=6):f_unit [.int (i:Int),.int (n:Int)]=.ok (tI (uL n i)):=by
 have e:∀ N mg me ρ (h:∀ p∈List.range n,∃ ρ1,mg (.int (p:Nat)) (ρ++List.replicate (N-ρ.length) Sl.un)=some ρ1/\me ρ1=.ok (.int (if p=i then 1 else 0))),mComp N mg yes me ((List.range n).map fun p=>W.int (p:Nat)) ρ=.ok (lI (uL n i)):=fun N mg me ρ h=>by
  rw [mComp_all (fun p=>W.int (if p=i then 1 else 0)) _ _ ρ (by simp; omega) h,mapI]; rfl
 exists rpB,m_unit
 rw [e]
 ·exists rp18
 ·intro p hp
  refine ⟨_,rfl,?_⟩
  by_cases q:p=i
  ·have d:decide ((p:Int)=(i:Int))=true:=decide_eq_true (by rw [q])
   exists fEq_ii,d
   rw [if_pos q]
  ·have d:decide ((p:Int)=(i:Int))=false:=decide_eq_false (by omega)
   exists fEq_ii,d
   rw [if_neg q]
theorem sumN_list (f:Nat->Int):∀ n:Nat,((List.range n).map f).sum=sumN n f
 | 0=>rfl
 | n+1=>by
  rw [List.range_succ,List.map_append,List.sum_append,sumN_list f n]
  show _+(f n+0)=sumN n f+f n
  omega
abbrev vec (m:Nat) (x:Nat->Int):List Int:=(List.range m).map x
theorem weigh_ok {m:Nat} {y d:List Int} (h6:m<=6) (hy:y.length=m) (hd:d.length=m) (hm:∀ p,p<m->-18446744073709551616<d.getD p 0/\d.getD p 0<18446744073709551616):f_weigh [tI y,tI d]=.ok (.int (dt m (ent y) (ent d))):=by
 have hz:=zipR_2 (tI y) (tI d) _ _ rfl rfl
 rw [zipW_I2 (by rw [hy,hd]),hy] at hz
 have e:∀ N mg me ρ (h:∀ j∈List.range m,∃ ρ1,mg (.tup [.int (y.getD j 0),.int (d.getD j 0)]) (ρ++List.replicate (N-ρ.length) Sl.un)=some ρ1/\me ρ1=.ok (.int (y.getD j 0*d.getD j 0))),mComp N mg yes me ((List.range m).map fun j=>W.tup [.int (y.getD j 0),.int (d.getD j 0)]) ρ=.ok (lI (vec m fun j=>y.getD j 0*d.getD j 0)):=fun N mg me ρ h=>by
  rw [mComp_all (fun j=>.int (y.getD j 0*d.getD j 0)) _ _ ρ (by simp; omega) h,mapI]
 have gs:gSum (vec m fun j=>y.getD j 0*d.getD j 0)=dt m (ent y) (ent d):=sumN_list _ _
 exists rpB,m_weigh,hz
 rw [e]
 ·exists gs
 ·intro j hj
  have m1:=mulB_R (i:=y.getD j 0) (hm j (by simpa using hj))
  refine ⟨_,rfl,?_⟩
  exists m1
theorem fCatT_II {xs ys:List Int} (h:xs.length+ys.length<=1000):fCatT (tI xs) (tI ys)=.ok (tI (xs++ys)):=by
 show (if (xs.map W.int).length+(ys.map W.int).length<=1000/\noLs (xs.map W.int)=true/\noLs (ys.map W.int)=true then _ else _)=_
 rw [if_pos ⟨by rw [List.length_map,List.length_map]; exact h,noLs_ints xs,noLs_ints ys⟩,<- List.map_append]
theorem cutI_d (r:List Int):cutI r (some 1) none=r.drop 1:=by
 unfold cutI
 rw [HT.sIx_none,show ((1:Int))=((1:Nat):Int) from rfl,HT.sIx_nat]
 cases r with
 | nil=>rfl
 | cons r rs=>simp
def stp (m:Mv) (p:Nat):Int:=m.2.getD p 0-m.1.getD p 0
theorem Cb_le (r:Nat):Cb r<=2145:=by
 unfold Cb
 split
 ·decide
 ·unfold Bb; split <;> decide
def Ker (n:Nat) (ms:List Mv) (v:Nat->Int):Prop:=∀ m∈ms,dt n v (stp m)=0
theorem Ker.lat (n:Nat) (ms:List Mv):Lat (Ker n ms):=⟨fun a b h1 h2 m hm=>by rw [dt_lin,h1 m hm,h2 m hm]; omega⟩
theorem balances_ok {ms:List Mv} {n:Nat} (hn:n<=6) (h8:ms.length<=8) (hms:∀ m∈ms,okN n m/\(∀ x∈m.1,x<=1000000000)/\∀ x∈m.2,x<=1000000000):Ok (f_balances [tM_ ms,.int (n:Int)]) fun v=>∃ rs q,v=lS rs/\rs.length<=6/\Ech n rs q/\(∀ i,i<rs.length->Rb n 2145 (rs.getD i []))/\(∀ i,i<rs.length->Ker n ms (rA rs i))/\Gen n (Ker n ms) rs q:=by
 have eu:∀ N mg me ρ (h:∀ i∈List.range n,∃ ρ1,mg (.int (i:Nat)) (ρ++List.replicate (N-ρ.length) Sl.un)=some ρ1/\me ρ1=.ok (tI (uL n i))),mComp N mg yes me ((List.range n).map fun i=>W.int (i:Nat)) ρ=.ok (lS ((List.range n).map (uL n))):=fun N mg me ρ h=>by
  rw [mComp_all (fun i=>tI (uL n i)) _ _ ρ (by simp; omega) h]
  show _=R.ok (W.lst (((List.range n).map (uL n)).map tI))
  rw [List.map_map]; rfl
 exists rpB,m_balances
 rw [eu]
 rotate_left
 ·intro i hi
  have k:=unit_ok (i:=i) hn
  refine ⟨_,rfl,?_⟩
  exists k
 exists rp18
 refine ok_end (po_fors (fun i ρ=>∃ (rs:List (List Int)) (a3 a4 a5:Sl),ρ = [.par (tM_ ms),.par (.int (n:Int)),.own (rs.map tI),a3,a4,a5]/\rs.length<=6/\∃ L q u B,Lat L/\(∀ v,L v↔∀ j m,j<i->ms[j]?=some m->dt n v (stp m)=0)/\Bal n L rs q u B) ⟨_,_,_,_,rfl,by simp; omega,_,_,_,_,⟨fun _ _ _ _=>trivial⟩,fun _=>⟨fun _ j m hj=>absurd hj (Nat.not_lt_zero _),fun _=>trivial⟩,Bal.start hn⟩ ?_ ?_)
 ·rintro i w ρ hu ⟨rs,a3,a4,a5,rfl,hr6,L,q,u,B,hL,hLd,hB⟩
  obtain ⟨m,hm,hmi,rfl⟩:=map_atM hu
  obtain ⟨hk,hk1,hk2⟩:=hms m hm
  have k1:=change_ok hn hk
  have sb:∀ p,p<n->-1000000000<=stp m p/\stp m p<=1000000000:=fun p hp=>by
   have a1:=nn_at hk.2.2.1 p
   have a2:=nn_at hk.2.2.2 p
   have b1:=memD hk1 (i:=p) (by rw [hk.1]; exact hp)
   have b2:=memD hk2 (i:=p) (by rw [hk.2.1]; exact hp)
   unfold stp
   omega
  obtain ⟨h1,h2,h3,h4⟩:=hB.w (s:=stp m) hL hn hr6 fun p hp=>by have:=sb p hp; omega
  have hwl:(rs.map (wR n (stp m))).length=rs.length:=List.length_map _
  obtain ⟨_,k2,fs,Q,rfl,f1,f2,f3,f4,f5⟩:=neat_ok (by omega) (hL.m (n:=n) (s:=stp m)) (by omega) h1 h2 h3 h4 (fun t j htj=>h9_6 _ hr6 t (by omega) j (by omega) (by omega))
  obtain ⟨g6,q',u',B',hB'⟩:=hB.next hL hn hr6 (s:=stp m) (fun p hp=>by have:=sb p hp; omega) (by omega) f2 f3 f4 f5
  have ew:∀ N mg me ρ (h:∀ r∈rs,∃ ρ1,mg (tI r) (ρ++List.replicate (N-ρ.length) Sl.un)=some ρ1/\me ρ1=.ok (tI (wR n (stp m) r))),mComp N mg yes me (rs.map tI) ρ=.ok (lS (rs.map (wR n (stp m)))):=fun N mg me ρ h=>by
   rw [mComp_all (fun r=>tI (wR n (stp m) r)) _ _ ρ (by omega) h]
   show _=R.ok (W.lst ((rs.map (wR n (stp m))).map tI))
   rw [List.map_map]; rfl
  have ef:∀ N mg mc me ρ (h:∀ r∈fs,∃ ρ1,mg (tI r) (ρ++List.replicate (N-ρ.length) Sl.un)=some ρ1/\mc ρ1=.ok (decide (ent r 0=0))/\(decide (ent r 0=0)=true->me ρ1=.ok (tI (r.drop 1)))),mComp N mg mc me (fs.map tI) ρ=.ok (lS (kpt fs)):=fun N mg mc me ρ h=>by
   rw [mComp_filter (fun r=>tI (r.drop 1)) _ (fun r=>decide (ent r 0=0)) fs ρ (by omega) h]
   show _=R.ok (W.lst ((kpt fs).map tI))
   unfold kpt
   rw [List.map_map]; rfl
  refine ⟨_,rfl,?_⟩
  exists k1
  rw [ew]
  rotate_left
  ·intro r hr
   obtain ⟨j,hj,rfl⟩:=List.getElem_of_mem hr
   have hrl:=hB.len j hj
   rw [List.getD_eq_getElem?_getD,List.getElem?_eq_getElem hj] at hrl
   change rs[j].length=n at hrl
   have k3:=weigh_ok (y:=rs[j]) (d:=(List.range n).map fun k=>m.2.getD k 0-m.1.getD k 0) hn hrl (by simp) fun p hp=>by
    rw [vec_getD hp]
    have:=sb p hp
    unfold stp at this
    omega
   have e3:dt n (ent rs[j]) (ent ((List.range n).map fun k=>m.2.getD k 0-m.1.getD k 0))=dt n (ent rs[j]) (stp m):=sumN_congr fun p hp=>by
    show _*((List.range n).map fun k=>m.2.getD k 0-m.1.getD k 0).getD p 0=_
    rw [vec_getD hp]; rfl
   rw [e3] at k3
   have k4:fCatT (.tup [.int (dt n (ent rs[j]) (stp m))]) (tI rs[j])=.ok (tI (wR n (stp m) rs[j])):=fCatT_II (xs:=[dt n (ent rs[j]) (stp m)]) (by simp; omega)
   refine ⟨_,rfl,?_⟩
   exists k3,k4
  exists rp18
  rw [k2]
  exists rp18
  rw [ef]
  rotate_left
  ·intro r hr
   obtain ⟨j,hj,rfl⟩:=List.getElem_of_mem hr
   have hrl:=f4 j hj
   rw [List.getD_eq_getElem?_getD,List.getElem?_eq_getElem hj] at hrl
   change fs[j].length=n+1 at hrl
   refine ⟨_,rfl,?_,fun _=>?_⟩
   ·exists rp18
    rfl
   ·exists cutI_d
  exists rp18
  refine ⟨kpt fs,_,_,_,rfl,g6,_,q',u',B',⟨fun a b h1 h2=>⟨hL.lin a b h1.1 h2.1,by rw [dt_lin,h1.2,h2.2]; omega⟩⟩,fun v=>⟨fun hv j m' hj hm'=>?_,fun hv=>⟨(hLd v).mpr fun j m' hj hm'=>hv j m' (by omega) hm',hv i m (by omega) hmi⟩⟩,hB'⟩
  by_cases e:j=i
  ·subst e
   rw [hmi] at hm'
   cases hm'
   exact hv.2
  ·exact (hLd v).mp hv.1 j m' (by omega) hm'
 ·rintro ρ ⟨rs,a3,a4,a5,rfl,hr6,L,q,u,B,hL,hLd,hB⟩
  rw [List.length_map] at hLd
  have eK:L=Ker n ms:=funext fun v=>propext ⟨fun hv m hm=>by
   obtain ⟨j,hj,rfl⟩:=List.getElem_of_mem hm
   exact (hLd v).mp hv j _ hj (List.getElem?_eq_getElem hj),fun hv=>(hLd v).mpr fun j m _ hm=>hv m (List.mem_of_getElem? hm)⟩
  subst eK
  exists rp18
  exact ⟨rs,q,rfl,hr6,hB.ech,fun i hi=>⟨hB.len i hi,fun p hp=>Nat.le_trans (hB.dia.bound hL hB.ech hB.gen hB.mem hi hp) (Nat.le_trans (hB.c p hp) (Nat.pow_le_pow_right (by decide) (Cb_le _)))⟩,hB.mem,hB.gen⟩
def shR (n:Nat) (rs:List (List Int)) (q:Nat->Nat) (w:List Int):Nat->List Int
 | 0=>w
 | i+1=>lowL n (shR n rs q w i) (rs.getD i []) (q i)
def shT (n:Nat) (rs:List (List Int)) (q:Nat->Nat) (w:List Int) (i:Nat):Int:=(ent (shR n rs q w i) (q i)).fdiv (rA rs i (q i))
theorem shR_sum {n:Nat} {rs:List (List Int)} {q:Nat->Nat} {w:List Int}:∀ {i:Nat} {p:Nat},p<n->ent w p=ent (shR n rs q w i) p+sumN i fun k=>shT n rs q w k*rA rs k p
 | 0,p,_=>by show _=ent w p+0; omega
 | i+1,p,hp=>by
  rw [shR_sum (i:=i) hp]
  show ent (shR n rs q w i) p+sumN i (fun k=>shT n rs q w k*rA rs k p)=ent (lowL n (shR n rs q w i) (rs.getD i []) (q i)) p+(sumN i (fun k=>shT n rs q w k*rA rs k p)+shT n rs q w i*rA rs i p)
  rw [low_at hp]
  show _=_-shT n rs q w i*rA rs i p+_
  omega
theorem sumN_dt {n:Nat} {t:Nat->Int} {A:Nat->Nat->Int} {s:Nat->Int}:∀ r:Nat,dt n (fun p=>sumN r fun k=>t k*A k p) s=sumN r fun k=>t k*dt n (A k) s
 | 0=>sumN_zero fun p _=>Int.zero_mul _
 | r+1=>by
  have h:=dt_lin n (fun p=>sumN r fun k=>t k*A k p) (A r) s 1 (t r)
  have e:(fun p=>1*(sumN r fun k=>t k*A k p)+t r*A r p)=fun p=>sumN (r+1) fun k=>t k*A k p:=funext fun p=>by
   show _=sumN r (fun k=>t k*A k p)+t r*A r p
   omega
  rw [e] at h
  rw [h,sumN_dt r]
  show _=sumN r (fun k=>t k*dt n (A k) s)+t r*dt n (A r) s
  omega
section
variable {n:Nat} {L:(Nat->Int)->Prop} {rs:List (List Int)} {q:Nat->Nat} {w:List Int}
theorem shR_len (hw:w.length=n):∀ i,(shR n rs q w i).length=n
 | 0=>hw
 | _+1=>low_len _ _ _ _
theorem shR_mem (hL:Lat L) (hM:∀ i,i<rs.length->L (rA rs i)) (hlen:∀ i,i<rs.length->(rs.getD i []).length=n) (hwl:w.length=n) (hw:L (ent w)):∀ {i:Nat},i<=rs.length->L (ent (shR n rs q w i))
 | 0,_=>hw
 | i+1,hi=>by
  have e:ent (shR n rs q w (i+1))=fun p=>1*ent (shR n rs q w i) p + -(shT n rs q w i)*rA rs i p:=funext fun p=>by
   show ent (lowL n (shR n rs q w i) (rs.getD i []) (q i)) p=_
   by_cases hp:p<n
   ·rw [low_at hp,Int.neg_mul]
    show _-shT n rs q w i*rA rs i p=_
    omega
   ·rw [out_0 (low_len _ _ _ _) hp,out_0 (shR_len hwl i) hp]
    show 0=1*0+_*ent (rs.getD i []) p
    rw [out_0 (hlen i (by omega)) hp]; omega
  rw [e]; exact hL.lin _ _ (shR_mem hL hM hlen hwl hw (by omega)) (hM i (by omega))
theorem shR_zero (hL:Lat L) (hE:Ech n rs q) (hG:Gen n L rs q) (hM:∀ i,i<rs.length->L (rA rs i)) (hlen:∀ i,i<rs.length->(rs.getD i []).length=n) (hwl:w.length=n) (hw:L (ent w)):∀ {i:Nat},i<=rs.length->∀ k,k<i->∀ p,p<=q k->ent (shR n rs q w i) p=0
 | 0,_=>fun k hk=>absurd hk (Nat.not_lt_zero _)
 | i+1,hi=>fun k hk p hp=>by
  have hm:=shR_mem (q:=q) hL hM hlen hwl hw (i:=i) (by omega)
  have ih:=shR_zero hL hE hG hM hlen hwl hw (i:=i) (by omega)
  have hpq:p<=q i:=by
   by_cases e:k=i
   ·subst e; exact hp
   ·have:=hE.inc k i (by omega) (by omega); omega
  have qn:=hE.lt i (by omega)
  -- what is left is zero ahead of q i
  have z:∀ p,p<q i->ent (shR n rs q w i) p=0:=fun p hp=>by
   rcases hG _ hm with a | ⟨j,hj,a1,a2,_⟩
   ·exact a p (by omega)
   ·have:i<=j:=by
     rcases Nat.lt_or_ge j i with y | y
     ·exact absurd (ih j y _ (Nat.le_refl _)) a2
     ·exact y
    refine a1 p ?_
    rcases Nat.lt_or_ge i j with y | y
    ·have:=hE.inc i j y hj; omega
    ·have:i=j:=by omega
     rw [<- this]; exact hp
  show ent (lowL n (shR n rs q w i) (rs.getD i []) (q i)) p=0
  rw [low_at (by omega)]
  by_cases e:p=q i
  ·subst e
   have dv:rA rs i (q i)∣ent (shR n rs q w i) (q i):=by
    by_cases h0:ent (shR n rs q w i) (q i)=0
    ·rw [h0]; exact Int.dvd_zero _
    ·rcases hG _ hm with a | ⟨j,hj,a1,a2,a3⟩
     ·exact absurd (a _ qn) h0
     ·have:j=i:=by
       rcases Nat.lt_trichotomy j i with y | y | y
       ·exact absurd (ih j y _ (Nat.le_refl _)) a2
       ·exact y
       ·exact absurd (a1 _ (hE.inc i j y hj)) h0
      rw [this] at a3; exact a3
   have e2:=Int.fdiv_mul_cancel dv
   change (ent (shR n rs q w i) (q i)).fdiv (ent (rs.getD i []) (q i))*ent (rs.getD i []) (q i)=_ at e2
   omega
  ·rw [z p (by omega)]
   have:ent (rs.getD i []) p=0:=hE.z i (by omega) p (by omega)
   rw [this]; omega
theorem shR_end (hL:Lat L) (hE:Ech n rs q) (hG:Gen n L rs q) (hM:∀ i,i<rs.length->L (rA rs i)) (hlen:∀ i,i<rs.length->(rs.getD i []).length=n) (hwl:w.length=n) (hw:L (ent w)):∀ p,p<n->ent (shR n rs q w rs.length) p=0:=by
 rcases hG _ (shR_mem (q:=q) hL hM hlen hwl hw (Nat.le_refl _)) with a | ⟨j,hj,_,a2,_⟩
 ·exact a
 ·exact absurd (shR_zero hL hE hG hM hlen hwl hw (Nat.le_refl _) j hj _ (Nat.le_refl _)) a2
end
theorem fil_hd {g:Nat->Bool} {p:Nat}:∀ {n:Nat},p<n->g p=true->(∀ q,q<p->g q=false)->∃ r,(List.range n).filter g=p::r
 | 0,h,_,_=>absurd h (Nat.not_lt_zero _)
 | n+1,h,hp,hq=>by
  rw [List.range_succ,List.filter_append]
  by_cases e:p=n
  ·subst e
   have:(List.range p).filter g = []:=by
    rw [List.filter_eq_nil_iff]
    exact fun q hq'=>by rw [hq q (List.mem_range.mp hq')]; decide
   rw [this]
   exact ⟨[],by simp [hp]⟩
  ·obtain ⟨r,hr⟩:=fil_hd (n:=n) (by omega) hp hq
   rw [hr]
   exact ⟨_,rfl⟩
theorem leadof_ok {r:List Int} {q:Nat} (h6:r.length<=6) (hq:q<r.length) (hz:∀ p,p<q->r.getD p 0=0) (hne:r.getD q 0≠0):f_lead_of [tI r]=.ok (.int (q:Int)):=by
 have e:∀ N mg mc me ρ,(∀ k,k<r.length->∃ ρ1,mg (.tup [.int (k:Nat),.int (r.getD k 0)]) (ρ++List.replicate (N-ρ.length) Sl.un)=some ρ1/\mc ρ1=.ok (!decide (r.getD k 0=0))/\me ρ1=.ok (.int (k:Nat))) ->
   mComp N mg mc me ((List.range r.length).map fun k=>W.tup [.int (k:Nat),.int (r.getD k 0)]) ρ=.ok (.lst (((List.range r.length).filter fun k=>!decide (r.getD k 0=0)).map fun k=>W.int (k:Nat))):=fun N mg mc me ρ hh=>by
  refine mComp_filter (fun k=>W.int (k:Nat)) _ (fun k=>!decide (r.getD k 0=0)) _ ρ (by simp; omega) fun k hk=>?_
  obtain ⟨ρ1,e1,e2,e3⟩:=hh k (by simpa using hk)
  exact ⟨ρ1,e1,e2,fun _=>e3⟩
 have en:enuW [tI r]=.ok ((List.range r.length).map fun k=>W.tup [.int (k:Nat),.int (r.getD k 0)]):=by
  show R.ok ((r.map W.int).mapIdx fun i x=>W.tup [.int (i:Int),x])=_
  congr 1
  refine List.ext_getElem (by simp) fun k h1 h2=>?_
  have hk:k<r.length:=by simpa using h1
  simp [List.getD_eq_getElem?_getD,List.getElem?_eq_getElem hk]
 obtain ⟨l,hl⟩:=fil_hd (g:=fun k=>!decide (r.getD k 0=0)) hq (by rw [decide_eq_false hne]; rfl) fun p hp=>by rw [decide_eq_true (hz p hp)]; rfl
 have a0:L2.atI ((q::l).map fun k:Nat=>W.int (k:Int)) 0=some (.int (q:Int)):=atW_of (k:=0) rfl
 exists rpB,m_lead_of,en
 rw [e,hl]
 ·have a1:L2.atI (.int (q:Int)::l.map fun k:Nat=>W.int (k:Int)) 0=some (.int (q:Int)):=atW_of (k:=0) rfl
  exists a1
 ·intro k hk
  refine ⟨_,rfl,?_⟩
  exists rp18
theorem low_rb {m c k l:Nat} {row lead:List Int} (hc:c<m) (hr:Rb m k row) (hl:Rb m l lead) (h0:ent lead c≠0):Rb m (k+l+2) (lowL m row lead c):=by
 refine ⟨low_len _ _ _ _,fun p hp=>?_⟩
 rw [low_at hp]
 have k1:=low_q (a:=ent row c) (b:=ent lead c) h0 (hr.bd c hc)
 have k2:=Nat.mul_le_mul k1 (hl.bd p hp)
 rw [<- Nat.pow_add,<- Int.natAbs_mul] at k2
 have k3:=hr.bd p hp
 have e1:2^k<=2^(k+1+l):=Nat.pow_le_pow_right (by decide) (by omega)
 have e2:2^(k+l+2)=2^(k+1+l)*2:=by rw [<- Nat.pow_succ]; congr 1; omega
 have k5:(ent row p-(ent row c).fdiv (ent lead c)*ent lead p).natAbs<=(ent row p).natAbs+((ent row c).fdiv (ent lead c)*ent lead p).natAbs:=by omega
 omega
theorem shares_ok {n:Nat} {ms:List Mv} {rs:List (List Int)} {q:Nat->Nat} {w:List Int} {a:Nat} (hn:n<=6) (hr:rs.length<=6) (hE:Ech n rs q) (hG:Gen n (Ker n ms) rs q) (hM:∀ i,i<rs.length->Ker n ms (rA rs i)) (hb:∀ i,i<rs.length->Rb n 2145 (rs.getD i [])) (hw:Rb n a w) (ha:a<=100000):Ok (f_shares [lS rs,tI w]) fun v=>(v=.non/\¬ Ker n ms (ent w))\/∃ ts:List Int,v=lI ts/\ts.length=rs.length/\Ker n ms (ent w)/\(∀ k,k<rs.length->(ts.getD k 0).natAbs<=2^200000)/\∀ p,p<n->ent w p=sumN rs.length fun k=>ts.getD k 0*rA rs k p:=by
 have rb:∀ {i:Nat},i<=rs.length->Rb n (a+2147*i) (shR n rs q w i):=fun {i}=>by
  induction i with
  | zero=>intro _; exact hw
  | succ i ih=>
   intro hi
   have:=low_rb (c:=q i) (hE.lt i (by omega)) (ih (by omega)) (hb i (by omega)) (by have:=hE.pos i (by omega); intro z; rw [show rA rs i (q i)=0 from z] at this; exact absurd this (by decide))
   exact this.mono (by omega)
 exists rpB,m_shares,chk_no (noL_tI w)
 refine ok_end (po_fors (fun i ρ=>∃ (a4 a5:Sl),ρ = [.par (lS rs),.par (tI w),.own (((List.range i).map (shT n rs q w)).map W.int),.val (tI (shR n rs q w i)),a4,a5]) ⟨_,_,rfl⟩ ?_ ?_)
 ·rintro i u ρ hu ⟨a4,a5,rfl⟩
  rw [List.getElem?_map] at hu
  obtain ⟨r,hri,rfl⟩:=Option.map_eq_some_iff.mp hu
  have hi:i<rs.length:=(List.getElem?_eq_some_iff.mp hri).1
  have er:rs.getD i []=r:=by rw [List.getD_eq_getElem?_getD,hri]; rfl
  have hbi:=hb i hi
  have hri:=rb (i:=i) (by omega)
  have p1:=hE.pos i hi
  have q1:=hE.lt i hi
  have hz:=hE.z i hi
  have hT:shT n rs q w i=(ent (shR n rs q w i) (q i)).fdiv (ent r (q i)):=by rw [<- er]; rfl
  have hR:shR n rs q w (i+1)=lowL n (shR n rs q w i) r (q i):=by rw [<- er]; rfl
  rw [er] at hbi
  change 1<=ent (rs.getD i []) (q i) at p1
  change ∀ p,p<q i->ent (rs.getD i []) p=0 at hz
  rw [er] at p1 hz
  have ne:ent r (q i)≠0:=by omega
  have l1:=hbi.len
  have l2:=hri.len
  have k1:=leadof_ok (by omega) (by omega) hz ne
  have b9:(ent r (q i)).natAbs<2^8999:=Nat.lt_of_le_of_lt (hbi.bd _ q1) (Nat.pow_lt_pow_right (by decide) (by omega))
  have dv:fI CDivZ gFz (.int ((shR n rs q w i).getD (q i) 0)) (.int (r.getD (q i) 0))=.ok (.int ((ent (shR n rs q w i) (q i)).fdiv (ent r (q i)))):=divZ_ii ne b9
  have k2:=low_ok (c:=q i) (by omega) q1 hri hbi ne b9 (by omega) (by omega)
  refine ⟨_,rfl,?_⟩
  exists k1,dv,k2
  refine ⟨.par (tI r),.val (.int (q i:Int)),?_⟩
  rw [hR,<- hT,List.range_succ,List.map_append (f:=shT n rs q w)]; rfl
 ·rintro ρ ⟨a4,a5,rfl⟩
  rw [List.length_map]
  have hl:=(rb (Nat.le_refl rs.length)).len
  have ea:∀ N mg me ρ (h:∀ x∈shR n rs q w rs.length,∃ ρ1,mg (.int x) (ρ++List.replicate (N-ρ.length) Sl.un)=some ρ1/\me ρ1=.ok (.bl (!decide (x=0)))),mComp N mg yes me ((shR n rs q w rs.length).map W.int) ρ=.ok (.lst (((shR n rs q w rs.length).map fun x=>!decide (x=0)).map W.bl)):=fun N mg me ρ h=>by
   rw [mComp_all (fun x=>W.bl (!decide (x=0))) _ _ ρ (by omega) h,List.map_map]; rfl
  exists rp18
  rw [ea]
  rotate_left
  ·intro x hx
   refine ⟨_,rfl,?_⟩
   exists rp18
  have lens:∀ i,i<rs.length->(rs.getD i []).length=n:=fun i hi=>(hb i hi).len
  by_cases h0:∀ p,p<n->ent (shR n rs q w rs.length) p=0
  ·have g0:gAny ((shR n rs q w rs.length).map fun x=>!decide (x=0))=false:=by
    unfold gAny
    rw [List.any_map,List.any_eq_false]
    intro x hx
    obtain ⟨p,hp,rfl⟩:=List.getElem_of_mem hx
    have:=h0 p (by omega)
    unfold ent at this
    rw [List.getD_eq_getElem?_getD,List.getElem?_eq_getElem hp] at this
    change (shR n rs q w rs.length)[p]=0 at this
    simp [this]
   have hs:∀ p,p<n->ent w p=sumN rs.length fun k=>shT n rs q w k*rA rs k p:=fun p hp=>by
    rw [shR_sum (n:=n) (rs:=rs) (q:=q) (w:=w) (i:=rs.length) hp,h0 p hp]; omega
   exists g0
   refine .inr ⟨(List.range rs.length).map (shT n rs q w),rfl,by simp,fun m hm=>?_,fun k hk=>?_,fun p hp=>?_⟩
   ·have e:dt n (ent w) (stp m)=dt n (fun p=>sumN rs.length fun k=>shT n rs q w k*rA rs k p) (stp m):=sumN_congr fun p hp=>by rw [hs p hp]
    rw [e,sumN_dt]
    exact sumN_zero fun k hk=>by rw [hM k hk m hm,Int.mul_zero]
   ·rw [vec_getD hk]
    exact Nat.le_trans (low_q (by have:=hE.pos k hk; intro z; rw [z] at this; exact absurd this (by decide)) ((rb (i:=k) (by omega)).bd _ (hE.lt k hk))) (Nat.pow_le_pow_right (by decide) (by omega))
   ·rw [hs p hp]
    exact sumN_congr fun k hk=>by rw [vec_getD hk]
  ·have g0:gAny ((shR n rs q w rs.length).map fun x=>!decide (x=0))=true:=by
    unfold gAny
    rw [List.any_map,List.any_eq_true]
    refine Classical.byContradiction fun hno=>h0 fun p hp=>?_
    refine Classical.byContradiction fun hne=>hno ⟨ent (shR n rs q w rs.length) p,?_,?_⟩
    ·unfold ent
     rw [List.getD_eq_getElem?_getD,List.getElem?_eq_getElem (by omega)]
     exact List.getElem_mem _
    ·simpa using hne
   exists g0
   exact .inl fun hk=>h0 (shR_end (Ker.lat n ms) hE hG hM lens hw.len hk)
theorem sums_ok {n:Nat} {rs:List (List Int)} {ts w:List Int} (hn:n<=6) (hr:rs.length<=6) (hb:∀ i,i<rs.length->Rb n 2145 (rs.getD i [])) (hw:w.length=n) (htl:ts.length=rs.length) (htb:∀ k,k<rs.length->(ts.getD k 0).natAbs<=2^200000) (hs:∀ p,p<n->ent w p=sumN rs.length fun k=>ts.getD k 0*rA rs k p):f__law_sums_up [lS rs,lI ts,lI w]=.ok (.bl true):=by
 have fin:Ok (f__law_sums_up [lS rs,lI ts,lI w]) fun v=>v=.bl true:=by
  have d0:decide ((ts.length:Int)=(rs.length:Int))=true:=decide_eq_true (by omega)
  exists rpB,m__law_sums_up,d0
  refine ok_end (po_fors (fun i ρ=>∃ a,ρ = [.par (lS rs),.par (lI ts),.par (lI w),a]) ⟨_,rfl⟩ ?_ ?_)
  ·rintro p u ρ hu ⟨a,rfl⟩
   obtain ⟨hp,rfl⟩:=rng_at hu
   have ec:∀ N mg me ρ (h:∀ k∈List.range rs.length,∃ ρ1,mg (.int (k:Nat)) (ρ++List.replicate (N-ρ.length) Sl.un)=some ρ1/\me ρ1=.ok (.int (ts.getD k 0*rA rs k p))),mComp N mg yes me ((List.range rs.length).map fun k=>W.int (k:Nat)) ρ=.ok (lI (vec rs.length fun k=>ts.getD k 0*rA rs k p)):=fun N mg me ρ h=>by
    rw [mComp_all (fun k=>W.int (ts.getD k 0*rA rs k p)) _ _ ρ (by simp; omega) h,mapI]
   have gs:gSum (vec rs.length fun k=>ts.getD k 0*rA rs k p)=w.getD p 0:=by
    show ((List.range rs.length).map fun k=>ts.getD k 0*rA rs k p).sum=ent w p
    rw [sumN_list,hs p (by omega)]
   have d1:decide (w.getD p 0=w.getD p 0)=true:=decide_eq_true rfl
   refine ⟨_,rfl,?_⟩
   exists rp18
   rw [ec]
   rotate_left
   ·intro k hk
    have hk:k<rs.length:=by simpa using hk
    have l1:=(hb k hk).len
    have b1:=bits_of_le (htb k hk)
    have b2:=bits_of_le ((hb k hk).bd p (by omega))
    have mm:=mulB_b (i:=ts.getD k 0) (j:=ent (rs.getD k []) p) (by omega)
    refine ⟨_,rfl,?_⟩
    exists rp18
    exact mm
   exists gs,d1
   exact ⟨_,rfl⟩
  ·rintro ρ ⟨a,rfl⟩
   exists rp18
 obtain ⟨v,e,rfl⟩:=fin
 exact e
theorem keeps_ok {n:Nat} {ms:List Mv} {w:List Int} (hn:n<=6) (hms:∀ m∈ms,okB n m) (hw:w.length=n):Ok (f__law_keeps [tM_ ms,lI w]) fun v=>(v=.bl true/\Ker n ms (ent w))\/(v=.bl false/\¬ Ker n ms (ent w)):=by
 exists rpB,m__law_keeps
 refine ok_end (po_fors (fun i ρ=>∃ (a b:Sl),ρ = [.par (tM_ ms),.par (lI w),a,b]/\∀ m∈ms.take i,dt n (ent w) (stp m)=0) ⟨_,_,rfl,by simp⟩ ?_ ?_)
 ·rintro i u ρ hu ⟨a,b,rfl,hi⟩
  obtain ⟨m,hm,hmi,rfl⟩:=map_atM hu
  obtain ⟨hk,hk1,hk2⟩:=hms m hm
  have l1:=hk.1
  have l2:=hk.2.1
  have ec:∀ N mg me ρ (h:∀ p∈List.range n,∃ ρ1,mg (.int (p:Nat)) (ρ++List.replicate (N-ρ.length) Sl.un)=some ρ1/\me ρ1=.ok (.int (ent w p*stp m p))),mComp N mg yes me ((List.range n).map fun p=>W.int (p:Nat)) ρ=.ok (lI (vec n fun p=>ent w p*stp m p)):=fun N mg me ρ h=>by
   rw [mComp_all (fun p=>W.int (ent w p*stp m p)) _ _ ρ (by simp; omega) h,mapI]
  have gs:gSum (vec n fun p=>ent w p*stp m p)=dt n (ent w) (stp m):=sumN_list _ _
  have et:ms.take (i+1)=ms.take i ++ [m]:=by rw [List.take_succ,hmi]; rfl
  refine ⟨_,rfl,?_⟩
  exists hw
  rw [ec]
  rotate_left
  ·intro p hp
   have hp:p<n:=by simpa using hp
   have a1:=nn_at hk.2.2.1 p
   have a2:=nn_at hk.2.2.2 p
   have b1:=memD hk1 (i:=p) (by omega)
   have b2:=memD hk2 (i:=p) (by omega)
   have mm:=mulB_R (i:=w.getD p 0) (j:=m.2.getD p 0-m.1.getD p 0) (by omega)
   refine ⟨_,rfl,?_⟩
   exists mm
   rfl
  by_cases h0:dt n (ent w) (stp m)=0
  ·have d0:decide (dt n (ent w) (stp m)=0)=true:=decide_eq_true h0
   exists gs,d0
   refine ⟨_,_,rfl,fun m' hm'=>?_⟩
   rw [et] at hm'
   rcases List.mem_append.mp hm' with z | z
   ·exact hi m' z
   ·rw [List.mem_singleton.mp z]; exact h0
  ·have d0:decide (dt n (ent w) (stp m)=0)=false:=decide_eq_false h0
   exists gs,d0
   exact .inr fun hk=>h0 (hk m hm)
 ·rintro ρ ⟨a,b,rfl,hi⟩
  rw [List.length_map,List.take_length] at hi
  exists rp18
  exact .inl hi
theorem asked_ok {n:Nat} {ms:List Mv} {rs:List (List Int)} {q:Nat->Nat} {w:List Int} {a:Nat} (hn:n<=6) (hms:∀ m∈ms,okB n m) (hr:rs.length<=6) (hE:Ech n rs q) (hG:Gen n (Ker n ms) rs q) (hM:∀ i,i<rs.length->Ker n ms (rA rs i)) (hb:∀ i,i<rs.length->Rb n 2145 (rs.getD i [])) (hw:Rb n a w) (ha:a<=100000):f__law_asked [lS rs,tM_ ms,lI w]=.ok (.bl true):=by
 have fin:Ok (f__law_asked [lS rs,tM_ ms,lI w]) fun v=>v=.bl true:=by
  obtain ⟨v,k1,hv⟩:=shares_ok (ms:=ms) hn hr hE hG hM hb hw ha
  obtain ⟨x,k2,hx⟩:=keeps_ok (w:=w) hn hms hw.len
  have n1:fIsN false .non .non=.ok (.bl true):=rfl
  rcases hx with ⟨rfl,hk⟩ | ⟨rfl,hk⟩
  ·rcases hv with ⟨_,hno⟩ | ⟨ts,rfl,htl,_,htb,hs⟩
   ·exact absurd hk hno
   ·have k3:=sums_ok hn hr hb hw.len htl htb hs
    exists rpB,m__law_asked,k1,k2,k3
    exact ⟨_,rfl,rfl⟩
  ·rcases hv with ⟨rfl,_⟩ | ⟨ts,rfl,_,hk2,_⟩
   ·exists rpB,m__law_asked,k1,k2,n1
    exact ⟨_,rfl,rfl⟩
   ·exact absurd hk2 hk
 obtain ⟨v,e,rfl⟩:=fin
 exact e
theorem sumsh_ok {n:Nat} {ms:List Mv} {rs:List (List Int)} {q:Nat->Nat} {w:List Int} {a:Nat} (hn:n<=6) (hr:rs.length<=6) (hE:Ech n rs q) (hG:Gen n (Ker n ms) rs q) (hM:∀ i,i<rs.length->Ker n ms (rA rs i)) (hb:∀ i,i<rs.length->Rb n 2145 (rs.getD i [])) (hw:Rb n a w) (ha:a<=100000) (hk:Ker n ms (ent w)):∃ ts,f_shares [lS rs,tI w]=.ok (lI ts)/\f__law_sums_up [lS rs,lI ts,lI w]=.ok (.bl true):=by
 obtain ⟨v,k1,hv⟩:=shares_ok (ms:=ms) hn hr hE hG hM hb hw ha
 rcases hv with ⟨_,hno⟩ | ⟨ts,rfl,htl,_,htb,hs⟩
 ·exact absurd hk hno
 ·exact ⟨ts,k1,sums_ok hn hr hb hw.len htl htb hs⟩
theorem divisor_ok (a b:Int):Ok (f__law_divisor [.int a,.int b]) fun v=>∃ d:Int,v=.int d/\0<=d/\d∣a/\d∣b/\(d=0->a=0/\b=0)/\d<=a.natAbs+b.natAbs:=by
 exists rpB,m__law_divisor
 refine ok_end (po_seq ?_)
 refine po_while (fun M ρ=>∃ (x y:Int),(ρ = [.par (.int x),.par (.int y)]\/ρ = [.val (.int x),.val (.int y)])/\(∀ d:Int,d∣x->d∣y->d∣a/\d∣b)/\x.natAbs<=a.natAbs+b.natAbs/\y.natAbs<=a.natAbs+b.natAbs/\M=y.natAbs) ?_ b.natAbs _ ⟨a,b,.inl rfl,fun d h1 h2=>⟨h1,h2⟩,by omega,by omega,rfl⟩
 rintro M ρ ⟨x,y,hρ,hd,hx,hy,rfl⟩
 by_cases h0:y=0
 ·have d1:decide (y=0)=true:=decide_eq_true h0
  refine ⟨false,?_,?_⟩
  ·rcases hρ with rfl | rfl
   all_goals exists d1
  rw [if_neg (by decide)]
  have hxd:=hd (x.natAbs:Int) (Int.natAbs_dvd.mpr (Int.dvd_refl x)) (by rw [h0]; exact Int.dvd_zero _)
  have res:∃ d:Int,(W.int (x.natAbs:Int))=.int d/\0<=d/\d∣a/\d∣b/\(d=0->a=0/\b=0)/\d<=a.natAbs+b.natAbs:=⟨(x.natAbs:Int),rfl,by omega,hxd.1,hxd.2,fun z=>by
   rw [z] at hxd
   exact ⟨Int.zero_dvd.mp hxd.1,Int.zero_dvd.mp hxd.2⟩,by omega⟩
  have fa:fAbs [.int x]=.ok (.int (x.natAbs:Int)):=by
   exists rp18
   rw [show (if x<0 then -x else x)=(x.natAbs:Int) by split <;> omega]
  rcases hρ with rfl | rfl
  all_goals
   exists fa
   exact res
 ·have d1:decide (y=0)=false:=decide_eq_false h0
  have mm:=modZ_ii (i:=x) h0
  have hr:=fdiv_r (a:=x) h0
  have em:x.fmod y=x-x.fdiv y*y:=by
   have:=Int.fmod_add_mul_fdiv x y
   rw [Int.mul_comm y] at this; omega
  have hlt:(x.fmod y).natAbs<y.natAbs:=by
   rw [em]
   rcases Int.lt_or_gt_of_ne h0 with z | z
   ·have:=hr.2 z; omega
   ·have:=hr.1 z; omega
  refine ⟨true,?_,?_⟩
  ·rcases hρ with rfl | rfl
   all_goals exists d1
  rw [if_pos rfl]
  have fin:∀ d:Int,d∣y->d∣x.fmod y->d∣a/\d∣b:=fun d h1 h2=>hd d (by
   have e:x=x.fmod y+x.fdiv y*y:=by omega
   rw [e]
   exact Int.dvd_add h2 (Int.dvd_trans h1 (Int.dvd_mul_left _ _))) h1
  rcases hρ with rfl | rfl
  all_goals
   exists sPar_ap,mm
   exact ⟨_,hlt,y,x.fmod y,.inr rfl,fin,hy,by omega,rfl⟩
theorem pairs_ok {n:Nat} {dr:List Int} (hn:n<=6) (hl:dr.length=n) (hb:∀ x∈dr,-1000000000<=x/\x<=1000000000):Ok (f__law_pairs [lI dr]) fun v=>∃ ps:List (List Int),v=.lst (ps.map lI)/\ps.length<=36/\∀ w∈ps,Rb n 40 w/\dt n (ent w) (ent dr)=0:=by
 exists rpB,m__law_pairs
 refine ok_end (po_fors (fun i ρ=>∃ (ps:List (List Int)) (a b c d:Sl),ρ = [.par (lI dr),.own (ps.map lI),.val (.int (dr.length:Int)),a,b,c,d]/\ps.length<=6*i/\∀ w∈ps,Rb n 40 w/\dt n (ent w) (ent dr)=0) ⟨[],_,_,_,_,rfl,by simp,by simp⟩ ?_ ?_)
 ·rintro q u ρ hu ⟨ps,a,b,c,d,rfl,hpl,hps⟩
  obtain ⟨hq,rfl⟩:=rng_at hu
  refine ⟨_,rfl,?_⟩
  exists rp18
  refine po_for (fun j ρ=>∃ (ps:List (List Int)) (b c d:Sl),ρ = [.par (lI dr),.own (ps.map lI),.val (.int (dr.length:Int)),.par (.int (q:Int)),b,c,d]/\ps.length<=6*q+j/\∀ w∈ps,Rb n 40 w/\dt n (ent w) (ent dr)=0) ⟨ps,_,_,_,rfl,by omega,hps⟩ ?_ ?_
  ·rintro p u ρ hu ⟨ps,b,c,d,rfl,hpl,hps⟩
   obtain ⟨hp,rfl⟩:=rng_at hu
   obtain ⟨_,k1,s,rfl,hs0,hsa,hsb,hsz,hsl⟩:=divisor_ok (dr.getD p 0) (dr.getD q 0)
   have bp:=memD (P:=fun x=>-1000000000<=x/\x<=1000000000) hb (i:=p) (by omega)
   have bq:=memD (P:=fun x=>-1000000000<=x/\x<=1000000000) hb (i:=q) (by omega)
   have ec:∀ N mg me ρ (h:∀ k∈List.range dr.length,∃ ρ1,mg (.int (k:Nat)) (ρ++List.replicate (N-ρ.length) Sl.un)=some ρ1/\me ρ1=.ok (.int (if k=p then 1 else 0))),mComp N mg yes me ((List.range dr.length).map fun k=>W.int (k:Nat)) ρ=.ok (lI (uL n p)):=fun N mg me ρ h=>by
    rw [mComp_all (fun k=>W.int (if k=p then 1 else 0)) _ _ ρ (by simp; omega) h,mapI,hl]; rfl
   have ul:(uL n p).length=n:=by simp [uL]
   refine ⟨_,rfl,?_⟩
   exists k1
   rw [ec]
   rotate_left
   ·intro k hk
    have hk:k<dr.length:=by simpa using hk
    refine ⟨_,rfl,?_⟩
    by_cases z:k=p
    ·have d0:decide ((k:Int)=(p:Int))=true:=decide_eq_true (by rw [z])
     exists fEq_ii,d0
     rw [if_pos z]
    ·have d0:decide ((k:Int)=(p:Int))=false:=decide_eq_false (by omega)
     exists fEq_ii,d0
     rw [if_neg z]
   exists rp18
   refine po_cut (fun ρ=>∃ w:List Int,ρ = [.par (lI dr),.own (ps.map lI),.val (.int (dr.length:Int)),.par (.int (q:Int)),.par (.int (p:Int)),.val (.int s),.own (w.map W.int)]/\Rb n 40 w/\dt n (ent w) (ent dr)=0) ?_ ?_
   ·by_cases hz:s=0
    ·have d0:decide (s=0)=true:=decide_eq_true hz
     exists d0
     refine ⟨uL n p,rfl,⟨ul,fun k hk=>?_⟩,?_⟩
     ·rw [uL_at hk]; split <;> decide
     ·have:dt n (ent (uL n p)) (ent dr)=ent dr p:=by
       unfold dt
       rw [sumN_at (g:=fun _=>0) (r:=p) (by omega) fun k hk hne=>by rw [uL_at hk,if_neg hne,Int.zero_mul],sumN_zero fun _ _=>rfl,uL_at (by omega),if_pos rfl]
       omega
      rw [this]
      exact (hsz hz).1
    ·have d0:decide (s=0)=false:=decide_eq_false hz
     have hs1:0<s:=by omega
     have hs2:s<=1000000000:=by
      by_cases z:dr.getD p 0=0
      ·rw [z] at hsl
       have:(0:Int).natAbs=0:=rfl
       omega
      ·have:=Int.le_of_dvd (b:=((dr.getD p 0).natAbs:Int)) (by omega) (Int.dvd_natAbs.mpr hsa)
       omega
     obtain ⟨x,hx⟩:=hsa
     obtain ⟨y,hy⟩:=hsb
     have ex:dr.getD p 0/s=x:=by rw [hx]; exact Int.mul_ediv_cancel_left x hz
     have ey:dr.getD q 0/s=y:=by rw [hy]; exact Int.mul_ediv_cancel_left y hz
     have dvp:fI CDiv gDiv (.int (dr.getD p 0)) (.int s)=.ok (.int x):=by rw [div_ii ⟨hs1,by omega⟩,ex]
     have dvq:fI CDiv gDiv (.int (dr.getD q 0)) (.int s)=.ok (.int y):=by rw [div_ii ⟨hs1,by omega⟩,ey]
     exists d0,dvp,dvq
     have pq:p≠q:=by omega
     have l1:((uL n p).set p y).length=n:=by rw [List.length_set]; exact ul
     have wa:∀ k,k<n->ent (((uL n p).set p y).set q (0-x)) k=if k=q then 0-x else if k=p then y else 0:=fun k hk=>by
      show (((uL n p).set p y).set q (0-x)).getD k 0=_
      rw [List.getD_eq_getElem?_getD,List.getElem?_eq_getElem (by rw [List.length_set]; omega)]
      show (((uL n p).set p y).set q (0-x))[k]'(by rw [List.length_set]; omega)=_
      rw [List.getElem_set,List.getElem_set]
      have hu:(uL n p)[k]'(by omega)=if k=p then 1 else 0:=by simp [uL]
      by_cases z:q=k
      ·rw [if_pos z,if_pos z.symm]
      ·rw [if_neg z,if_neg (show ¬ k=q from fun h=>z h.symm)]
       by_cases z2:p=k
       ·rw [if_pos z2,if_pos z2.symm]
       ·rw [if_neg z2,if_neg (show ¬ k=p from fun h=>z2 h.symm),hu,if_neg (show ¬ k=p from fun h=>z2 h.symm)]
     have bx:x.natAbs<=1000000000:=by
      have h1:x.natAbs*1<=x.natAbs*s.natAbs:=Nat.mul_le_mul_left _ (by omega)
      have h2:(dr.getD p 0).natAbs=s.natAbs*x.natAbs:=by rw [hx,Int.natAbs_mul]
      rw [Nat.mul_comm] at h2
      omega
     have by_:y.natAbs<=1000000000:=by
      have h1:y.natAbs*1<=y.natAbs*s.natAbs:=Nat.mul_le_mul_left _ (by omega)
      have h2:(dr.getD q 0).natAbs=s.natAbs*y.natAbs:=by rw [hy,Int.natAbs_mul]
      rw [Nat.mul_comm] at h2
      omega
     have p40:1000000000<=2^40:=by decide
     refine ⟨((uL n p).set p y).set q (0-x),rfl,⟨by rw [List.length_set]; exact l1,fun k hk=>?_⟩,?_⟩
     ·rw [wa k hk]
      split
      ·omega
      ·split
       ·omega
       ·omega
     ·have e2:dt n (ent (((uL n p).set p y).set q (0-x))) (ent dr)=(0-x)*ent dr q+y*ent dr p:=by
       unfold dt
       rw [sumN_at (g:=fun k=>if k=q then (0-x)*ent dr q else 0) (r:=p) (by omega) fun k hk hne=>by
        rw [wa k hk]
        by_cases z:k=q
        ·rw [if_pos z,if_pos z,z]
        ·rw [if_neg z,if_neg hne,if_neg z,Int.zero_mul],sumN_at (g:=fun _=>0) (r:=q) (by omega) fun k _ hne=>by rw [if_neg hne],sumN_zero fun _ _=>rfl,wa p (by omega),if_neg pq,if_pos rfl,if_pos rfl]
       omega
      rw [e2]
      show (0-x)*dr.getD q 0+y*dr.getD p 0=0
      rw [hx,hy,Int.sub_mul,Int.zero_mul,Int.mul_left_comm x,Int.mul_left_comm y,Int.mul_comm x y]
      omega
   rintro ρ ⟨w,rfl,hw1,hw2⟩
   exists rp18
   refine ⟨ps ++ [w],_,_,_,by rw [List.map_append]; rfl,by simp; omega,fun w' hw'=>?_⟩
   rcases List.mem_append.mp hw' with z | z
   ·exact hps w' z
   ·rw [List.mem_singleton.mp z]; exact ⟨hw1,hw2⟩
  ·rintro ρ ⟨ps,b,c,d,rfl,hpl,hps⟩
   rw [List.length_map,List.length_range] at hpl
   exact ⟨ps,_,_,_,_,rfl,by omega,hps⟩
 ·rintro ρ ⟨ps,a,b,c,d,rfl,hpl,hps⟩
  rw [List.length_map,List.length_range] at hpl
  exists rp18
  exact ⟨ps,rfl,by omega,hps⟩
theorem top2 {i:Int} (h0:0<=i) (h:i<2):∃ v:Int,L2.atI [W.int 4,W.int 1000000001] i=some (.int v)/\4<=v/\v<=1000000001:=by
 have:i=0\/i=1:=by omega
 rcases this with rfl | rfl
 ·exact ⟨4,rfl,by omega,by omega⟩
 ·exact ⟨1000000001,rfl,by omega,by omega⟩
theorem lI_at {ps:List (List Int)} {i:Nat} {u:W} (h:(ps.map lI)[i]?=some u):∃ s∈ps,u=lI s:=by
 rw [List.getElem?_map] at h
 obtain ⟨s,hs,rfl⟩:=Option.map_eq_some_iff.mp h
 exact ⟨s,List.mem_of_getElem? hs,rfl⟩
theorem alone_ok {c:Int} {n:Nat} (h1:1<=n) (h6:n<=6):Ok (f__law_alone [.int c,.int (n:Int)]) fun v=>v=.bl true:=by
 obtain ⟨_,e1,xs,rfl,hxl,hxs⟩:=stream_ok (c:=c) (sa:=60) (n:=2*(n:Int)+1) (by omega) (by omega) (by omega) (by omega)
 have hxl:xs.length=2*n+1:=by rw [hxl]; omega
 obtain ⟨v,hv,hv0,hv1⟩:=top2 (i:=xs.getD (2*(n:Int)).toNat 0%2) (by omega) (by omega)
 have l1:=cut_0 (xs:=xs) (n:=n) (by omega)
 have l2:(cutI xs (some (n:Int)) (some (2*(n:Int)))).length=n:=by
  have:=cut_a (xs:=xs) (a:=n) (b:=2*n) (by omega) (by omega)
  rw [show ((2*n:Nat):Int)=2*(n:Int) by push_cast; rfl] at this
  omega
 have hm1:∀ (x:Int) (b:Prop) [Decidable b],fI CMulB gMul (.int (x/3%v)) (.int (if b then 1 else 0))=.ok (.int (x/3%v*if b then 1 else 0)):=fun x b _=>by
  have z0:=Int.emod_nonneg (x/3) (show v≠0 by omega)
  have z1:=Int.emod_lt_of_pos (x/3) (show 0<v by omega)
  exact mulN (by omega) (by split <;> decide)
 have pk:∀ (x:Int) (b:Prop) [Decidable b],0<=x/3%v*(if b then 1 else 0)/\x/3%v*(if b then 1 else 0)<=1000000000:=fun x b _=>by
  have z0:=Int.emod_nonneg (x/3) (show v≠0 by omega)
  have z1:=Int.emod_lt_of_pos (x/3) (show 0<v by omega)
  split
  ·rw [Int.mul_one]; omega
  ·rw [Int.mul_zero]; omega
 exists rpB,m__law_alone,e1,hv
 refine ok_end (po_sets ?_)
 refine ok_tcomp (fun _ z=>0<=z/\z<=1000000000) (by omega) ?_ ?_
 ·intro x hx
  refine ⟨_,rfl,?_⟩
  exists hm1
  exact ⟨_,rfl,_,rfl,pk _ _⟩
 intro ta hta
 have htn:∀ x∈ta,0<=x/\x<=1000000000:=paired_all (P:=fun z=>0<=z/\z<=1000000000) (fun _ _ h=>h) hta
 replace hta:=Paired.length hta
 exists rp18
 refine po_sets ?_
 refine ok_tcomp (fun _ z=>0<=z/\z<=1000000000) (by omega) ?_ ?_
 ·intro x hx
  refine ⟨_,rfl,?_⟩
  exists hm1
  exact ⟨_,rfl,_,rfl,pk _ _⟩
 intro pu hpu
 have hpn:∀ x∈pu,0<=x/\x<=1000000000:=paired_all (P:=fun z=>0<=z/\z<=1000000000) (fun _ _ h=>h) hpu
 replace hpu:=Paired.length hpu
 have tl:ta.length=n:=by omega
 have ul:pu.length=n:=by omega
 have hmv:∀ m ∈ [((ta,pu):Mv)],okB n m:=fun m hm=>by
  rw [List.mem_singleton.mp hm]
  exact ⟨⟨tl,ul,fun x hx=>(htn x hx).1,fun x hx=>(hpn x hx).1⟩,fun x hx=>(htn x hx).2,fun x hx=>(hpn x hx).2⟩
 obtain ⟨_,k1,rs,q,rfl,hr6,hE,hb,hM,hG⟩:=balances_ok (ms:=[((ta,pu):Mv)]) h6 (by simp) hmv
 have k1:f_balances [.tup [.tup [tI ta,tI pu]],.int (n:Int)]=.ok (lS rs):=k1
 have ec:∀ N mg me ρ (h:∀ p∈List.range n,∃ ρ1,mg (.int (p:Nat)) (ρ++List.replicate (N-ρ.length) Sl.un)=some ρ1/\me ρ1=.ok (.int (pu.getD p 0-ta.getD p 0))),mComp N mg yes me ((List.range n).map fun p=>W.int (p:Nat)) ρ=.ok (lI (vec n fun p=>pu.getD p 0-ta.getD p 0)):=fun N mg me ρ h=>by
  rw [mComp_all (fun p=>W.int (pu.getD p 0-ta.getD p 0)) _ _ ρ (by simp; omega) h,mapI]
 obtain ⟨dr,hdr⟩:∃ dr,dr=vec n fun p=>pu.getD p 0-ta.getD p 0:=⟨_,rfl⟩
 rw [<- hdr] at ec
 have dl:dr.length=n:=by rw [hdr]; simp
 have db:∀ x∈dr,-1000000000<=x/\x<=1000000000:=fun x hx=>by
  rw [hdr] at hx
  obtain ⟨p,hp,rfl⟩:=List.mem_map.mp hx
  have hp:p<n:=List.mem_range.mp hp
  have a1:=memD (P:=fun z=>0<=z/\z<=1000000000) htn (i:=p) (by omega)
  have a2:=memD (P:=fun z=>0<=z/\z<=1000000000) hpn (i:=p) (by omega)
  omega
 obtain ⟨_,k2,ps,rfl,hp36,hps⟩:=pairs_ok h6 dl db
 exists k1
 rw [ec]
 rotate_left
 ·intro p hp
  have hp:p<n:=by simpa using hp
  refine ⟨_,rfl,?_⟩
  exists rp18
 exists rp18
 rw [k2]
 exists rp18
 refine po_fors (fun i ρ=>∃ a7,ρ = [.par (.int c),.par (.int (n:Int)),.own (xs.map W.int),.val (.int v),.val (tI ta),.val (tI pu),.own (rs.map tI),a7]) ⟨_,rfl⟩ ?_ ?_
 ·rintro i u ρ hu ⟨a7,rfl⟩
  obtain ⟨w,hw,rfl⟩:=lI_at hu
  obtain ⟨hw1,hw2⟩:=hps w hw
  have hk:Ker n [((ta,pu):Mv)] (ent w):=fun m hm=>by
   rw [List.mem_singleton.mp hm,<- hw2,hdr]
   refine sumN_congr fun p hp=>?_
   show _*stp (ta,pu) p=_*(vec n fun p=>pu.getD p 0-ta.getD p 0).getD p 0
   rw [vec_getD hp]; rfl
  obtain ⟨ts,k3,k4⟩:=sumsh_ok h6 hr6 hE hG hM hb hw1 (by omega) hk
  refine ⟨_,rfl,?_⟩
  exists k3,k4
  exact ⟨_,rfl⟩
 ·rintro ρ ⟨a7,rfl⟩
  exists rp18
theorem at9 {i:Int} (h0:0<=i) (h:i<2):∃ v:Int,L2.atI [W.int 9,W.int 1000000000000] i=some (.int v)/\9<=v/\v<=1000000000000:=by
 have:i=0\/i=1:=by omega
 rcases this with rfl | rfl
 ·exact ⟨9,rfl,by omega,by omega⟩
 ·exact ⟨1000000000000,rfl,by omega,by omega⟩
theorem paired_T {n:Nat} {α:Type} {P:Mv->Prop}:∀ {as:List α} {zs:List Mv},Paired (fun _ m=>P m) as zs->∀ z∈zs,P z
 | _,_,.nil=>by simp
 | _,_,.cons a r=>fun z hz=>by
  rcases List.mem_cons.mp hz with e | e
  ·subst e; exact a
  ·exact paired_T (n:=n) r z e
theorem sumN_split (f:Nat->Int) (k:Nat):∀ m:Nat,sumN (k+m) f=sumN k f+sumN m fun q=>f (k+q)
 | 0=>by show _=_+0; rw [Int.add_zero]; rfl
 | m+1=>by
  show sumN (k+m) f+f (k+m)=sumN k f+(sumN m (fun q=>f (k+q))+f (k+m))
  rw [sumN_split f k m]; omega
def loW (n cut:Nat) (ws:List Int):List Int:=vec n fun p=>if p<cut then ws.getD p 0 else 0
def hiW (n cut:Nat) (ws:List Int):List Int:=vec n fun p=>if p<cut then 0 else ws.getD p 0
theorem lo_ker {n:Nat} {gs:List G} {ws:List Int} {g0:G} {m:Mv} {cut:Nat} (h0:g0.1=0) (hc:g0.2.1=(cut:Int)) (hcn:cut<=n) (hg:g0∈gs) (hm:∀ g∈gs,grS g ws m.1 m.2=0):dt n (ent (loW n cut ws)) (stp m)=0:=by
 have e:=hm g0 hg
 unfold grS at e
 rw [h0,hc,show ((cut:Int)-0).toNat=cut by omega] at e
 unfold dt
 obtain ⟨d,rfl⟩:∃ d,n=cut+d:=⟨n-cut,by omega⟩
 rw [sumN_split,sumN_zero (n:=d) fun k hk=>by
  have:ent (loW (cut+d) cut ws) (cut+k)=0:=by
   show (vec (cut+d) fun p=>if p<cut then ws.getD p 0 else 0).getD (cut+k) 0=0
   rw [vec_getD (by omega),if_neg (by omega)]
  rw [this,Int.zero_mul],Int.add_zero,<- e]
 refine sumN_congr fun k hk=>?_
 have:ent (loW (cut+d) cut ws) k=ws.getD k 0:=by
  show (vec (cut+d) fun p=>if p<cut then ws.getD p 0 else 0).getD k 0=_
  rw [vec_getD (by omega),if_pos hk]
 rw [this,show (0+(k:Int)).toNat=k by omega]; rfl
theorem hi_ker {n:Nat} {gs:List G} {ws:List Int} {g1:G} {m:Mv} {cut:Nat} (h0:g1.1=(cut:Int)) (hc:g1.2.1=(n:Int)) (hcn:cut<=n) (hg:g1∈gs) (hm:∀ g∈gs,grS g ws m.1 m.2=0):dt n (ent (hiW n cut ws)) (stp m)=0:=by
 have e:=hm g1 hg
 unfold grS at e
 rw [h0,hc,show ((n:Int)-(cut:Int)).toNat=n-cut by omega] at e
 unfold dt
 obtain ⟨d,rfl⟩:∃ d,n=cut+d:=⟨n-cut,by omega⟩
 rw [show cut+d-cut=d by omega] at e
 rw [sumN_split,sumN_zero (n:=cut) fun k hk=>by
  have:ent (hiW (cut+d) cut ws) k=0:=by
   show (vec (cut+d) fun p=>if p<cut then 0 else ws.getD p 0).getD k 0=0
   rw [vec_getD (by omega),if_pos hk]
  rw [this,Int.zero_mul],Int.zero_add,<- e]
 refine sumN_congr fun k hk=>?_
 have:ent (hiW (cut+d) cut ws) (cut+k)=ws.getD (cut+k) 0:=by
  show (vec (cut+d) fun p=>if p<cut then 0 else ws.getD p 0).getD (cut+k) 0=_
  rw [vec_getD (by omega),if_neg (by omega)]
 rw [this,show ((cut:Int)+(k:Int)).toNat=cut+k by omega]; rfl
theorem law_pure (ns:List Int) (h:ns.length<=63) (_:∀ x∈ns,Builtin.Int.intBits x<=1048576):f_law [.scr (ns.map W.int)]=.ok (.bl true):=by
 have fin:Ok (f_law [.scr (ns.map W.int)]) fun v=>v=.bl true:=by
  obtain ⟨_,e0,c0,rfl⟩:=cell_ok (ns:=ns) (k:=0) (by omega)
  obtain ⟨_,e1,c1,rfl⟩:=cell_ok (ns:=ns) (k:=1) (by omega)
  obtain ⟨_,e2,c2,rfl⟩:=cell_ok (ns:=ns) (k:=2) (by omega)
  obtain ⟨_,e20,c20,rfl⟩:=cell_ok (ns:=ns) (k:=20) (by omega)
  obtain ⟨n,hn⟩:∃ n:Nat,1+c0%6=(n:Int):=⟨(1+c0%6).toNat,by omega⟩
  have h1:1<=n:=by omega
  have h6:n<=6:=by omega
  obtain ⟨_,e4,gs,rfl,hgs,hgp,g0,hg0,hgx⟩:=groups_ok (c:=c1) h1 h6
  obtain ⟨_,e5,ws,rfl,hwl,hwn,hwh⟩:=weights_ok (c:=c2) h1 h6 hgs
  exists rpB,m_law,e0,hn,e1,e4,e2,e5
  refine ok_end (po_sets ?_)
  refine ok_bindL (okL_1 (ok_compf mW (fun _ m=>okT9 n m/\∀ g∈gs,grS g ws m.1 m.2=0) (by rw [List.length_range]; omega) ?_ ?_))
  ·intro k hk
   have hk:k<((c0/6+2)%9).toNat:=List.mem_range.mp hk
   obtain ⟨_,e6,c5,rfl⟩:=cell_ok (ns:=ns) (k:=3+(k:Int)) (by omega)
   obtain ⟨_,e7,m,rfl,q⟩:=move_ok (c:=c5) (t:=(k:Int)) (gs:=gs) h1 h6 (by omega) (by omega) hwl hwn hwh hgs hgp
   refine ⟨_,rfl,?_⟩
   exists rp18
   rw [e6,Rcons_ok,R.ok_bind,e7]
   exact ⟨_,rfl,m,rfl,q⟩
  intro ms hpm
  have hms:=paired_T (n:=n) (P:=fun m=>okT9 n m/\∀ g∈gs,grS g ws m.1 m.2=0) hpm
  have hml:=Paired.length hpm
  rw [List.length_range] at hml
  have hmB:∀ m∈ms,okB n m:=fun m hm=>(hms m hm).1.B
  refine ⟨tM_ ms,by rw [fTup_l,chkT_t],?_⟩
  obtain ⟨_,k1,rs,q,rfl,hr6,hE,hb,hM,hG⟩:=balances_ok (ms:=ms) h6 (by omega) hmB
  obtain ⟨cut,hcut,hcn,hkl,hkh⟩:∃ cut:Nat,g0.2.1=(cut:Int)/\cut<=n/\Ker n ms (ent (loW n cut ws))/\Ker n ms (ent (hiW n cut ws)):=by
   have hg0m:g0∈gs:=by rcases hgx with ⟨e,_⟩ | ⟨g1,e,_⟩ <;> rw [e] <;> simp
   obtain ⟨q0,q1,q2,q3⟩:=hgs g0 hg0m
   obtain ⟨cut,hc⟩:∃ cut:Nat,g0.2.1=(cut:Int):=⟨g0.2.1.toNat,by omega⟩
   refine ⟨cut,hc,by omega,fun m hm=>lo_ker hg0 hc (by omega) hg0m (hms m hm).2,fun m hm=>?_⟩
   rcases hgx with ⟨e,z⟩ | ⟨g1,e,z1,z2⟩
   ·have:∀ p,p<n->ent (hiW n cut ws) p=0:=fun p hp=>by
     show (vec n fun p=>if p<cut then 0 else ws.getD p 0).getD p 0=0
     rw [vec_getD hp,if_pos (by omega)]
    exact sumN_zero fun p hp=>by rw [this p hp,Int.zero_mul]
   ·exact hi_ker (by rw [z1,hc]) z2 (by omega) (by rw [e]; simp) (hms m hm).2
  have ag:L2.atI (gs.map gW) 0=some (gW g0):=by
   rcases hgx with ⟨e,_⟩ | ⟨g1,e,_⟩ <;> rw [e] <;> exact atW_of (k:=0) rfl
  have ag2:L2.atI [W.int g0.1,.int g0.2.1,.int g0.2.2] 1=some (.int (cut:Int)):=by rw [hcut]; rfl
  have wb:∀ p,p<n->-200<=ws.getD p 0/\ws.getD p 0<=200:=fun p hp=>memD (P:=bv 200) hwn (by omega)
  have loA:∀ p,p<n->(loW n cut ws).getD p 0=if p<cut then ws.getD p 0 else 0:=fun p hp=>vec_getD hp
  have hiA:∀ p,p<n->(hiW n cut ws).getD p 0=if p<cut then 0 else ws.getD p 0:=fun p hp=>vec_getD hp
  have loL:(loW n cut ws).length=n:=by simp [loW]
  have hiL:(hiW n cut ws).length=n:=by simp [hiW]
  have loB:∀ p,p<n->-200<=(loW n cut ws).getD p 0/\(loW n cut ws).getD p 0<=200:=fun p hp=>by
   rw [loA p hp]
   have:=wb p hp
   split <;> omega
  have hiB:∀ p,p<n->-200<=(hiW n cut ws).getD p 0/\(hiW n cut ws).getD p 0<=200:=fun p hp=>by
   rw [hiA p hp]
   have:=wb p hp
   split <;> omega
  have p8:(200:Nat)<=2^8:=by decide
  have loR:Rb n 8 (loW n cut ws):=⟨loL,fun p hp=>by have:=loB p hp; show ((loW n cut ws).getD p 0).natAbs<=_; omega⟩
  have hiR:Rb n 8 (hiW n cut ws):=⟨hiL,fun p hp=>by have:=hiB p hp; show ((hiW n cut ws).getD p 0).natAbs<=_; omega⟩
  have fr:=cut_fr (xs:=ws) (n:=cut) (by omega)
  have ez:∀ N mg me ρ (h:∀ y∈cutI ws (some (cut:Int)) none,∃ ρ1,mg (.int y) (ρ++List.replicate (N-ρ.length) Sl.un)=some ρ1/\me ρ1=.ok (.int 0)),mComp N mg yes me ((cutI ws (some (cut:Int)) none).map W.int) ρ=.ok (lI ((cutI ws (some (cut:Int)) none).map fun _=>0)):=fun N mg me ρ h=>by
   rw [mComp_all (fun _=>W.int 0) _ _ ρ (by rw [fr,List.length_drop]; omega) h,mapI]
  have cl:fCat true (.lst ((cutI ws none (some (cut:Int))).map W.int)) (lI ((cutI ws (some (cut:Int)) none).map fun _=>0))=.ok (lI (loW n cut ws)):=by
   rw [cut_to (xs:=ws) (n:=cut) (by omega),fr]
   have e:ws.take cut++((ws.drop cut).map fun _=>0)=loW n cut ws:=by
    refine List.ext_getElem (by simp [loW]; omega) fun p y1 y2=>?_
    have hp:p<n:=by rw [loL] at y2; exact y2
    have e2:(loW n cut ws)[p]=if p<cut then ws.getD p 0 else 0:=by simp [loW]
    rw [e2]
    by_cases z:p<cut
    ·rw [List.getElem_append_left (by rw [List.length_take]; omega),if_pos z,List.getElem_take,List.getD_eq_getElem?_getD,List.getElem?_eq_getElem (by omega)]; rfl
    ·rw [List.getElem_append_right (by rw [List.length_take]; omega),if_neg z]; simp
   rw [<- e]
   generalize hA:ws.take cut=A
   generalize hB:(ws.drop cut).map (fun _=>(0:Int))=B
   have lA:A.length<=6:=by rw [<- hA,List.length_take]; omega
   have lB:B.length<=6:=by rw [<- hB,List.length_map,List.length_drop]; omega
   rw [fCat_c (by rw [List.length_map,List.length_map]; omega),<- List.map_append]
   exact chks_I true _
  have eh:∀ N mg me ρ (h:∀ p∈List.range n,∃ ρ1,mg (.int (p:Nat)) (ρ++List.replicate (N-ρ.length) Sl.un)=some ρ1/\me ρ1=.ok (.int (if p<cut then 0 else ws.getD p 0))),mComp N mg yes me ((List.range n).map fun p=>W.int (p:Nat)) ρ=.ok (lI (hiW n cut ws)):=fun N mg me ρ h=>by
   rw [mComp_all (fun p=>W.int (if p<cut then 0 else ws.getD p 0)) _ _ ρ (by simp; omega) h,mapI]; rfl
  have hcl:(cutI ns (some 11) (some 20)).length<=63:=Nat.le_trans (cutI_len _ _ _) h
  obtain ⟨cs,hcs⟩:∃ cs,cs=1::c0::cutI ns (some 11) (some 20):=⟨_,rfl⟩
  have ecs:TP.chks false (W.int 1::W.int c0::(cutI ns (some 11) (some 20)).map W.int)=.ok (lI cs):=by rw [hcs]; exact chks_I false (1::c0::cutI ns (some 11) (some 20))
  exists k1,ag,ag2
  rw [ez]
  rotate_left
  ·intro y hy
   refine ⟨_,rfl,?_⟩
   exists rp18
  exists cl
  rw [eh]
  rotate_left
  ·intro p hp
   have hp:p<n:=by simpa using hp
   have a1:=loA p hp
   refine ⟨_,rfl,?_⟩
   exists a1
   by_cases z:p<cut
   ·rw [if_pos z,if_pos z,Int.sub_self]
   ·rw [if_neg z,if_neg z,Int.sub_zero]
  exists ecs
  refine po_fors (fun i ρ=>∃ (a11 a12 a13 a14 a15 a16:Sl),ρ = [.par (.scr (ns.map W.int)),.val (.int c0),.val (.int (n:Int)),.own (gs.map gW),.own (ws.map W.int),.val (.int ((c0/6+2)%9)),.val (tM_ ms),.own (rs.map tI),.val (.int (cut:Int)),.own ((loW n cut ws).map W.int),.own ((hiW n cut ws).map W.int),a11,a12,a13,a14,a15,a16]) ⟨_,_,_,_,_,_,rfl⟩ ?_ ?_
  ·rintro i u ρ hu ⟨a11,a12,a13,a14,a15,a16,rfl⟩
   obtain ⟨hi,rfl⟩:=map_at hu
   generalize cs.getD i 0=x
   obtain ⟨v,hv,hv0,hv1⟩:=at9 (i:=x%2) (by omega) (by omega)
   have z0:=Int.emod_nonneg (x/2) (show 2*v+1≠0 by omega)
   have z1:=Int.emod_lt_of_pos (x/2) (show 0<2*v+1 by omega)
   obtain ⟨o,ho⟩:∃ o,o=x/2%(2*v+1)-v:=⟨_,rfl⟩
   have ob:-1000000000000<=o/\o<=1000000000000:=by omega
   have m2:=mulN (i:=2) (j:=v) (by omega) (by omega)
   refine ⟨_,rfl,?_⟩
   exists hv,m2
   rw [<- ho]
   obtain ⟨tw,htw⟩:∃ tw,tw=x/7%19-9:=⟨_,rfl⟩
   have tb:-9<=tw/\tw<=9:=by omega
   rw [<- htw]
   obtain ⟨f,hf⟩:∃ f:Nat->Int,f=fun p=>o*(loW n cut ws).getD p 0+tw*(hiW n cut ws).getD p 0:=⟨_,rfl⟩
   have em:∀ N mg me ρ (h:∀ p∈List.range n,∃ ρ1,mg (.int (p:Nat)) (ρ++List.replicate (N-ρ.length) Sl.un)=some ρ1/\me ρ1=.ok (.int (f p))),mComp N mg yes me ((List.range n).map fun p=>W.int (p:Nat)) ρ=.ok (lI (vec n f)):=fun N mg me ρ h=>by
    rw [mComp_all (fun p=>W.int (f p)) _ _ ρ (by simp; omega) h,mapI]
   rw [em]
   rotate_left
   ·intro p hp
    have hp:p<n:=by simpa using hp
    have b1:=loB p hp
    have b2:=hiB p hp
    have y1:=mulN (i:=o) (j:=(loW n cut ws).getD p 0) (by omega) (by omega)
    have y2:=mulN (i:=tw) (j:=(hiW n cut ws).getD p 0) (by omega) (by omega)
    refine ⟨_,rfl,?_⟩
    exists y1,y2
    rw [hf]
   have fA:∀ p,p<n->(vec n f).getD p 0=f p:=fun p hp=>vec_getD hp
   have fL:(vec n f).length=n:=by simp
   have fb:∀ p,p<n->(f p).natAbs<=300000000000000:=fun p hp=>by
    have b1:=loB p hp
    have b2:=hiB p hp
    have c1:(o*(loW n cut ws).getD p 0).natAbs<=1000000000000*200:=by
     rw [Int.natAbs_mul]; exact Nat.mul_le_mul (by omega) (by omega)
    have c2:(tw*(hiW n cut ws).getD p 0).natAbs<=9*200:=by
     rw [Int.natAbs_mul]; exact Nat.mul_le_mul (by omega) (by omega)
    rw [hf]
    show (o*(loW n cut ws).getD p 0+tw*(hiW n cut ws).getD p 0).natAbs<=_
    omega
   have p60:300000000000001<=2^60:=by decide
   have mR:Rb n 60 (vec n f):=⟨fL,fun p hp=>by
    show ((vec n f).getD p 0).natAbs<=_
    rw [fA p hp]
    have:=fb p hp
    omega⟩
   have mK:Ker n ms (ent (vec n f)):=fun m hm=>by
    have e:=dt_lin n (ent (loW n cut ws)) (ent (hiW n cut ws)) (stp m) o tw
    rw [hkl m hm,hkh m hm,Int.mul_zero,Int.mul_zero] at e
    have e2:dt n (ent (vec n f)) (stp m)=dt n (fun p=>o*ent (loW n cut ws) p+tw*ent (hiW n cut ws) p) (stp m):=sumN_congr fun p hp=>by
     show (vec n f).getD p 0*_=_
     rw [fA p hp,hf]; rfl
    rw [e2,e]; rfl
   obtain ⟨ts,k3,k4⟩:=sumsh_ok h6 hr6 hE hG hM hb mR (by omega) mK
   have y0:=Int.emod_nonneg (x/3) (show (n:Int)≠0 by omega)
   have y1:=Int.emod_lt_of_pos (x/3) (show 0<(n:Int) by omega)
   obtain ⟨z,hz⟩:∃ z,z=x/3%(n:Int):=⟨_,rfl⟩
   have eo:∀ N mg me ρ (h:∀ p∈List.range n,∃ ρ1,mg (.int (p:Nat)) (ρ++List.replicate (N-ρ.length) Sl.un)=some ρ1/\me ρ1=.ok (.int (f p+if (p:Int)=z then 1 else 0))),mComp N mg yes me ((List.range n).map fun p=>W.int (p:Nat)) ρ=.ok (lI (vec n fun p=>f p+if (p:Int)=z then 1 else 0)):=fun N mg me ρ h=>by
    rw [mComp_all (fun p=>W.int (f p+if (p:Int)=z then 1 else 0)) _ _ ρ (by simp; omega) h,mapI]
   have oR:Rb n 60 (vec n fun p=>f p+if (p:Int)=z then 1 else 0):=⟨by simp,fun p hp=>by
    show ((vec n fun p=>f p+if (p:Int)=z then 1 else 0).getD p 0).natAbs<=_
    rw [vec_getD hp]
    have:=fb p hp
    split <;> omega⟩
   have k5:=asked_ok (ms:=ms) h6 hmB hr6 hE hG hM hb oR (by omega)
   generalize hV:vec n f=V at *
   generalize hO:(vec n fun p=>f p+if (p:Int)=z then 1 else 0)=O at *
   exists rp18
   rw [eo]
   rotate_left
   ·intro p hp
    have hp:p<n:=by simpa using hp
    have a1:=fA p hp
    refine ⟨_,rfl,?_⟩
    exists a1
    rw [hz]
    done
   exists k3,k4,k5
   exact ⟨_,_,_,_,_,_,rfl⟩
  ·rintro ρ ⟨a11,a12,a13,a14,a15,a16,rfl⟩
   have q1:=asked_ok (ms:=ms) h6 hmB hr6 hE hG hM hb loR (by omega)
   have q2:=asked_ok (ms:=ms) h6 hmB hr6 hE hG hM hb hiR (by omega)
   obtain ⟨_,q3,rfl⟩:=alone_ok (c:=c20) h1 h6
   exists q1,q2,e20
   rw [q3]
   exists rp18
 obtain ⟨v,e,rfl⟩:=fin
 exact e
end K56
set_option maxHeartbeats 4000000
open PySem L2 TP
namespace K56
def xAdd {K:Frag} {d:Mode}:=(o2_I0 (K:=K) (d:=d) (g:=gAdd) (fun _ _=>rfl) (fun _ _ _=>.int))
def xSub {K:Frag} {d:Mode}:=(o2_I0 (K:=K) (d:=d) (g:=gSub) (fun _ _=>rfl) (fun _ _ _=>.int))
def xLt {K:Frag} {d:Mode}:=(o2_I0 (K:=K) (d:=d) (g:=gLt) (fun _ _=>rfl) (fun _ _ _=>.bl))
def xGt {K:Frag} {d:Mode}:=(o2_I0 (K:=K) (d:=d) (g:=gGt) (fun _ _=>rfl) (fun _ _ _=>.bl))
local macro_rules | `(tactic| trivial)=>`(tactic| first | exact Or.inl rfl | exact Or.inr rfl | exact Or.inr (Or.inl rfl) | exact Or.inr (Or.inr rfl) | assumption | exact ⟨rfl,rfl,rfl,by decide +kernel,rfl,by decide +kernel,by decide +kernel⟩ | exact ⟨rfl,by decide +kernel,by decide +kernel,by decide +kernel,by decide +kernel,by decide,by decide +kernel,by decide +kernel⟩)
def top (i:Nat):Stmt:=PySem.Challenge.pw_tokenmoor_k56_whole_each_balance_is_a_su.main.body.getD i (.Pass ⟨0,0,0,0⟩)
abbrev hxS (s:String) (t:Nat):Value:=.str (Str.ofString s) t
abbrev hxI (i:Int):Value:=.int i 0
abbrev hxO (c:String) (d:Data):Obj:=⟨.type c,none,d,#[]⟩
abbrev hxE (P:Params) (s:String) (t:Nat) (v:Value):DictEntry:=⟨PyData.keyHash P (Str.ofString s),.str (Str.ofString s) t,v⟩
abbrev hxF (n q:String) (st:Stmt) (dV kV doc pm:Value) (an:Option Addr) (cd ct:Value):Data:=.func (PySem.W.fnOf (Str.ofString n) (Str.ofString q) (defArgs st) (defBody st) (defScope st) dV kV doc pm an cd ct)
abbrev hxG (n:String) (i:Nat) (pm:Value) (c:Nat):Obj:=hxO "function" (hxF n n (top i) .none .none .none pm none (.ref c) .none)
abbrev hxD (n:String) (t:Nat) (l a:Int) (r8:Nat) (r11:Nat) (v13 v14:Value) (r15:Nat) (x16:Int) (t18:Nat):Data:=.fields #[.str (Str.ofString n) t,.str (Str.ofString n) (t+1),.str (Str.ofString "/claim/cut.py") (t+2),hxI l,hxI a,hxI 0,hxI 0,hxI 3,.ref r8,.bool true,hxI 181,.ref r11,.none,v13,v14,.ref r15,hxI x16,hxI l,.str (Str.ofString "/claim/cut.py") t18]
abbrev hxM0:Value:=hxS "law_tokenmoor_k56_whole_each_balance_is_a_su" 279
abbrev hxM1:Value:=hxS "tokenmoor.balances" 211
abbrev hxM2:Value:=hxS "tokenmoor.moors" 187
abbrev hxM3:Value:=hxS "tokenmoor.walks" 195
abbrev hxM4:Value:=hxS "tokenmoor.weights" 203
@[irreducible] def hxheap:Params->Frag:=fun P=>
 (nat_lit 2,⟨.none,none,(.dict #[] 0),#[]⟩) ::
 (nat_lit 3,hxO "dict" (.dict #[hxE P "__name__" 165 (hxS "law_tokenmoor_k56_whole_each_balance_is_a_su" 279),hxE P "__doc__" 166 .none,hxE P "__package__" 167 .none,hxE P "__loader__" 168 (.builtin "__main__.__loader__#opaque"),hxE P "__spec__" 169 .none,hxE P "__annotations__" 170 (.ref 6),hxE P "__builtins__" 171 (.ref 4),hxE P "__file__" 173 (hxS "/claim/cut.py" 172),hxE P "__cached__" 174 .none,hxE P "change" 194 (.ref 19),hxE P "shifted" 202 (.ref 24),hxE P "weigh" 210 (.ref 29),hxE P "balances" 218 (.ref 34),hxE P "unit" 224 (.ref 39),hxE P "neat" 230 (.ref 44),hxE P "gathered" 241 (.ref 51),hxE P "divided" 251 (.ref 58),hxE P "upright" 257 (.ref 63),hxE P "lowered" 266 (.ref 70),hxE P "shares" 272 (.ref 75),hxE P "lead_of" 278 (.ref 80),hxE P "_law_cell_at" 288 (.ref 87),hxE P "_law_stream" 300 (.ref 94),hxE P "_law_groups" 311 (.ref 101),hxE P "_law_weights" 317 (.ref 106),hxE P "_law_move" 323 (.ref 111),hxE P "_law_sums_up" 329 (.ref 116),hxE P "_law_keeps" 335 (.ref 121),hxE P "_law_asked" 345 (.ref 128),hxE P "_law_divisor" 353 (.ref 135),hxE P "_law_pairs" 359 (.ref 140),hxE P "_law_alone" 365 (.ref 145),hxE P "law" 371 (.ref 150)] 33)) ::
 (nat_lit 18,hxO "code" (hxD "change" 189 2 1 15 16 .none .none 17 192 193)) ::
 (nat_lit 19,hxG "change" 1 hxM2 18) ::
 (nat_lit 23,hxO "code" (hxD "shifted" 197 5 3 20 21 .none .none 22 200 201)) ::
 (nat_lit 24,hxG "shifted" 3 hxM3 23) ::
 (nat_lit 28,hxO "code" (hxD "weigh" 205 8 2 25 26 .none .none 27 208 209)) ::
 (nat_lit 29,hxG "weigh" 5 hxM4 28) ::
 (nat_lit 33,hxO "code" (hxD "balances" 213 11 2 30 31 .none .none 32 216 217)) ::
 (nat_lit 34,hxG "balances" 7 hxM1 33) ::
 (nat_lit 38,hxO "code" (hxD "unit" 219 18 2 35 36 .none .none 37 222 223)) ::
 (nat_lit 39,hxG "unit" 8 hxM1 38) ::
 (nat_lit 43,hxO "code" (hxD "neat" 225 20 1 40 41 .none .none 42 228 229)) ::
 (nat_lit 44,hxG "neat" 9 hxM1 43) ::
 (nat_lit 50,hxO "code" (hxD "gathered" 231 32 2 45 46 (.ref 47) (.ref 48) 49 239 240)) ::
 (nat_lit 51,hxG "gathered" 10 hxM1 50) ::
 (nat_lit 57,hxO "code" (hxD "divided" 242 38 3 52 53 (.ref 54) (.ref 55) 56 249 250)) ::
 (nat_lit 58,hxG "divided" 11 hxM1 57) ::
 (nat_lit 62,hxO "code" (hxD "upright" 252 44 2 59 60 .none .none 61 255 256)) ::
 (nat_lit 63,hxG "upright" 12 hxM1 62) ::
 (nat_lit 69,hxO "code" (hxD "lowered" 258 46 3 64 65 (.ref 66) (.ref 67) 68 264 265)) ::
 (nat_lit 70,hxG "lowered" 13 hxM1 69) ::
 (nat_lit 74,hxO "code" (hxD "shares" 267 48 2 71 72 .none .none 73 270 271)) ::
 (nat_lit 75,hxG "shares" 14 hxM1 74) ::
 (nat_lit 79,hxO "code" (hxD "lead_of" 273 58 1 76 77 .none .none 78 276 277)) ::
 (nat_lit 80,hxG "lead_of" 15 hxM1 79) ::
 (nat_lit 86,hxO "code" (hxD "_law_cell_at" 281 61 2 81 82 (.ref 83) (.ref 84) 85 286 287)) ::
 (nat_lit 87,hxG "_law_cell_at" 17 hxM0 86) ::
 (nat_lit 93,hxO "code" (hxD "_law_stream" 289 65 3 88 89 (.ref 90) (.ref 91) 92 298 299)) ::
 (nat_lit 94,hxG "_law_stream" 18 hxM0 93) ::
 (nat_lit 100,hxO "code" (hxD "_law_groups" 301 72 2 95 96 (.ref 97) (.ref 98) 99 309 310)) ::
 (nat_lit 101,hxG "_law_groups" 19 hxM0 100) ::
 (nat_lit 105,hxO "code" (hxD "_law_weights" 312 81 3 102 103 .none .none 104 315 316)) ::
 (nat_lit 106,hxG "_law_weights" 20 hxM0 105) ::
 (nat_lit 110,hxO "code" (hxD "_law_move" 318 88 4 107 108 .none .none 109 321 322)) ::
 (nat_lit 111,hxG "_law_move" 21 hxM0 110) ::
 (nat_lit 115,hxO "code" (hxD "_law_sums_up" 324 100 3 112 113 .none .none 114 327 328)) ::
 (nat_lit 116,hxG "_law_sums_up" 22 hxM0 115) ::
 (nat_lit 120,hxO "code" (hxD "_law_keeps" 330 107 2 117 118 .none .none 119 333 334)) ::
 (nat_lit 121,hxG "_law_keeps" 23 hxM0 120) ::
 (nat_lit 127,hxO "code" (hxD "_law_asked" 336 112 3 122 123 (.ref 124) (.ref 125) 126 343 344)) ::
 (nat_lit 128,hxG "_law_asked" 24 hxM0 127) ::
 (nat_lit 134,hxO "code" (hxD "_law_divisor" 346 117 2 129 130 (.ref 131) (.ref 132) 133 351 352)) ::
 (nat_lit 135,hxG "_law_divisor" 25 hxM0 134) ::
 (nat_lit 139,hxO "code" (hxD "_law_pairs" 354 121 1 136 137 .none .none 138 357 358)) ::
 (nat_lit 140,hxG "_law_pairs" 26 hxM0 139) ::
 (nat_lit 144,hxO "code" (hxD "_law_alone" 360 133 2 141 142 .none .none 143 363 364)) ::
 (nat_lit 145,hxG "_law_alone" 27 hxM0 144) ::
 (nat_lit 149,hxO "code" (hxD "law" 366 143 1 146 147 .none .none 148 369 370)) ::
 (nat_lit 150,hxG "law" 28 hxM0 149) ::
 []
abbrev hk (w:World):Frag:=hxheap w.params
structure Blt (mg:Str->Option Value):Prop where
 abs_:mg "abs" = none
 any_:mg "any" = none
 enumerate_:mg "enumerate" = none
 int_:mg "int" = none
 isinstance_:mg "isinstance" = none
 len_:mg "len" = none
 list_:mg "list" = none
 max_:mg "max" = none
 range_:mg "range" = none
 sum_:mg "sum" = none
 tuple_:mg "tuple" = none
 zip_:mg "zip" = none
def En (w:World) (mg:Str->Option Value):Prop:=∃ h:Heap,(hk w).In h/\h.Ns mainGlobals mg
theorem bn {w:World} {mg:Str->Option Value} (Y:En w mg) {x:Str} (e:PySem.W.nsIn (hk w) mainGlobals x=some none):mg x=none:=Y.elim fun _ q=>PySem.W.mg_none_of q.1 q.2 e
theorem bl {w:World} {mg:Str->Option Value} (Y:En w mg):Blt mg:=⟨bn Y (by kernel_rfl),bn Y (by kernel_rfl),bn Y (by kernel_rfl),bn Y (by kernel_rfl),bn Y (by kernel_rfl),bn Y (by kernel_rfl),bn Y (by kernel_rfl),bn Y (by kernel_rfl),bn Y (by kernel_rfl),bn Y (by kernel_rfl),bn Y (by kernel_rfl),bn Y (by kernel_rfl)⟩
abbrev FD (nm:String) (i:Nat) (pm:Value) (c:Nat):FuncData:=PySem.W.fnOf nm nm (defArgs (top i)) (defBody (top i)) (defScope (top i)) .none .none .none pm none (.ref c) .none
theorem dk {w:World} {mg:Str->Option Value} (Y:En w mg) {nm:String} {i c:Nat} {f:Addr} {pm:Value} {ps:List Str}
  (e:(PySem.W.nsIn (hk w) mainGlobals nm,(hk w).lookup f,PySem.W.codeIn (hk w) (.ref c) nm,PySem.W.keepIn (hk w) (.ref f))=(some (some (.ref f)),some (hxG nm i pm c),true,true))
  (hb:∀ (kV doc pm:Value) (an:Option Addr) (cdv ct:Value) (us:List Value),us.length=ps.length->bindArgs (PySem.W.fnOf nm nm (defArgs (top i)) (defBody (top i)) (defScope (top i)) .none kV doc pm an cdv ct) ⟨us,[]⟩=pure (ps.zip us)):Def (hk w) mg nm (top i) ps f (FD nm i pm c):=by
 obtain ⟨h,X,G⟩:=Y
 injection e with a e
 injection e with l e
 injection e with c k
 have F:=fun_mk (st:=top i) l c k
 exact ⟨F,PySem.W.mg_of X G a,F.binds hb⟩
theorem okF {P:Program} {w:World} {K:Frag} {mg:Str->Option Value} {base:Heap} {x:Str} {st:Stmt} {ps:List Str} {f:Addr} {fd:FuncData} (D:Def K mg x st ps f fd) {N:List Str} {k n l:Nat} {d:Mode} {m:Rho->R Fl} (S:FnScope N ps (defScope st)) (hd:d=.F\/d=.V) (hn:ps.length=n) (hl:N.length=l) (b:∀ {cdv:Value} {A:Around} {outer:List Env} {s:Shared} {H:Hp} {E:XK},Room k (A.deeper (PyProof.Rows.envOfC x (defScope st) s.heap.objs.size f cdv))->PSs (cxOf CX0 P w K mg base N x (defScope st) f cdv A outer s H E).nox (defBody st) (tSt K (fun _ _=>False) d m)):FnOk P w K mg base CX0 (k+1) f fd ps (spM K n d (runB n l m)):=by
 subst hn hl
 exact D.F.ok S (fun _ _ _ _ h=>h.1) fun cdv A outer s H vs Q E hr h=>⟨_,b hr,c_body hd h⟩
theorem qcD {X:Cx} {K:Frag} {d:Mode} {e:Expr} {es:List Expr} {pos:Pos} {mr:Rho->R (List W)} {k:Nat} {f:Addr} {fd:FuncData} {ps:List Str} {x:Str} {st:Stmt} {p:Pos} {n N:Nat} {m:Rho->R Fl} (F:FnOk X.prog X.w X.K X.mg X.base CX0 k f fd ps (spM K n d (runB n N m))) (D:Def X.K X.mg x st ps f fd)
  (ha:PA X (e::es) (tA K (fun _ _=>False) .B mr)) (hd:d=.F\/d=.V:=by first | exact .inl rfl | exact .inr rfl) (hr:Room k X.A:=by exact Room.mono (by assumption) (by decide)) (hg:Gl X x:=by rfl) (hdb:(x == ("__debug__" : Str))=false:=by decide) (he:starEach (e::es) X.env=(false,eval e X.env)::starEach es X.env:=by rfl) (hpl:(backTo pos (starEach es X.env)).any (·.1)=false:=by rfl) :
  PE X (.Call (.Name x p) (e::es) [] pos) (tM K (fun _ _=>False) d (bA (runB n N m) mr)):=q_call F hd hr hg D.m D.F.kp D.b ha hdb he hpl
theorem q_compn {X:Cx} {K:Frag} {EX:EXT} {cs:Scope} {N':List Str} {n:Nat} {tg iter elt:Expr} {ifs:List Expr} {dd:Mode} {g:TG} {mg:W->Rho->Option Rho} {mi:Rho->R (List W)} {ta:Rho->R Bool} {ma:Rho->R W} {pos:Pos} (S:CompScope X.env.scope cs X.N N') (hc:X.calm=true) (hi:PI X tg iter (tIt K EX false dd mi))
  (hg:∀ cl ex s H,PG (cxComp X cs cl N' ex s H) tg g) (hgt:Gt K dd g mg) (hk:GKeep X.N.length g) (ht:∀ cl ex s H,PIf (cxComp X cs cl N' ex s H) ifs (tT K EX ta)) (he:∀ cl ex s H,PE (cxComp X cs cl N' ex s H) elt (tM K EX .V ma))
  (hn:N'.length=n:=by rfl) (hs:∀ x,foldedSetIterable iter X.env x=pure x:=by intro _; rfl):PE X (.ListComp elt [⟨tg,iter,ifs,0⟩] cs pos) (tM K EX .F (vComp n mi mg ta ma)):=by
 subst hn; exact q_comp S hc hi hg hgt hk ht he hs
theorem q_setcn {X:Cx} {K:Frag} {EX:EXT} {d:Mode} {i n:Nat} {y:Str} {py:Pos} {cs:Scope} {N':List Str} {tg iter elt:Expr} {ifs:List Expr} {dd:Mode} {g:TG} {mg:W->Rho->Option Rho} {mi:Rho->R (List W)} {ta:Rho->R Bool} {ma:Rho->R W} {cpos pos:Pos} (S:CompScope X.env.scope cs X.N N') (hc:X.calm=true) (hi:PI X tg iter (tIt K EX false dd mi))
  (hg:∀ cl ex s H,PG (cxComp X cs cl N' ex s H) tg g) (hgt:Gt K dd g mg) (hk:GKeep X.N.length g) (ht:∀ cl ex s H,PIf (cxComp X cs cl N' ex s H) ifs (tT K EX ta)) (he:∀ cl ex s H,PE (cxComp X cs cl N' ex s H) elt (tM K EX .V ma))
  (hN:X.N.Nodup) (hy:X.N[i]?=some y) (hl:Loc X.env.scope y)
  (hn:N'.length=n:=by rfl) (hsw:swapsWith (.ListComp elt [⟨tg,iter,ifs,0⟩] cs cpos) (some (.Name y py)) pos.line X.env=pure true:=by rfl) (hf:X.fn y=true\/X.env.scope.names.lookup y=some .local:=by first | exact .inl rfl | exact .inr rfl | assumption)
  (hs:∀ x,foldedSetIterable iter X.env x=pure x:=by intro _; rfl):PS X (.Assign [.Name y py] (.ListComp elt [⟨tg,iter,ifs,0⟩] cs cpos) pos) (tSt K EX d (sF i (vComp n mi mg ta ma))):=by
 subst hn; exact q_setc S hc hi hg hgt hk ht he hN hy hl hsw hf hs
theorem us0 {P:List Value->Prop} (h:P []):∀ us:List Value,us.length=0->P us:=fun us e=>by
 rw [List.length_eq_zero_iff.mp e]; exact h
theorem us1 {P:List Value->Prop} (h:∀ a0,P [a0]):∀ us:List Value,us.length=1->P us:=fun us e=>by
 cases us with
 | nil=>cases e
 | cons a us=>exact us0 (P:=fun us=>P (a::us)) (h a) us (Nat.succ.inj e)
theorem us2 {P:List Value->Prop} (h:∀ a0 a1,P [a0,a1]):∀ us:List Value,us.length=2->P us:=fun us e=>by
 cases us with
 | nil=>cases e
 | cons a us=>exact us1 (P:=fun us=>P (a::us)) (fun a1=>h a a1) us (Nat.succ.inj e)
theorem us3 {P:List Value->Prop} (h:∀ a0 a1 a2,P [a0,a1,a2]):∀ us:List Value,us.length=3->P us:=fun us e=>by
 cases us with
 | nil=>cases e
 | cons a us=>exact us2 (P:=fun us=>P (a::us)) (fun a1 a2=>h a a1 a2) us (Nat.succ.inj e)
theorem us4 {P:List Value->Prop} (h:∀ a0 a1 a2 a3,P [a0,a1,a2,a3]):∀ us:List Value,us.length=4->P us:=fun us e=>by
 cases us with
 | nil=>cases e
 | cons a us=>exact us3 (P:=fun us=>P (a::us)) (fun a1 a2 a3=>h a a1 a2 a3) us (Nat.succ.inj e)
theorem scchange:FnScope ["move"] ["move"] (defScope (top 1)):=by trivial
theorem scshifted:FnScope ["stand", "step", "times"] ["stand", "step", "times"] (defScope (top 3)):=by trivial
theorem scweigh:FnScope ["weights", "counts"] ["weights", "counts"] (defScope (top 5)):=by trivial
theorem scunit:FnScope ["place", "many"] ["place", "many"] (defScope (top 8)):=by trivial
theorem sclowered:FnScope ["row", "lead", "column"] ["row", "lead", "column"] (defScope (top 13)):=by trivial
theorem scdivided:FnScope ["row", "other", "column", "rest"] ["row", "other", "column"] (defScope (top 11)):=by trivial
theorem scgathered:FnScope ["rows", "column", "kept", "row", "pair"] ["rows", "column"] (defScope (top 10)):=by trivial
theorem scupright:FnScope ["row", "column"] ["row", "column"] (defScope (top 12)):=by trivial
theorem scneat:FnScope ["rows", "found", "left", "column", "lead"] ["rows"] (defScope (top 9)):=by trivial
theorem scbalances:FnScope ["moves", "many", "found", "move", "step", "weighed"] ["moves", "many"] (defScope (top 7)):=by trivial
theorem sclead_of:FnScope ["row"] ["row"] (defScope (top 15)):=by trivial
theorem scshares:FnScope ["basis", "weights", "times", "rest", "row", "column"] ["basis", "weights"] (defScope (top 14)):=by trivial
theorem sc_law_cell_at:FnScope ["_law_script", "_law_k"] ["_law_script", "_law_k"] (defScope (top 17)):=by trivial
theorem sc_law_stream:FnScope ["_law_cell", "_law_turn", "_law_many", "_law_found", "_law_number", "_law_k"] ["_law_cell", "_law_turn", "_law_many"] (defScope (top 18)):=by trivial
theorem sc_law_groups:FnScope ["_law_cell", "_law_many", "_law_xs", "_law_cut", "_law_groups_here"] ["_law_cell", "_law_many"] (defScope (top 19)):=by trivial
theorem sc_law_weights:FnScope ["_law_cell", "_law_many", "_law_groups_here", "_law_xs", "_law_wide", "_law_weights_here", "_law_low", "_law_high", "_law_head"] ["_law_cell", "_law_many", "_law_groups_here"] (defScope (top 20)):=by trivial
theorem sc_law_move:FnScope ["_law_cell", "_law_turn", "_law_weights_here", "_law_groups_here", "_law_many", "_law_xs", "_law_top", "_law_take", "_law_put", "_law_low", "_law_high", "_law_head", "_law_drift", "_law_base"] ["_law_cell", "_law_turn", "_law_weights_here", "_law_groups_here"] (defScope (top 21)):=by trivial
theorem sc_law_sums_up:FnScope ["_law_basis", "_law_times", "_law_weights_here", "_law_p"] ["_law_basis", "_law_times", "_law_weights_here"] (defScope (top 22)):=by trivial
theorem sc_law_keeps:FnScope ["_law_moves", "_law_weights_here", "_law_take", "_law_put"] ["_law_moves", "_law_weights_here"] (defScope (top 23)):=by trivial
theorem sc_law_asked:FnScope ["_law_basis", "_law_moves", "_law_weights_here", "_law_found"] ["_law_basis", "_law_moves", "_law_weights_here"] (defScope (top 24)):=by trivial
theorem sc_law_divisor:FnScope ["_law_one", "_law_other"] ["_law_one", "_law_other"] (defScope (top 25)):=by trivial
theorem sc_law_pairs:FnScope ["_law_drift", "_law_found", "_law_many", "_law_q", "_law_p", "_law_share", "_law_weights_here"] ["_law_drift"] (defScope (top 26)):=by trivial
theorem sc_law_alone:FnScope ["_law_cell", "_law_many", "_law_xs", "_law_top", "_law_take", "_law_put", "_law_basis", "_law_weights_here"] ["_law_cell", "_law_many"] (defScope (top 27)):=by trivial
theorem sclaw:FnScope ["_law_script", "_law_first", "_law_many", "_law_groups_here", "_law_weights_here", "_law_count", "_law_moves", "_law_basis", "_law_cut", "_law_low", "_law_high", "_law_cell", "_law_wide", "_law_one", "_law_two", "_law_mixed", "_law_other"] ["_law_script"] (defScope (top 28)):=by trivial
section
variable {P:Program} {w:World} {mg:Str->Option Value} {base:Heap} (Y:En w mg)
include Y
theorem dchange:Def (hk w) mg "change" (top 1) ["move"] 19 (FD "change" 1 hxM2 18):=dk Y (by kernel_rfl) fun _ _ _ _ _ _=>us1 fun _=>rfl
theorem okchange:FnOk P w (hk w) mg base CX0 1 19 (FD "change" 1 hxM2 18) ["move"] (spM (hk w) 1 .F f_change):=
 okF (dchange Y) scchange (.inl rfl) rfl rfl fun hr=>(q_last (q_ret (q_ct K_tup (b_tup (c:=true)) (by rfl) (bl Y).tuple_ bt_tuple (q_acons (q_FC (q_compn (show CompScope (defScope (top 1)) _ ["move"] ["move", "take", "put"] from by trivial) rfl (q_zipB (by rfl) (bl Y).zip_ (q_acons (q_UB (q_ixU (qv .B 0) q_int)) (q_acons (q_UB (q_ixU (qv .B 0) q_int)) q_anil))) (fun _ _ _ _=>(@pg_tupK _ (hk w) _ _ _ _ 2 rfl (pgs_cons (@pg_name _ _ 1 _ (by decide +kernel:(["move", "take", "put"]:List Str).Nodup) rfl (Or.inl rfl) (.inr rfl)) (pgs_cons (@pg_name _ _ 2 _ (by decide +kernel:(["move", "take", "put"]:List Str).Nodup) rfl (Or.inl rfl) (.inr rfl)) pgs_nil)) (by rfl) (by rfl) (by rfl))) (gt_tup (.inr rfl) (gts_cons (.inr rfl) gt_U (gts_cons (.inr rfl) gt_U gts_nil))) (gk_tup (gk_cons (show 1<=1 by decide) (gk_cons (show 1<=2 by decide) gk_nil))) (fun _ _ _ _=>q_pifN) (fun _ _ _ _=>(q_op op_sub xSub (qv .B 2) (qv .B 1))))) q_anil))))
theorem dshifted:Def (hk w) mg "shifted" (top 3) ["stand", "step", "times"] 24 (FD "shifted" 3 hxM3 23):=dk Y (by kernel_rfl) fun _ _ _ _ _ _=>us3 fun _ _ _=>rfl
theorem okshifted:FnOk P w (hk w) mg base CX0 1 24 (FD "shifted" 3 hxM3 23) ["stand", "step", "times"] (spM (hk w) 3 .F f_shifted):=
 okF (dshifted Y) scshifted (.inl rfl) rfl rfl fun hr=>(q_last (q_ret (q_ct K_tup (b_tup (c:=true)) (by rfl) (bl Y).tuple_ bt_tuple (q_acons (q_FC (q_compn (show CompScope (defScope (top 3)) _ ["stand", "step", "times"] ["stand", "step", "times", "number", "by"] from by trivial) rfl (q_zipB (by rfl) (bl Y).zip_ (q_acons (qv .B 0) (q_acons (qv .B 1) q_anil))) (fun _ _ _ _=>(@pg_tupK _ (hk w) _ _ _ _ 2 rfl (pgs_cons (@pg_name _ _ 3 _ (by decide +kernel:(["stand", "step", "times", "number", "by"]:List Str).Nodup) rfl (Or.inl rfl) (.inr rfl)) (pgs_cons (@pg_name _ _ 4 _ (by decide +kernel:(["stand", "step", "times", "number", "by"]:List Str).Nodup) rfl (Or.inl rfl) (.inr rfl)) pgs_nil)) (by rfl) (by rfl) (by rfl))) (gt_tup (.inr rfl) (gts_cons (.inr rfl) gt_U (gts_cons (.inr rfl) gt_U gts_nil))) (gk_tup (gk_cons (show 3<=3 by decide) (gk_cons (show 3<=4 by decide) gk_nil))) (fun _ _ _ _=>q_pifN) (fun _ _ _ _=>(q_op op_add xAdd (qv .B 3) (q_op op_mulB (o2_I (C:=CMulB) (g:=gMul) (fun _ _=>rfl) (fun _ _ _=>.int)) (qv .B 2) (qv .B 4)))))) q_anil))))
theorem dweigh:Def (hk w) mg "weigh" (top 5) ["weights", "counts"] 29 (FD "weigh" 5 hxM4 28):=dk Y (by kernel_rfl) fun _ _ _ _ _ _=>us2 fun _ _=>rfl
theorem okweigh:FnOk P w (hk w) mg base CX0 1 29 (FD "weigh" 5 hxM4 28) ["weights", "counts"] (spM (hk w) 2 .F f_weigh):=
 okF (dweigh Y) scweigh (.inl rfl) rfl rfl fun hr=>(q_last (q_ret (q_cb (call_sumL rfl) (b_ints (g:=gSum)) (by rfl) (bl Y).sum_ bt_sum (q_acons (q_CB (q_FC (q_compn (show CompScope (defScope (top 5)) _ ["weights", "counts"] ["weights", "counts", "weight", "number"] from by trivial) rfl (q_zipB (by rfl) (bl Y).zip_ (q_acons (qv .B 0) (q_acons (qv .B 1) q_anil))) (fun _ _ _ _=>(@pg_tupK _ (hk w) _ _ _ _ 2 rfl (pgs_cons (@pg_name _ _ 2 _ (by decide +kernel:(["weights", "counts", "weight", "number"]:List Str).Nodup) rfl (Or.inl rfl) (.inr rfl)) (pgs_cons (@pg_name _ _ 3 _ (by decide +kernel:(["weights", "counts", "weight", "number"]:List Str).Nodup) rfl (Or.inl rfl) (.inr rfl)) pgs_nil)) (by rfl) (by rfl) (by rfl))) (gt_tup (.inr rfl) (gts_cons (.inr rfl) gt_U (gts_cons (.inr rfl) gt_U gts_nil))) (gk_tup (gk_cons (show 2<=2 by decide) (gk_cons (show 2<=3 by decide) gk_nil))) (fun _ _ _ _=>q_pifN) (fun _ _ _ _=>(q_op op_mulB (o2_I (C:=CMulB) (g:=gMul) (fun _ _=>rfl) (fun _ _ _=>.int)) (qv .B 2) (qv .B 3)))))) q_anil))))
theorem dunit:Def (hk w) mg "unit" (top 8) ["place", "many"] 39 (FD "unit" 8 hxM1 38):=dk Y (by kernel_rfl) fun _ _ _ _ _ _=>us2 fun _ _=>rfl
theorem okunit:FnOk P w (hk w) mg base CX0 1 39 (FD "unit" 8 hxM1 38) ["place", "many"] (spM (hk w) 2 .F f_unit):=
 okF (dunit Y) scunit (.inl rfl) rfl rfl fun hr=>(q_last (q_ret (q_ct K_tup (b_tup (c:=true)) (by rfl) (bl Y).tuple_ bt_tuple (q_acons (q_FC (q_compn (show CompScope (defScope (top 8)) _ ["place", "many"] ["place", "many", "at"] from by trivial) rfl (q_rng1 (by rfl) (bl Y).range_ (q_acons (qv .B 1) q_anil)) (fun _ _ _ _=>(@pg_name _ _ 2 _ (by decide +kernel:(["place", "many", "at"]:List Str).Nodup) rfl (Or.inl rfl) (.inr rfl))) gt_U (gk_name (show 2<=2 by decide)) (fun _ _ _ _=>q_pifN) (fun _ _ _ _=>(q_if (q_tcmp (op_eqD (hu64 hr)) (o2_eqD (neg:=false)) (qv .B 2) (qv .B 0)) q_int q_int)))) q_anil))))
theorem dlowered:Def (hk w) mg "lowered" (top 13) ["row", "lead", "column"] 70 (FD "lowered" 13 hxM1 69):=dk Y (by kernel_rfl) fun _ _ _ _ _ _=>us3 fun _ _ _=>rfl
theorem oklowered:FnOk P w (hk w) mg base CX0 2 70 (FD "lowered" 13 hxM1 69) ["row", "lead", "column"] (spM (hk w) 3 .F f_lowered):=
 okF (dlowered Y) sclowered (.inl rfl) rfl rfl fun hr=>(q_last (q_ret (qcD (okshifted Y) (dshifted Y) (q_acons (qv .B 0) (q_acons (qv .B 1) (q_acons (q_un un_neg (o1_U (g:=gNeg) (fun _=>rfl) (fun _ _=>.int)) (q_op op_fdivZ (o2_I (C:=CDivZ) (g:=gFz) (fun _ _=>rfl) (fun _ _ _=>.int)) (q_UB (q_ixU (qv .B 0) (qv .B 2))) (q_UB (q_ixU (qv .B 1) (qv .B 2))))) q_anil))))))
theorem ddivided:Def (hk w) mg "divided" (top 11) ["row", "other", "column"] 58 (FD "divided" 11 hxM1 57):=dk Y (by kernel_rfl) fun _ _ _ _ _ _=>us3 fun _ _ _=>rfl
theorem okdivided:FnOk P w (hk w) mg base CX0 3 58 (FD "divided" 11 hxM1 57) ["row", "other", "column"] (spM (hk w) 3 .F f_divided):=
 okF (ddivided Y) scdivided (.inl rfl) rfl rfl fun hr=>(q_cons (q_while PassesOwn.never (q_tcmp op_ne o2_neS (q_UB (q_ixU (qv .B 1) (qv .B 2))) q_int) (q_cons (q_setF (i:=3) scdivided.nd rfl (by trivial) (qcD (oklowered Y) (dlowered Y) (q_acons (qv .B 0) (q_acons (qv .B 1) (q_acons (qv .B 2) q_anil)))) (by rfl) (by trivial)) (q_cons (q_setV (i:=0) scdivided.nd rfl (by trivial) (qv .V 1) (by rfl) (by trivial)) (q_last (q_frz (q_setV (i:=1) scdivided.nd rfl (by trivial) (qv .V 3) (by rfl) (by trivial))))))) (q_last (q_ret (q_tup (q_acons (qv .V 0) (q_acons (qv .V 1) q_anil))))))
theorem dgathered:Def (hk w) mg "gathered" (top 10) ["rows", "column"] 51 (FD "gathered" 10 hxM1 50):=dk Y (by kernel_rfl) fun _ _ _ _ _ _=>us2 fun _ _=>rfl
theorem okgathered:FnOk P w (hk w) mg base CX0 4 51 (FD "gathered" 10 hxM1 50) ["rows", "column"] (spM (hk w) 2 .F f_gathered):=
 okF (dgathered Y) scgathered (.inl rfl) rfl rfl fun hr=>(q_cons (q_setF (i:=2) scgathered.nd rfl (by trivial) (@q_sl _ _ _ _ _ _ false _ _ _ _ _ (qv .B 0) q_pN (q_pS q_int) (by rfl)) (by rfl) (by trivial)) (q_cons (q_for PassesOwn.never rfl (q_iSqU (q_VU (q_FV (@q_sl _ _ _ _ _ _ false _ _ _ _ _ (qv .B 0) (q_pS q_int) q_pN (by rfl))))) (@pg_name _ _ 3 _ scgathered.nd rfl (by trivial) (by trivial)) gt_U (q_cons (q_setF (i:=4) scgathered.nd rfl (by trivial) (qcD (okdivided Y) (ddivided Y) (q_acons (q_UB (q_ixU (qv .B 2) q_int)) (q_acons (qv .B 3) (q_acons (qv .B 1) q_anil)))) (by rfl) (by trivial)) (q_last (q_setF (i:=2) scgathered.nd rfl (by trivial) (q_op op_cat (o2_cat (c:=true)) (q_FC (q_op op_cat (o2_cat (c:=true)) (q_FC (q_lst (q_acons (q_ixV (qv .C 4) q_int) q_anil))) (q_FC (@q_sl _ _ _ _ _ _ true _ _ _ _ _ (qv .C 2) (q_pS q_int) q_pN (by rfl))))) (q_FC (q_lst (q_acons (q_ixV (qv .C 4) q_int) q_anil)))) (by rfl) (by trivial))))) (q_last (@q_retv _ _ _ _ _ 2 _ _ (.inl rfl) (by rfl) (by trivial) (by decide) (by decide)))))
theorem dupright:Def (hk w) mg "upright" (top 12) ["row", "column"] 63 (FD "upright" 12 hxM1 62):=dk Y (by kernel_rfl) fun _ _ _ _ _ _=>us2 fun _ _=>rfl
theorem okupright:FnOk P w (hk w) mg base CX0 1 63 (FD "upright" 12 hxM1 62) ["row", "column"] (spM (hk w) 2 .F f_upright):=
 okF (dupright Y) scupright (.inl rfl) rfl rfl fun hr=>(q_last (q_ret (q_if (q_tcmp op_gt xGt (q_UB (q_ixU (qv .B 0) (qv .B 1))) q_int) (qv .F 0) (q_ct K_tup (b_tup (c:=true)) (by rfl) (bl Y).tuple_ bt_tuple (q_acons (q_FC (q_compn (show CompScope (defScope (top 12)) _ ["row", "column"] ["row", "column", "number"] from by trivial) rfl (q_iSqB (qv .B 0)) (fun _ _ _ _=>(@pg_name _ _ 2 _ (by decide +kernel:(["row", "column", "number"]:List Str).Nodup) rfl (Or.inl rfl) (.inr rfl))) gt_U (gk_name (show 2<=2 by decide)) (fun _ _ _ _=>q_pifN) (fun _ _ _ _=>(q_un un_neg (o1_U (g:=gNeg) (fun _=>rfl) (fun _ _=>.int)) (qv .B 2))))) q_anil)))))
theorem dneat:Def (hk w) mg "neat" (top 9) ["rows"] 44 (FD "neat" 9 hxM1 43):=dk Y (by kernel_rfl) fun _ _ _ _ _ _=>us1 fun _=>rfl
theorem okneat:FnOk P w (hk w) mg base CX0 5 44 (FD "neat" 9 hxM1 43) ["rows"] (spM (hk w) 1 .F f_neat):=
 okF (dneat Y) scneat (.inl rfl) rfl rfl fun hr=>(q_cons (q_setF (i:=1) scneat.nd rfl (by trivial) (q_lst q_anil) (by rfl) (by trivial)) (q_cons (@q_setU _ _ _ _ _ _ _ 2 _ _ scneat.nd rfl (by trivial) (qv .U 0) (by rfl) (by trivial)) (q_cons (q_setV (i:=3) scneat.nd rfl (by trivial) q_int (by rfl) (by trivial)) (q_cons (q_while PassesOwn.never (q_tcmp op_gt xGt (q_cb K_len b_len (by rfl) (bl Y).len_ PySem.boot_len (q_acons (qv .B 2) q_anil)) q_int) (q_cons (q_setF (i:=2) scneat.nd rfl (by trivial) (qcD (okgathered Y) (dgathered Y) (q_acons (qv .B 2) (q_acons (qv .B 3) q_anil))) (by rfl) (by trivial)) (q_cons (q_if_ (q_tcmp op_ne o2_neS (q_UB (q_ixU (q_UB (q_ixU (qv .B 2) q_int)) (qv .B 3))) q_int) (q_cons (q_setF (i:=4) scneat.nd rfl (by trivial) (qcD (okupright Y) (dupright Y) (q_acons (q_UB (q_ixU (qv .B 2) q_int)) (q_acons (qv .B 3) q_anil))) (by rfl) (by trivial)) (q_cons (q_frz (q_setF (i:=1) scneat.nd rfl (by trivial) (q_op op_cat (o2_cat (c:=true)) (q_FC (q_compn (show CompScope (defScope (top 9)) _ ["rows", "found", "left", "column", "lead"] ["rows", "found", "left", "column", "lead", "row"] from by trivial) rfl (q_iSqB (qv .B 1)) (fun _ _ _ _=>(@pg_name _ _ 5 _ (by decide +kernel:(["rows", "found", "left", "column", "lead", "row"]:List Str).Nodup) rfl (Or.inl rfl) (.inr rfl))) gt_U (gk_name (show 5<=5 by decide)) (fun _ _ _ _=>q_pifN) (fun _ _ _ _=>(q_FV (qcD (oklowered Y) (dlowered Y) (q_acons (qv .B 5) (q_acons (qv .B 4) (q_acons (qv .B 3) q_anil)))))))) (q_FC (q_lst (q_acons (qv .V 4) q_anil)))) (by rfl) (by trivial))) (q_last (q_setF (i:=2) scneat.nd rfl (by trivial) (@q_sl _ _ _ _ _ _ true _ _ _ _ _ (qv .C 2) (q_pS q_int) q_pN (by rfl)) (by rfl) (by trivial))))) q_nil) (q_last (@q_aug _ _ _ _ _ _ _ 3 _ _ _ _ scneat.nd rfl (by trivial) q_int ip_add (by trivial)))))) (q_last (@q_retv _ _ _ _ _ 1 _ _ (.inl rfl) (by rfl) (by trivial) (by decide) (by decide)))))))
theorem dbalances:Def (hk w) mg "balances" (top 7) ["moves", "many"] 34 (FD "balances" 7 hxM1 33):=dk Y (by kernel_rfl) fun _ _ _ _ _ _=>us2 fun _ _=>rfl
theorem okbalances:FnOk P w (hk w) mg base CX0 6 34 (FD "balances" 7 hxM1 33) ["moves", "many"] (spM (hk w) 2 .F f_balances):=
 okF (dbalances Y) scbalances (.inl rfl) rfl rfl fun hr=>(q_cons (q_setcn (i:=2) (show CompScope (defScope (top 7)) _ ["moves", "many", "found", "move", "step", "weighed"] ["moves", "many", "found", "move", "step", "weighed", "place"] from by trivial) rfl (q_rng1 (by rfl) (bl Y).range_ (q_acons (qv .B 1) q_anil)) (fun _ _ _ _=>(@pg_name _ _ 6 _ (by decide +kernel:(["moves", "many", "found", "move", "step", "weighed", "place"]:List Str).Nodup) rfl (Or.inl rfl) (.inr rfl))) gt_U (gk_name (show 6<=6 by decide)) (fun _ _ _ _=>q_pifN) (fun _ _ _ _=>(q_FV (qcD (okunit Y) (dunit Y) (q_acons (qv .B 6) (q_acons (qv .B 1) q_anil))))) scbalances.nd rfl (by trivial)) (q_cons (q_for PassesOwn.never rfl (q_iSqU (qv .U 0)) (@pg_name _ _ 3 _ scbalances.nd rfl (by trivial) (by trivial)) gt_U (q_cons (q_setF (i:=4) scbalances.nd rfl (by trivial) (qcD (okchange Y) (dchange Y) (q_acons (qv .B 3) q_anil)) (by rfl) (by trivial)) (q_cons (q_setF (i:=5) scbalances.nd rfl (by trivial) (qcD (okneat Y) (dneat Y) (q_acons (q_CB (q_FC (q_compn (show CompScope (defScope (top 7)) _ ["moves", "many", "found", "move", "step", "weighed"] ["moves", "many", "found", "move", "step", "weighed", "weights"] from by trivial) rfl (q_iSqB (qv .B 2)) (fun _ _ _ _=>(@pg_name _ _ 6 _ (by decide +kernel:(["moves", "many", "found", "move", "step", "weighed", "weights"]:List Str).Nodup) rfl (Or.inl rfl) (.inr rfl))) gt_U (gk_name (show 6<=6 by decide)) (fun _ _ _ _=>q_pifN) (fun _ _ _ _=>(q_FV (q_op op_cat3 o2_catT (q_UB (q_tupU (q_acons (q_VU (q_FV (qcD (okweigh Y) (dweigh Y) (q_acons (qv .B 6) (q_acons (qv .B 4) q_anil))))) q_anil))) (qv .B 6))))))) q_anil)) (by rfl) (by trivial)) (q_last (q_setcn (i:=2) (show CompScope (defScope (top 7)) _ ["moves", "many", "found", "move", "step", "weighed"] ["moves", "many", "found", "move", "step", "weighed", "row"] from by trivial) rfl (q_iSqB (qv .B 5)) (fun _ _ _ _=>(@pg_name _ _ 6 _ (by decide +kernel:(["moves", "many", "found", "move", "step", "weighed", "row"]:List Str).Nodup) rfl (Or.inl rfl) (.inr rfl))) gt_U (gk_name (show 6<=6 by decide)) (fun _ _ _ _=>(q_pif1 (q_tcmp op_eq o2_eqS (q_UB (q_ixU (qv .B 6) q_int)) q_int))) (fun _ _ _ _=>(q_FV (@q_slT _ _ _ _ _ _ _ _ _ _ _ (qv .B 6) (q_pS q_int) q_pN (by rfl)))) scbalances.nd rfl (by trivial)))))) (q_last (@q_retv _ _ _ _ _ 2 _ _ (.inl rfl) (by rfl) (by trivial) (by decide) (by decide)))))
theorem dlead_of:Def (hk w) mg "lead_of" (top 15) ["row"] 80 (FD "lead_of" 15 hxM1 79):=dk Y (by kernel_rfl) fun _ _ _ _ _ _=>us1 fun _=>rfl
theorem oklead_of:FnOk P w (hk w) mg base CX0 1 80 (FD "lead_of" 15 hxM1 79) ["row"] (spM (hk w) 1 .F f_lead_of):=
 okF (dlead_of Y) sclead_of (.inl rfl) rfl rfl fun hr=>(q_last (q_ret (q_chkF (q_VU (q_ixV (q_FC (q_compn (show CompScope (defScope (top 15)) _ ["row"] ["row", "at", "number"] from by trivial) rfl (@q_enuB _ _ _ _ _ _ _ _ _ _ (by rfl) (bl Y).enumerate_ (q_acons (qv .B 0) q_anil) (by rfl) (by rfl)) (fun _ _ _ _=>(@pg_tupK _ (hk w) _ _ _ _ 2 rfl (pgs_cons (@pg_name _ _ 1 _ (by decide +kernel:(["row", "at", "number"]:List Str).Nodup) rfl (Or.inl rfl) (.inr rfl)) (pgs_cons (@pg_name _ _ 2 _ (by decide +kernel:(["row", "at", "number"]:List Str).Nodup) rfl (Or.inl rfl) (.inr rfl)) pgs_nil)) (by rfl) (by rfl) (by rfl))) (gt_tup (.inr rfl) (gts_cons (.inr rfl) gt_U (gts_cons (.inr rfl) gt_U gts_nil))) (gk_tup (gk_cons (show 1<=1 by decide) (gk_cons (show 1<=2 by decide) gk_nil))) (fun _ _ _ _=>(q_pif1 (q_tcmp op_ne o2_neS (qv .B 2) q_int))) (fun _ _ _ _=>(qv .V 1)))) q_int)))))
theorem dshares:Def (hk w) mg "shares" (top 14) ["basis", "weights"] 75 (FD "shares" 14 hxM1 74):=dk Y (by kernel_rfl) fun _ _ _ _ _ _=>us2 fun _ _=>rfl
theorem okshares:FnOk P w (hk w) mg base CX0 3 75 (FD "shares" 14 hxM1 74) ["basis", "weights"] (spM (hk w) 2 .F f_shares):=
 okF (dshares Y) scshares (.inl rfl) rfl rfl fun hr=>(q_cons (q_setF (i:=2) scshares.nd rfl (by trivial) (q_lst q_anil) (by rfl) (by trivial)) (q_cons (q_setV (i:=3) scshares.nd rfl (by trivial) (qv .V 1) (by rfl) (by trivial)) (q_cons (q_for PassesOwn.never rfl (q_iSqU (qv .U 0)) (@pg_name _ _ 4 _ scshares.nd rfl (by trivial) (by trivial)) gt_U (q_cons (q_setF (i:=5) scshares.nd rfl (by trivial) (qcD (oklead_of Y) (dlead_of Y) (q_acons (qv .B 4) q_anil)) (by rfl) (by trivial)) (q_cons (@q_app _ _ _ _ _ _ _ 2 _ _ _ _ rfl (by trivial) (q_op op_fdivZ (o2_I (C:=CDivZ) (g:=gFz) (fun _ _=>rfl) (fun _ _ _=>.int)) (q_UB (q_ixU (qv .B 3) (qv .B 5))) (q_UB (q_ixU (qv .B 4) (qv .B 5)))) (by decide) (by decide) (by rfl) (by rfl) (by rfl) (by rfl) (by rfl)) (q_last (q_setF (i:=3) scshares.nd rfl (by trivial) (qcD (oklowered Y) (dlowered Y) (q_acons (qv .B 3) (q_acons (qv .B 4) (q_acons (qv .B 5) q_anil)))) (by rfl) (by trivial)))))) (q_cons (q_if_ (q_val (q_cb (call_anyL rfl) (b_bools (g:=gAny)) (by rfl) (bl Y).any_ bt_any (q_acons (q_CB (q_FC (q_compn (show CompScope (defScope (top 14)) _ ["basis", "weights", "times", "rest", "row", "column"] ["basis", "weights", "times", "rest", "row", "column", "number"] from by trivial) rfl (q_iSqB (qv .B 3)) (fun _ _ _ _=>(@pg_name _ _ 6 _ (by decide +kernel:(["basis", "weights", "times", "rest", "row", "column", "number"]:List Str).Nodup) rfl (Or.inl rfl) (.inr rfl))) gt_U (gk_name (show 6<=6 by decide)) (fun _ _ _ _=>q_pifN) (fun _ _ _ _=>(q_cmp op_ne o2_neS (qv .B 6) q_int))))) q_anil))) (q_last (q_ret q_non)) q_nil) (q_last (@q_retv _ _ _ _ _ 2 _ _ (.inl rfl) (by rfl) (by trivial) (by decide) (by decide)))))))
theorem d_law_cell_at:Def (hk w) mg "_law_cell_at" (top 17) ["_law_script", "_law_k"] 87 (FD "_law_cell_at" 17 hxM0 86):=dk Y (by kernel_rfl) fun _ _ _ _ _ _=>us2 fun _ _=>rfl
theorem ok_law_cell_at:FnOk P w (hk w) mg base CX0 1 87 (FD "_law_cell_at" 17 hxM0 86) ["_law_script", "_law_k"] (spM (hk w) 2 .F f__law_cell_at):=
 okF (d_law_cell_at Y) sc_law_cell_at (.inl rfl) rfl rfl fun hr=>(q_cons (q_if_ (q_tcmp op_lt xLt (qv .B 1) (q_cb K_len b_len (by rfl) (bl Y).len_ PySem.boot_len (q_acons (qv .B 0) q_anil))) (q_last (q_ret (q_chkF (q_ixU (qv .B 0) (qv .B 1))))) q_nil) (q_last (q_ret q_int)))
theorem d_law_stream:Def (hk w) mg "_law_stream" (top 18) ["_law_cell", "_law_turn", "_law_many"] 94 (FD "_law_stream" 18 hxM0 93):=dk Y (by kernel_rfl) fun _ _ _ _ _ _=>us3 fun _ _ _=>rfl
theorem ok_law_stream:FnOk P w (hk w) mg base CX0 1 94 (FD "_law_stream" 18 hxM0 93) ["_law_cell", "_law_turn", "_law_many"] (spM (hk w) 3 .F f__law_stream):=
 okF (d_law_stream Y) sc_law_stream (.inl rfl) rfl rfl fun hr=>(q_cons (q_setF (i:=3) sc_law_stream.nd rfl (by trivial) (q_lst q_anil) (by rfl) (by trivial)) (q_cons (q_setV (i:=4) sc_law_stream.nd rfl (by trivial) (q_op op_mod (o2_I (C:=cMod) (g:=gMod) (fun _ _=>rfl) (fun _ _ _=>.int)) (q_op op_mulB (o2_I (C:=CMulB) (g:=gMul) (fun _ _=>rfl) (fun _ _ _=>.int)) (q_op op_add xAdd (q_op op_mod (o2_I (C:=cMod) (g:=gMod) (fun _ _=>rfl) (fun _ _ _=>.int)) (qv .B 0) q_int) q_int) (q_op op_add xAdd (q_op op_mulB (o2_I (C:=CMulB) (g:=gMul) (fun _ _=>rfl) (fun _ _ _=>.int)) (qv .B 1) (qv .B 1)) q_int)) q_int) (by rfl) (by trivial)) (q_cons (q_for PassesOwn.never rfl (q_rng1 (by rfl) (bl Y).range_ (q_acons (qv .B 2) q_anil)) (@pg_name _ _ 5 _ sc_law_stream.nd rfl (by trivial) (by trivial)) gt_U (q_cons (q_setV (i:=4) sc_law_stream.nd rfl (by trivial) (q_op op_mod (o2_I (C:=cMod) (g:=gMod) (fun _ _=>rfl) (fun _ _ _=>.int)) (q_op op_add xAdd (q_op op_add xAdd (q_op op_add xAdd (q_op op_mulB (o2_I (C:=CMulB) (g:=gMul) (fun _ _=>rfl) (fun _ _ _=>.int)) (qv .B 4) (qv .B 4)) (q_op op_mulB (o2_I (C:=CMulB) (g:=gMul) (fun _ _=>rfl) (fun _ _ _=>.int)) q_int (qv .B 4))) (qv .B 5)) q_int) q_int) (by rfl) (by trivial)) (q_last (@q_app _ _ _ _ _ _ _ 3 _ _ _ _ rfl (by trivial) (qv .V 4) (by decide) (by decide) (by rfl) (by rfl) (by rfl) (by rfl) (by rfl))))) (q_last (@q_retv _ _ _ _ _ 3 _ _ (.inl rfl) (by rfl) (by trivial) (by decide) (by decide))))))
theorem d_law_groups:Def (hk w) mg "_law_groups" (top 19) ["_law_cell", "_law_many"] 101 (FD "_law_groups" 19 hxM0 100):=dk Y (by kernel_rfl) fun _ _ _ _ _ _=>us2 fun _ _=>rfl
theorem ok_law_groups:FnOk P w (hk w) mg base CX0 2 101 (FD "_law_groups" 19 hxM0 100) ["_law_cell", "_law_many"] (spM (hk w) 2 .F f__law_groups):=
 okF (d_law_groups Y) sc_law_groups (.inl rfl) rfl rfl fun hr=>(q_cons (q_setF (i:=2) sc_law_groups.nd rfl (by trivial) (qcD (ok_law_stream Y) (d_law_stream Y) (q_acons (qv .B 0) (q_aint (q_aint q_anil)))) (by rfl) (by trivial)) (q_cons (q_setV (i:=3) sc_law_groups.nd rfl (by trivial) (q_op op_mod (o2_I (C:=cMod) (g:=gMod) (fun _ _=>rfl) (fun _ _ _=>.int)) (q_UB (q_ixU (qv .B 2) q_int)) (q_op op_add xAdd (qv .B 1) q_int)) (by rfl) (by trivial)) (q_cons (q_setF (i:=4) sc_law_groups.nd rfl (by trivial) (q_lst q_anil) (by rfl) (by trivial)) (q_cons (q_if_ (q_tcmp op_gt xGt (qv .B 3) q_int) (q_last (@q_app _ _ _ _ _ _ _ 4 _ _ _ _ rfl (by trivial) (q_FV (q_tup (q_aint (q_acons (qv .V 3) (q_acons (q_op op_mod (o2_I (C:=cMod) (g:=gMod) (fun _ _=>rfl) (fun _ _ _=>.int)) (q_UB (q_ixU (qv .B 2) q_int)) (qv .B 3)) q_anil))))) (by decide) (by decide) (by rfl) (by rfl) (by rfl) (by rfl) (by rfl))) q_nil) (q_cons (q_if_ (q_tcmp op_lt xLt (qv .B 3) (qv .B 1)) (q_last (@q_app _ _ _ _ _ _ _ 4 _ _ _ _ rfl (by trivial) (q_FV (q_tup (q_acons (qv .V 3) (q_acons (qv .V 1) (q_acons (q_op op_add xAdd (qv .B 3) (q_op op_mod (o2_I (C:=cMod) (g:=gMod) (fun _ _=>rfl) (fun _ _ _=>.int)) (q_UB (q_ixU (qv .B 2) q_int)) (q_op op_sub xSub (qv .B 1) (qv .B 3)))) q_anil))))) (by decide) (by decide) (by rfl) (by rfl) (by rfl) (by rfl) (by rfl))) q_nil) (q_last (@q_retv _ _ _ _ _ 4 _ _ (.inl rfl) (by rfl) (by trivial) (by decide) (by decide))))))))
theorem d_law_weights:Def (hk w) mg "_law_weights" (top 20) ["_law_cell", "_law_many", "_law_groups_here"] 106 (FD "_law_weights" 20 hxM0 105):=dk Y (by kernel_rfl) fun _ _ _ _ _ _=>us3 fun _ _ _=>rfl
theorem ok_law_weights:FnOk P w (hk w) mg base CX0 2 106 (FD "_law_weights" 20 hxM0 105) ["_law_cell", "_law_many", "_law_groups_here"] (spM (hk w) 3 .F f__law_weights):=
 okF (d_law_weights Y) sc_law_weights (.inl rfl) rfl rfl fun hr=>(q_cons (q_setF (i:=3) sc_law_weights.nd rfl (by trivial) (qcD (ok_law_stream Y) (d_law_stream Y) (q_acons (qv .B 0) (q_aint (q_acons (q_op op_add xAdd (qv .B 1) q_int) q_anil)))) (by rfl) (by trivial)) (q_cons (q_setV (i:=4) sc_law_weights.nd rfl (by trivial) (q_ixV (q_FC (q_lst (q_aint (q_aint q_anil)))) (q_op op_mod (o2_I (C:=cMod) (g:=gMod) (fun _ _=>rfl) (fun _ _ _=>.int)) (q_UB (q_ixU (qv .B 3) (qv .B 1))) q_int)) (by rfl) (by trivial)) (q_cons (q_setcn (i:=5) (show CompScope (defScope (top 20)) _ ["_law_cell", "_law_many", "_law_groups_here", "_law_xs", "_law_wide", "_law_weights_here", "_law_low", "_law_high", "_law_head"] ["_law_cell", "_law_many", "_law_groups_here", "_law_xs", "_law_wide", "_law_weights_here", "_law_low", "_law_high", "_law_head", "_law_p"] from by trivial) rfl (q_rng1 (by rfl) (bl Y).range_ (q_acons (qv .B 1) q_anil)) (fun _ _ _ _=>(@pg_name _ _ 9 _ (by decide +kernel:(["_law_cell", "_law_many", "_law_groups_here", "_law_xs", "_law_wide", "_law_weights_here", "_law_low", "_law_high", "_law_head", "_law_p"]:List Str).Nodup) rfl (Or.inl rfl) (.inr rfl))) gt_U (gk_name (show 9<=9 by decide)) (fun _ _ _ _=>q_pifN) (fun _ _ _ _=>(q_op op_sub xSub (q_op op_mod (o2_I (C:=cMod) (g:=gMod) (fun _ _=>rfl) (fun _ _ _=>.int)) (q_UB (q_ixU (qv .B 3) (qv .B 9))) (q_op op_add xAdd (q_op op_mulB (o2_I (C:=CMulB) (g:=gMul) (fun _ _=>rfl) (fun _ _ _=>.int)) q_int (qv .B 4)) q_int)) (qv .B 4))) sc_law_weights.nd rfl (by trivial)) (q_cons (q_for PassesOwn.never rfl (q_iSqU (qv .U 2)) (@pg_tupK _ (hk w) _ _ _ _ 3 rfl (pgs_cons (@pg_name _ _ 6 _ sc_law_weights.nd rfl (by trivial) (by trivial)) (pgs_cons (@pg_name _ _ 7 _ sc_law_weights.nd rfl (by trivial) (by trivial)) (pgs_cons (@pg_name _ _ 8 _ sc_law_weights.nd rfl (by trivial) (by trivial)) pgs_nil))) (by rfl) (by rfl) (by rfl)) (gt_tup (.inr rfl) (gts_cons (.inr rfl) gt_U (gts_cons (.inr rfl) gt_U (gts_cons (.inr rfl) gt_U gts_nil)))) (q_last (@q_set _ _ _ _ _ _ _ _ 5 _ _ _ _ rfl (by trivial) (qv .B 8) (q_op op_sub xSub q_int (q_op op_mulB (o2_I (C:=CMulB) (g:=gMul) (fun _ _=>rfl) (fun _ _ _=>.int)) q_int (q_op op_mod (o2_I (C:=cMod) (g:=gMod) (fun _ _=>rfl) (fun _ _ _=>.int)) (q_op op_fdiv (o2_I (C:=CDiv) (g:=gDiv) (fun _ _=>rfl) (fun _ _ _=>.int)) (q_UB (q_ixU (qv .B 3) (qv .B 8))) q_int) q_int))) (by decide) (by decide) (@pg_sub _ _ _ _ _ _ _ (@pv _ 5 _ _ (by rfl) (by trivial) (by decide) (by decide)) (qv .B 8) set_list (by intro _; rfl)) (by rfl) (by rfl)))) (q_last (@q_retv _ _ _ _ _ 5 _ _ (.inl rfl) (by rfl) (by trivial) (by decide) (by decide)))))))
theorem d_law_move:Def (hk w) mg "_law_move" (top 21) ["_law_cell", "_law_turn", "_law_weights_here", "_law_groups_here"] 111 (FD "_law_move" 21 hxM0 110):=dk Y (by kernel_rfl) fun _ _ _ _ _ _=>us4 fun _ _ _ _=>rfl
theorem ok_law_move:FnOk P w (hk w) mg base CX0 2 111 (FD "_law_move" 21 hxM0 110) ["_law_cell", "_law_turn", "_law_weights_here", "_law_groups_here"] (spM (hk w) 4 .F f__law_move):=
 okF (d_law_move Y) sc_law_move (.inl rfl) rfl rfl fun hr=>(q_cons (q_setF (i:=4) sc_law_move.nd rfl (by trivial) (q_cb K_len b_len (by rfl) (bl Y).len_ PySem.boot_len (q_acons (qv .B 2) q_anil)) (by rfl) (by trivial)) (q_cons (q_setF (i:=5) sc_law_move.nd rfl (by trivial) (qcD (ok_law_stream Y) (d_law_stream Y) (q_acons (qv .B 0) (q_acons (q_op op_add xAdd (qv .B 1) q_int) (q_acons (q_op op_add xAdd (q_op op_mulB (o2_I (C:=CMulB) (g:=gMul) (fun _ _=>rfl) (fun _ _ _=>.int)) q_int (qv .B 4)) q_int) q_anil)))) (by rfl) (by trivial)) (q_cons (q_setV (i:=6) sc_law_move.nd rfl (by trivial) (q_ixV (q_FC (q_lst (q_aint (q_aint (q_aint (q_aint q_anil)))))) (q_op op_mod (o2_I (C:=cMod) (g:=gMod) (fun _ _=>rfl) (fun _ _ _=>.int)) (q_UB (q_ixU (qv .B 5) (q_op op_mulB (o2_I (C:=CMulB) (g:=gMul) (fun _ _=>rfl) (fun _ _ _=>.int)) q_int (qv .B 4)))) q_int)) (by rfl) (by trivial)) (q_cons (q_setF (i:=7) sc_law_move.nd rfl (by trivial) (q_compn (show CompScope (defScope (top 21)) _ ["_law_cell", "_law_turn", "_law_weights_here", "_law_groups_here", "_law_many", "_law_xs", "_law_top", "_law_take", "_law_put", "_law_low", "_law_high", "_law_head", "_law_drift", "_law_base"] ["_law_cell", "_law_turn", "_law_weights_here", "_law_groups_here", "_law_many", "_law_xs", "_law_top", "_law_take", "_law_put", "_law_low", "_law_high", "_law_head", "_law_drift", "_law_base", "_law_x"] from by trivial) rfl (q_iSqB (q_CB (q_FC (@q_sl _ _ _ _ _ _ true _ _ _ _ _ (qv .C 5) q_pN (q_pS (qv .B 4)) (by rfl))))) (fun _ _ _ _=>(@pg_name _ _ 14 _ (by decide +kernel:(["_law_cell", "_law_turn", "_law_weights_here", "_law_groups_here", "_law_many", "_law_xs", "_law_top", "_law_take", "_law_put", "_law_low", "_law_high", "_law_head", "_law_drift", "_law_base", "_law_x"]:List Str).Nodup) rfl (Or.inl rfl) (.inr rfl))) gt_U (gk_name (show 14<=14 by decide)) (fun _ _ _ _=>q_pifN) (fun _ _ _ _=>(q_op op_mulB (o2_I (C:=CMulB) (g:=gMul) (fun _ _=>rfl) (fun _ _ _=>.int)) (q_op op_mod (o2_I (C:=cMod) (g:=gMod) (fun _ _=>rfl) (fun _ _ _=>.int)) (q_op op_fdiv (o2_I (C:=CDiv) (g:=gDiv) (fun _ _=>rfl) (fun _ _ _=>.int)) (qv .B 14) q_int) (qv .B 6)) (q_ct call_int1 b_int (by rfl) (bl Y).int_ bt_int (q_acons (q_cmp op_gt xGt (q_op op_mod (o2_I (C:=cMod) (g:=gMod) (fun _ _=>rfl) (fun _ _ _=>.int)) (qv .B 14) q_int) q_int) q_anil))))) (by rfl) (by trivial)) (q_cons (q_setF (i:=8) sc_law_move.nd rfl (by trivial) (q_compn (show CompScope (defScope (top 21)) _ ["_law_cell", "_law_turn", "_law_weights_here", "_law_groups_here", "_law_many", "_law_xs", "_law_top", "_law_take", "_law_put", "_law_low", "_law_high", "_law_head", "_law_drift", "_law_base"] ["_law_cell", "_law_turn", "_law_weights_here", "_law_groups_here", "_law_many", "_law_xs", "_law_top", "_law_take", "_law_put", "_law_low", "_law_high", "_law_head", "_law_drift", "_law_base", "_law_x"] from by trivial) rfl (q_iSqB (q_CB (q_FC (@q_sl _ _ _ _ _ _ true _ _ _ _ _ (qv .C 5) (q_pS (qv .B 4)) (q_pS (q_op op_mulB (o2_I (C:=CMulB) (g:=gMul) (fun _ _=>rfl) (fun _ _ _=>.int)) q_int (qv .B 4))) (by rfl))))) (fun _ _ _ _=>(@pg_name _ _ 14 _ (by decide +kernel:(["_law_cell", "_law_turn", "_law_weights_here", "_law_groups_here", "_law_many", "_law_xs", "_law_top", "_law_take", "_law_put", "_law_low", "_law_high", "_law_head", "_law_drift", "_law_base", "_law_x"]:List Str).Nodup) rfl (Or.inl rfl) (.inr rfl))) gt_U (gk_name (show 14<=14 by decide)) (fun _ _ _ _=>q_pifN) (fun _ _ _ _=>(q_op op_mulB (o2_I (C:=CMulB) (g:=gMul) (fun _ _=>rfl) (fun _ _ _=>.int)) (q_op op_mod (o2_I (C:=cMod) (g:=gMod) (fun _ _=>rfl) (fun _ _ _=>.int)) (q_op op_fdiv (o2_I (C:=CDiv) (g:=gDiv) (fun _ _=>rfl) (fun _ _ _=>.int)) (qv .B 14) q_int) (qv .B 6)) (q_ct call_int1 b_int (by rfl) (bl Y).int_ bt_int (q_acons (q_cmp op_gt xGt (q_op op_mod (o2_I (C:=cMod) (g:=gMod) (fun _ _=>rfl) (fun _ _ _=>.int)) (qv .B 14) q_int) q_int) q_anil))))) (by rfl) (by trivial)) (q_cons (q_for PassesOwn.never rfl (q_iSqU (qv .U 3)) (@pg_tupK _ (hk w) _ _ _ _ 3 rfl (pgs_cons (@pg_name _ _ 9 _ sc_law_move.nd rfl (by trivial) (by trivial)) (pgs_cons (@pg_name _ _ 10 _ sc_law_move.nd rfl (by trivial) (by trivial)) (pgs_cons (@pg_name _ _ 11 _ sc_law_move.nd rfl (by trivial) (by trivial)) pgs_nil))) (by rfl) (by rfl) (by rfl)) (gt_tup (.inr rfl) (gts_cons (.inr rfl) gt_U (gts_cons (.inr rfl) gt_U (gts_cons (.inr rfl) gt_U gts_nil)))) (q_cons (q_setF (i:=12) sc_law_move.nd rfl (by trivial) (q_cb (call_sumL rfl) (b_ints (g:=gSum)) (by rfl) (bl Y).sum_ bt_sum (q_acons (q_CB (q_FC (q_compn (show CompScope (defScope (top 21)) _ ["_law_cell", "_law_turn", "_law_weights_here", "_law_groups_here", "_law_many", "_law_xs", "_law_top", "_law_take", "_law_put", "_law_low", "_law_high", "_law_head", "_law_drift", "_law_base"] ["_law_cell", "_law_turn", "_law_weights_here", "_law_groups_here", "_law_many", "_law_xs", "_law_top", "_law_take", "_law_put", "_law_low", "_law_high", "_law_head", "_law_drift", "_law_base", "_law_p"] from by trivial) rfl (@q_rng2 _ _ _ _ _ _ _ _ _ _ (by rfl) (bl Y).range_ (q_acons (qv .B 9) (q_acons (qv .B 10) q_anil)) (by rfl) (by rfl)) (fun _ _ _ _=>(@pg_name _ _ 14 _ (by decide +kernel:(["_law_cell", "_law_turn", "_law_weights_here", "_law_groups_here", "_law_many", "_law_xs", "_law_top", "_law_take", "_law_put", "_law_low", "_law_high", "_law_head", "_law_drift", "_law_base", "_law_p"]:List Str).Nodup) rfl (Or.inl rfl) (.inr rfl))) gt_U (gk_name (show 14<=14 by decide)) (fun _ _ _ _=>(q_pif1 (q_tcmp (op_neD (hu64 hr)) (o2_eqD (neg:=true)) (qv .B 14) (qv .B 11)))) (fun _ _ _ _=>(q_op op_mulB (o2_I (C:=CMulB) (g:=gMul) (fun _ _=>rfl) (fun _ _ _=>.int)) (q_UB (q_ixU (qv .B 2) (qv .B 14))) (q_op op_sub xSub (q_UB (q_ixU (qv .B 8) (qv .B 14))) (q_UB (q_ixU (qv .B 7) (qv .B 14))))))))) q_anil)) (by rfl) (by trivial)) (q_cons (q_setV (i:=13) sc_law_move.nd rfl (by trivial) (q_op op_mod (o2_I (C:=cMod) (g:=gMod) (fun _ _=>rfl) (fun _ _ _=>.int)) (q_UB (q_ixU (qv .B 5) (q_op op_add xAdd (q_op op_mulB (o2_I (C:=CMulB) (g:=gMul) (fun _ _=>rfl) (fun _ _ _=>.int)) q_int (qv .B 4)) q_int))) q_int) (by rfl) (by trivial)) (q_cons (@q_set _ _ _ _ _ _ _ _ 7 _ _ _ _ rfl (by trivial) (qv .B 11) (q_op op_add xAdd (qv .B 13) (q_cb (call_max2 rfl) (b_2 (g:=gMax)) (by rfl) (bl Y).max_ bt_max (q_aint (q_acons (q_op op_mulB (o2_I (C:=CMulB) (g:=gMul) (fun _ _=>rfl) (fun _ _ _=>.int)) (qv .B 12) (q_UB (q_ixU (qv .B 2) (qv .B 11)))) q_anil)))) (by decide) (by decide) (@pg_sub _ _ _ _ _ _ _ (@pv _ 7 _ _ (by rfl) (by trivial) (by decide) (by decide)) (qv .B 11) set_list (by intro _; rfl)) (by rfl) (by rfl)) (q_last (@q_set _ _ _ _ _ _ _ _ 8 _ _ _ _ rfl (by trivial) (qv .B 11) (q_op op_add xAdd (qv .B 13) (q_cb (call_max2 rfl) (b_2 (g:=gMax)) (by rfl) (bl Y).max_ bt_max (q_aint (q_acons (q_op op_sub xSub q_int (q_op op_mulB (o2_I (C:=CMulB) (g:=gMul) (fun _ _=>rfl) (fun _ _ _=>.int)) (qv .B 12) (q_UB (q_ixU (qv .B 2) (qv .B 11))))) q_anil)))) (by decide) (by decide) (@pg_sub _ _ _ _ _ _ _ (@pv _ 8 _ _ (by rfl) (by trivial) (by decide) (by decide)) (qv .B 11) set_list (by intro _; rfl)) (by rfl) (by rfl))))))) (q_last (q_ret (q_tup (q_acons (q_FV (q_ct K_tup (b_tup (c:=true)) (by rfl) (bl Y).tuple_ bt_tuple (q_acons (qv .C 7) q_anil))) (q_acons (q_FV (q_ct K_tup (b_tup (c:=true)) (by rfl) (bl Y).tuple_ bt_tuple (q_acons (qv .C 8) q_anil))) q_anil)))))))))))
theorem d_law_sums_up:Def (hk w) mg "_law_sums_up" (top 22) ["_law_basis", "_law_times", "_law_weights_here"] 116 (FD "_law_sums_up" 22 hxM0 115):=dk Y (by kernel_rfl) fun _ _ _ _ _ _=>us3 fun _ _ _=>rfl
theorem ok_law_sums_up:FnOk P w (hk w) mg base CX0 1 116 (FD "_law_sums_up" 22 hxM0 115) ["_law_basis", "_law_times", "_law_weights_here"] (spM (hk w) 3 .F f__law_sums_up):=
 okF (d_law_sums_up Y) sc_law_sums_up (.inl rfl) rfl rfl fun hr=>(q_cons (q_if_ (PW.pt (q_tor (q_tnot (q_val (q_cb call_isi b_isi (by rfl) (bl Y).isinstance_ PyProof.Rows.boot_isinstance (q_acons (qv .B 1) (q_acons (@q_ty _ _ _ _ _ _ _ (by rfl) (bl Y).list_ bt_list (by decide) (by decide)) q_anil))))) (q_tor1 (q_tcmp op_ne o2_neS (q_cb K_len b_len (by rfl) (bl Y).len_ PySem.boot_len (q_acons (qv .B 1) q_anil)) (q_cb K_len b_len (by rfl) (bl Y).len_ PySem.boot_len (q_acons (qv .B 0) q_anil)))))) (q_last (q_ret q_bl)) q_nil) (q_cons (q_for PassesOwn.never rfl (q_rng1 (by rfl) (bl Y).range_ (q_acons (q_cb K_len b_len (by rfl) (bl Y).len_ PySem.boot_len (q_acons (qv .B 2) q_anil)) q_anil)) (@pg_name _ _ 3 _ sc_law_sums_up.nd rfl (by trivial) (by trivial)) gt_U (q_last (q_if_ (q_tcmp op_ne o2_neS (q_cb (call_sumL rfl) (b_ints (g:=gSum)) (by rfl) (bl Y).sum_ bt_sum (q_acons (q_CB (q_FC (q_compn (show CompScope (defScope (top 22)) _ ["_law_basis", "_law_times", "_law_weights_here", "_law_p"] ["_law_basis", "_law_times", "_law_weights_here", "_law_p", "_law_k"] from by trivial) rfl (q_rng1 (by rfl) (bl Y).range_ (q_acons (q_cb K_len b_len (by rfl) (bl Y).len_ PySem.boot_len (q_acons (qv .B 0) q_anil)) q_anil)) (fun _ _ _ _=>(@pg_name _ _ 4 _ (by decide +kernel:(["_law_basis", "_law_times", "_law_weights_here", "_law_p", "_law_k"]:List Str).Nodup) rfl (Or.inl rfl) (.inr rfl))) gt_U (gk_name (show 4<=4 by decide)) (fun _ _ _ _=>q_pifN) (fun _ _ _ _=>(q_op op_mulB (o2_I (C:=CMulB) (g:=gMul) (fun _ _=>rfl) (fun _ _ _=>.int)) (q_UB (q_ixU (qv .B 1) (qv .B 4))) (q_UB (q_ixU (q_UB (q_ixU (qv .B 0) (qv .B 4))) (qv .B 3)))))))) q_anil)) (q_UB (q_ixU (qv .B 2) (qv .B 3)))) (q_last (q_ret q_bl)) q_nil))) (q_last (q_ret q_bl))))
theorem d_law_keeps:Def (hk w) mg "_law_keeps" (top 23) ["_law_moves", "_law_weights_here"] 121 (FD "_law_keeps" 23 hxM0 120):=dk Y (by kernel_rfl) fun _ _ _ _ _ _=>us2 fun _ _=>rfl
theorem ok_law_keeps:FnOk P w (hk w) mg base CX0 1 121 (FD "_law_keeps" 23 hxM0 120) ["_law_moves", "_law_weights_here"] (spM (hk w) 2 .F f__law_keeps):=
 okF (d_law_keeps Y) sc_law_keeps (.inl rfl) rfl rfl fun hr=>(q_cons (q_for PassesOwn.never rfl (q_iSqU (qv .U 0)) (@pg_tupK _ (hk w) _ _ _ _ 2 rfl (pgs_cons (@pg_name _ _ 2 _ sc_law_keeps.nd rfl (by trivial) (by trivial)) (pgs_cons (@pg_name _ _ 3 _ sc_law_keeps.nd rfl (by trivial) (by trivial)) pgs_nil)) (by rfl) (by rfl) (by rfl)) (gt_tup (.inr rfl) (gts_cons (.inr rfl) gt_U (gts_cons (.inr rfl) gt_U gts_nil))) (q_last (q_if_ (q_tcmp op_ne o2_neS (q_cb (call_sumL rfl) (b_ints (g:=gSum)) (by rfl) (bl Y).sum_ bt_sum (q_acons (q_CB (q_FC (q_compn (show CompScope (defScope (top 23)) _ ["_law_moves", "_law_weights_here", "_law_take", "_law_put"] ["_law_moves", "_law_weights_here", "_law_take", "_law_put", "_law_p"] from by trivial) rfl (q_rng1 (by rfl) (bl Y).range_ (q_acons (q_cb K_len b_len (by rfl) (bl Y).len_ PySem.boot_len (q_acons (qv .B 1) q_anil)) q_anil)) (fun _ _ _ _=>(@pg_name _ _ 4 _ (by decide +kernel:(["_law_moves", "_law_weights_here", "_law_take", "_law_put", "_law_p"]:List Str).Nodup) rfl (Or.inl rfl) (.inr rfl))) gt_U (gk_name (show 4<=4 by decide)) (fun _ _ _ _=>q_pifN) (fun _ _ _ _=>(q_op op_mulB (o2_I (C:=CMulB) (g:=gMul) (fun _ _=>rfl) (fun _ _ _=>.int)) (q_UB (q_ixU (qv .B 1) (qv .B 4))) (q_op op_sub xSub (q_UB (q_ixU (qv .B 3) (qv .B 4))) (q_UB (q_ixU (qv .B 2) (qv .B 4))))))))) q_anil)) q_int) (q_last (q_ret q_bl)) q_nil))) (q_last (q_ret q_bl)))
theorem d_law_asked:Def (hk w) mg "_law_asked" (top 24) ["_law_basis", "_law_moves", "_law_weights_here"] 128 (FD "_law_asked" 24 hxM0 127):=dk Y (by kernel_rfl) fun _ _ _ _ _ _=>us3 fun _ _ _=>rfl
theorem ok_law_asked:FnOk P w (hk w) mg base CX0 4 128 (FD "_law_asked" 24 hxM0 127) ["_law_basis", "_law_moves", "_law_weights_here"] (spM (hk w) 3 .F f__law_asked):=
 okF (d_law_asked Y) sc_law_asked (.inl rfl) rfl rfl fun hr=>(q_cons (q_setF (i:=3) sc_law_asked.nd rfl (by trivial) (qcD (okshares Y) (dshares Y) (q_acons (qv .B 0) (q_acons (q_CB (q_FC (q_ct K_tup (b_tup (c:=false)) (by rfl) (bl Y).tuple_ bt_tuple (q_acons (qv .B 2) q_anil)))) q_anil))) (by rfl) (by trivial)) (q_cons (q_if_ (q_val (q_CB (q_FC (qcD (ok_law_keeps Y) (d_law_keeps Y) (q_acons (qv .B 1) (q_acons (qv .B 2) q_anil)))))) (q_last (q_ret (qcD (ok_law_sums_up Y) (d_law_sums_up Y) (q_acons (qv .B 0) (q_acons (qv .B 3) (q_acons (qv .B 2) q_anil)))))) q_nil) (q_last (q_ret (q_cmp op_isN o2_isN (qv .B 3) q_non)))))
theorem d_law_divisor:Def (hk w) mg "_law_divisor" (top 25) ["_law_one", "_law_other"] 135 (FD "_law_divisor" 25 hxM0 134):=dk Y (by kernel_rfl) fun _ _ _ _ _ _=>us2 fun _ _=>rfl
theorem ok_law_divisor:FnOk P w (hk w) mg base CX0 1 135 (FD "_law_divisor" 25 hxM0 134) ["_law_one", "_law_other"] (spM (hk w) 2 .F f__law_divisor):=
 okF (d_law_divisor Y) sc_law_divisor (.inl rfl) rfl rfl fun hr=>(q_cons (q_while PassesOwn.never (q_tcmp op_ne o2_neS (qv .B 1) q_int) (q_last (@q_par _ _ _ 0 1 _ _ _ _ _ _ _ _ _ _ _ _ _ rfl sc_law_divisor.nd rfl rfl (by decide) rfl rfl (q_acons (qv .V 1) (q_acons (q_op op_modZ (o2_I (C:=cModZ) (g:=gMz) (fun _ _=>rfl) (fun _ _ _=>.int)) (qv .B 0) (qv .B 1)) q_anil)) (by rfl) (by rfl)))) (q_last (q_ret (q_cb call_abs b_abs (by rfl) (bl Y).abs_ bt_abs (q_acons (qv .B 0) q_anil)))))
theorem d_law_pairs:Def (hk w) mg "_law_pairs" (top 26) ["_law_drift"] 140 (FD "_law_pairs" 26 hxM0 139):=dk Y (by kernel_rfl) fun _ _ _ _ _ _=>us1 fun _=>rfl
theorem ok_law_pairs:FnOk P w (hk w) mg base CX0 2 140 (FD "_law_pairs" 26 hxM0 139) ["_law_drift"] (spM (hk w) 1 .F f__law_pairs):=
 okF (d_law_pairs Y) sc_law_pairs (.inl rfl) rfl rfl fun hr=>(q_cons (q_setF (i:=1) sc_law_pairs.nd rfl (by trivial) (q_lst q_anil) (by rfl) (by trivial)) (q_cons (q_setF (i:=2) sc_law_pairs.nd rfl (by trivial) (q_cb K_len b_len (by rfl) (bl Y).len_ PySem.boot_len (q_acons (qv .B 0) q_anil)) (by rfl) (by trivial)) (q_cons (q_for PassesOwn.never rfl (q_rng1 (by rfl) (bl Y).range_ (q_acons (qv .B 2) q_anil)) (@pg_name _ _ 3 _ sc_law_pairs.nd rfl (by trivial) (by trivial)) gt_U (q_last (q_for PassesOwn.never rfl (q_rng1 (by rfl) (bl Y).range_ (q_acons (qv .B 3) q_anil)) (@pg_name _ _ 4 _ sc_law_pairs.nd rfl (by trivial) (by trivial)) gt_U (q_cons (q_setF (i:=5) sc_law_pairs.nd rfl (by trivial) (qcD (ok_law_divisor Y) (d_law_divisor Y) (q_acons (q_UB (q_ixU (qv .B 0) (qv .B 4))) (q_acons (q_UB (q_ixU (qv .B 0) (qv .B 3))) q_anil))) (by rfl) (by trivial)) (q_cons (q_setcn (i:=6) (show CompScope (defScope (top 26)) _ ["_law_drift", "_law_found", "_law_many", "_law_q", "_law_p", "_law_share", "_law_weights_here"] ["_law_drift", "_law_found", "_law_many", "_law_q", "_law_p", "_law_share", "_law_weights_here", "_law_k"] from by trivial) rfl (q_rng1 (by rfl) (bl Y).range_ (q_acons (qv .B 2) q_anil)) (fun _ _ _ _=>(@pg_name _ _ 7 _ (by decide +kernel:(["_law_drift", "_law_found", "_law_many", "_law_q", "_law_p", "_law_share", "_law_weights_here", "_law_k"]:List Str).Nodup) rfl (Or.inl rfl) (.inr rfl))) gt_U (gk_name (show 7<=7 by decide)) (fun _ _ _ _=>q_pifN) (fun _ _ _ _=>(q_ct call_int1 b_int (by rfl) (bl Y).int_ bt_int (q_acons (q_cmp (op_eqD (hu64 hr)) (o2_eqD (neg:=false)) (qv .B 7) (qv .B 4)) q_anil))) sc_law_pairs.nd rfl (by trivial)) (q_cons (q_if_ (q_tcmp op_ne o2_neS (qv .B 5) q_int) (q_cons (@q_set _ _ _ _ _ _ _ _ 6 _ _ _ _ rfl (by trivial) (qv .B 4) (q_op op_fdiv (o2_I (C:=CDiv) (g:=gDiv) (fun _ _=>rfl) (fun _ _ _=>.int)) (q_UB (q_ixU (qv .B 0) (qv .B 3))) (qv .B 5)) (by decide) (by decide) (@pg_sub _ _ _ _ _ _ _ (@pv _ 6 _ _ (by rfl) (by trivial) (by decide) (by decide)) (qv .B 4) set_list (by intro _; rfl)) (by rfl) (by rfl)) (q_last (@q_set _ _ _ _ _ _ _ _ 6 _ _ _ _ rfl (by trivial) (qv .B 3) (q_op op_sub xSub q_int (q_op op_fdiv (o2_I (C:=CDiv) (g:=gDiv) (fun _ _=>rfl) (fun _ _ _=>.int)) (q_UB (q_ixU (qv .B 0) (qv .B 4))) (qv .B 5))) (by decide) (by decide) (@pg_sub _ _ _ _ _ _ _ (@pv _ 6 _ _ (by rfl) (by trivial) (by decide) (by decide)) (qv .B 3) set_list (by intro _; rfl)) (by rfl) (by rfl)))) q_nil) (q_last (q_frz (@q_app _ _ _ _ _ _ _ 1 _ _ _ _ rfl (by trivial) (qv .V 6) (by decide) (by decide) (by rfl) (by rfl) (by rfl) (by rfl) (by rfl)))))))))) (q_last (@q_retv _ _ _ _ _ 1 _ _ (.inl rfl) (by rfl) (by trivial) (by decide) (by decide))))))
theorem d_law_alone:Def (hk w) mg "_law_alone" (top 27) ["_law_cell", "_law_many"] 145 (FD "_law_alone" 27 hxM0 144):=dk Y (by kernel_rfl) fun _ _ _ _ _ _=>us2 fun _ _=>rfl
theorem ok_law_alone:FnOk P w (hk w) mg base CX0 7 145 (FD "_law_alone" 27 hxM0 144) ["_law_cell", "_law_many"] (spM (hk w) 2 .F f__law_alone):=
 okF (d_law_alone Y) sc_law_alone (.inl rfl) rfl rfl fun hr=>(q_cons (q_setF (i:=2) sc_law_alone.nd rfl (by trivial) (qcD (ok_law_stream Y) (d_law_stream Y) (q_acons (qv .B 0) (q_aint (q_acons (q_op op_add xAdd (q_op op_mulB (o2_I (C:=CMulB) (g:=gMul) (fun _ _=>rfl) (fun _ _ _=>.int)) q_int (qv .B 1)) q_int) q_anil)))) (by rfl) (by trivial)) (q_cons (q_setV (i:=3) sc_law_alone.nd rfl (by trivial) (q_ixV (q_FC (q_lst (q_aint (q_acons (q_op op_add xAdd (q_op op_pow (o2_I (C:=CPow) (g:=gPow) (fun _ _=>rfl) (fun _ _ _=>.int)) q_int q_int) q_int) q_anil)))) (q_op op_mod (o2_I (C:=cMod) (g:=gMod) (fun _ _=>rfl) (fun _ _ _=>.int)) (q_UB (q_ixU (qv .B 2) (q_op op_mulB (o2_I (C:=CMulB) (g:=gMul) (fun _ _=>rfl) (fun _ _ _=>.int)) q_int (qv .B 1)))) q_int)) (by rfl) (by trivial)) (q_cons (q_setF (i:=4) sc_law_alone.nd rfl (by trivial) (q_ct K_tup (b_tup (c:=true)) (by rfl) (bl Y).tuple_ bt_tuple (q_acons (q_FC (q_compn (show CompScope (defScope (top 27)) _ ["_law_cell", "_law_many", "_law_xs", "_law_top", "_law_take", "_law_put", "_law_basis", "_law_weights_here"] ["_law_cell", "_law_many", "_law_xs", "_law_top", "_law_take", "_law_put", "_law_basis", "_law_weights_here", "_law_x"] from by trivial) rfl (q_iSqB (q_CB (q_FC (@q_sl _ _ _ _ _ _ true _ _ _ _ _ (qv .C 2) q_pN (q_pS (qv .B 1)) (by rfl))))) (fun _ _ _ _=>(@pg_name _ _ 8 _ (by decide +kernel:(["_law_cell", "_law_many", "_law_xs", "_law_top", "_law_take", "_law_put", "_law_basis", "_law_weights_here", "_law_x"]:List Str).Nodup) rfl (Or.inl rfl) (.inr rfl))) gt_U (gk_name (show 8<=8 by decide)) (fun _ _ _ _=>q_pifN) (fun _ _ _ _=>(q_op op_mulB (o2_I (C:=CMulB) (g:=gMul) (fun _ _=>rfl) (fun _ _ _=>.int)) (q_op op_mod (o2_I (C:=cMod) (g:=gMod) (fun _ _=>rfl) (fun _ _ _=>.int)) (q_op op_fdiv (o2_I (C:=CDiv) (g:=gDiv) (fun _ _=>rfl) (fun _ _ _=>.int)) (qv .B 8) q_int) (qv .B 3)) (q_ct call_int1 b_int (by rfl) (bl Y).int_ bt_int (q_acons (q_cmp op_gt xGt (q_op op_mod (o2_I (C:=cMod) (g:=gMod) (fun _ _=>rfl) (fun _ _ _=>.int)) (qv .B 8) q_int) q_int) q_anil)))))) q_anil)) (by rfl) (by trivial)) (q_cons (q_setF (i:=5) sc_law_alone.nd rfl (by trivial) (q_ct K_tup (b_tup (c:=true)) (by rfl) (bl Y).tuple_ bt_tuple (q_acons (q_FC (q_compn (show CompScope (defScope (top 27)) _ ["_law_cell", "_law_many", "_law_xs", "_law_top", "_law_take", "_law_put", "_law_basis", "_law_weights_here"] ["_law_cell", "_law_many", "_law_xs", "_law_top", "_law_take", "_law_put", "_law_basis", "_law_weights_here", "_law_x"] from by trivial) rfl (q_iSqB (q_CB (q_FC (@q_sl _ _ _ _ _ _ true _ _ _ _ _ (qv .C 2) (q_pS (qv .B 1)) (q_pS (q_op op_mulB (o2_I (C:=CMulB) (g:=gMul) (fun _ _=>rfl) (fun _ _ _=>.int)) q_int (qv .B 1))) (by rfl))))) (fun _ _ _ _=>(@pg_name _ _ 8 _ (by decide +kernel:(["_law_cell", "_law_many", "_law_xs", "_law_top", "_law_take", "_law_put", "_law_basis", "_law_weights_here", "_law_x"]:List Str).Nodup) rfl (Or.inl rfl) (.inr rfl))) gt_U (gk_name (show 8<=8 by decide)) (fun _ _ _ _=>q_pifN) (fun _ _ _ _=>(q_op op_mulB (o2_I (C:=CMulB) (g:=gMul) (fun _ _=>rfl) (fun _ _ _=>.int)) (q_op op_mod (o2_I (C:=cMod) (g:=gMod) (fun _ _=>rfl) (fun _ _ _=>.int)) (q_op op_fdiv (o2_I (C:=CDiv) (g:=gDiv) (fun _ _=>rfl) (fun _ _ _=>.int)) (qv .B 8) q_int) (qv .B 3)) (q_ct call_int1 b_int (by rfl) (bl Y).int_ bt_int (q_acons (q_cmp op_gt xGt (q_op op_mod (o2_I (C:=cMod) (g:=gMod) (fun _ _=>rfl) (fun _ _ _=>.int)) (qv .B 8) q_int) q_int) q_anil)))))) q_anil)) (by rfl) (by trivial)) (q_cons (q_setF (i:=6) sc_law_alone.nd rfl (by trivial) (qcD (okbalances Y) (dbalances Y) (q_acons (q_UB (q_tupU (q_acons (q_tupU (q_acons (qv .U 4) (q_acons (qv .U 5) q_anil))) q_anil))) (q_acons (qv .B 1) q_anil))) (by rfl) (by trivial)) (q_cons (q_for PassesOwn.never rfl (q_iSqU (q_VU (q_FV (qcD (ok_law_pairs Y) (d_law_pairs Y) (q_acons (q_CB (q_FC (q_compn (show CompScope (defScope (top 27)) _ ["_law_cell", "_law_many", "_law_xs", "_law_top", "_law_take", "_law_put", "_law_basis", "_law_weights_here"] ["_law_cell", "_law_many", "_law_xs", "_law_top", "_law_take", "_law_put", "_law_basis", "_law_weights_here", "_law_p"] from by trivial) rfl (q_rng1 (by rfl) (bl Y).range_ (q_acons (qv .B 1) q_anil)) (fun _ _ _ _=>(@pg_name _ _ 8 _ (by decide +kernel:(["_law_cell", "_law_many", "_law_xs", "_law_top", "_law_take", "_law_put", "_law_basis", "_law_weights_here", "_law_p"]:List Str).Nodup) rfl (Or.inl rfl) (.inr rfl))) gt_U (gk_name (show 8<=8 by decide)) (fun _ _ _ _=>q_pifN) (fun _ _ _ _=>(q_op op_sub xSub (q_UB (q_ixU (qv .B 5) (qv .B 8))) (q_UB (q_ixU (qv .B 4) (qv .B 8)))))))) q_anil))))) (@pg_name _ _ 7 _ sc_law_alone.nd rfl (by trivial) (by trivial)) gt_U (q_last (q_if_ (q_tnot (q_val (q_CB (q_FC (qcD (ok_law_sums_up Y) (d_law_sums_up Y) (q_acons (qv .B 6) (q_acons (q_CB (q_FC (qcD (okshares Y) (dshares Y) (q_acons (qv .B 6) (q_acons (q_CB (q_FC (q_ct K_tup (b_tup (c:=false)) (by rfl) (bl Y).tuple_ bt_tuple (q_acons (qv .B 7) q_anil)))) q_anil))))) (q_acons (qv .B 7) q_anil)))))))) (q_last (q_ret q_bl)) q_nil))) (q_last (q_ret q_bl))))))))
theorem dlaw:Def (hk w) mg "law" (top 28) ["_law_script"] 150 (FD "law" 28 hxM0 149):=dk Y (by kernel_rfl) fun _ _ _ _ _ _=>us1 fun _=>rfl
theorem oklaw:FnOk P w (hk w) mg base CX0 8 150 (FD "law" 28 hxM0 149) ["_law_script"] (spM (hk w) 1 .F f_law):=
 okF (dlaw Y) sclaw (.inl rfl) rfl rfl fun hr=>(q_cons (q_setF (i:=1) sclaw.nd rfl (by trivial) (qcD (ok_law_cell_at Y) (d_law_cell_at Y) (q_acons (qv .B 0) (q_aint q_anil))) (by rfl) (by trivial)) (q_cons (q_setV (i:=2) sclaw.nd rfl (by trivial) (q_op op_add xAdd q_int (q_op op_mod (o2_I (C:=cMod) (g:=gMod) (fun _ _=>rfl) (fun _ _ _=>.int)) (qv .B 1) q_int)) (by rfl) (by trivial)) (q_cons (q_setF (i:=3) sclaw.nd rfl (by trivial) (qcD (ok_law_groups Y) (d_law_groups Y) (q_acons (q_CB (q_FC (qcD (ok_law_cell_at Y) (d_law_cell_at Y) (q_acons (qv .B 0) (q_aint q_anil))))) (q_acons (qv .B 2) q_anil))) (by rfl) (by trivial)) (q_cons (q_setF (i:=4) sclaw.nd rfl (by trivial) (qcD (ok_law_weights Y) (d_law_weights Y) (q_acons (q_CB (q_FC (qcD (ok_law_cell_at Y) (d_law_cell_at Y) (q_acons (qv .B 0) (q_aint q_anil))))) (q_acons (qv .B 2) (q_acons (qv .B 3) q_anil)))) (by rfl) (by trivial)) (q_cons (q_setV (i:=5) sclaw.nd rfl (by trivial) (q_op op_mod (o2_I (C:=cMod) (g:=gMod) (fun _ _=>rfl) (fun _ _ _=>.int)) (q_op op_add xAdd (q_op op_fdiv (o2_I (C:=CDiv) (g:=gDiv) (fun _ _=>rfl) (fun _ _ _=>.int)) (qv .B 1) q_int) q_int) q_int) (by rfl) (by trivial)) (q_cons (q_setF (i:=6) sclaw.nd rfl (by trivial) (q_ct K_tup (b_tup (c:=true)) (by rfl) (bl Y).tuple_ bt_tuple (q_acons (q_FC (q_compn (show CompScope (defScope (top 28)) _ ["_law_script", "_law_first", "_law_many", "_law_groups_here", "_law_weights_here", "_law_count", "_law_moves", "_law_basis", "_law_cut", "_law_low", "_law_high", "_law_cell", "_law_wide", "_law_one", "_law_two", "_law_mixed", "_law_other"] ["_law_script", "_law_first", "_law_many", "_law_groups_here", "_law_weights_here", "_law_count", "_law_moves", "_law_basis", "_law_cut", "_law_low", "_law_high", "_law_cell", "_law_wide", "_law_one", "_law_two", "_law_mixed", "_law_other", "_law_k"] from by trivial) rfl (q_rng1 (by rfl) (bl Y).range_ (q_acons (qv .B 5) q_anil)) (fun _ _ _ _=>(@pg_name _ _ 17 _ (by decide +kernel:(["_law_script", "_law_first", "_law_many", "_law_groups_here", "_law_weights_here", "_law_count", "_law_moves", "_law_basis", "_law_cut", "_law_low", "_law_high", "_law_cell", "_law_wide", "_law_one", "_law_two", "_law_mixed", "_law_other", "_law_k"]:List Str).Nodup) rfl (Or.inl rfl) (.inr rfl))) gt_U (gk_name (show 17<=17 by decide)) (fun _ _ _ _=>q_pifN) (fun _ _ _ _=>(q_FV (qcD (ok_law_move Y) (d_law_move Y) (q_acons (q_CB (q_FC (qcD (ok_law_cell_at Y) (d_law_cell_at Y) (q_acons (qv .B 0) (q_acons (q_op op_add xAdd q_int (qv .B 17)) q_anil))))) (q_acons (qv .B 17) (q_acons (qv .B 4) (q_acons (qv .B 3) q_anil))))))))) q_anil)) (by rfl) (by trivial)) (q_cons (q_setF (i:=7) sclaw.nd rfl (by trivial) (qcD (okbalances Y) (dbalances Y) (q_acons (qv .B 6) (q_acons (qv .B 2) q_anil))) (by rfl) (by trivial)) (q_cons (q_setV (i:=8) sclaw.nd rfl (by trivial) (q_ixV (q_VC (q_ixV (qv .C 3) q_int)) q_int) (by rfl) (by trivial)) (q_cons (q_setF (i:=9) sclaw.nd rfl (by trivial) (q_op op_cat (o2_cat (c:=true)) (q_FC (@q_sl _ _ _ _ _ _ true _ _ _ _ _ (qv .C 4) q_pN (q_pS (qv .B 8)) (by rfl))) (q_FC (q_compn (show CompScope (defScope (top 28)) _ ["_law_script", "_law_first", "_law_many", "_law_groups_here", "_law_weights_here", "_law_count", "_law_moves", "_law_basis", "_law_cut", "_law_low", "_law_high", "_law_cell", "_law_wide", "_law_one", "_law_two", "_law_mixed", "_law_other"] ["_law_script", "_law_first", "_law_many", "_law_groups_here", "_law_weights_here", "_law_count", "_law_moves", "_law_basis", "_law_cut", "_law_low", "_law_high", "_law_cell", "_law_wide", "#_law_one", "_law_two", "_law_mixed", "_law_other", "_law_one"] from by trivial) rfl (q_iSqB (q_CB (q_FC (@q_sl _ _ _ _ _ _ true _ _ _ _ _ (qv .C 4) (q_pS (qv .B 8)) q_pN (by rfl))))) (fun _ _ _ _=>(@pg_name _ _ 17 _ (by decide +kernel:(["_law_script", "_law_first", "_law_many", "_law_groups_here", "_law_weights_here", "_law_count", "_law_moves", "_law_basis", "_law_cut", "_law_low", "_law_high", "_law_cell", "_law_wide", "#_law_one", "_law_two", "_law_mixed", "_law_other", "_law_one"]:List Str).Nodup) rfl (Or.inl rfl) (.inr rfl))) gt_U (gk_name (show 17<=17 by decide)) (fun _ _ _ _=>q_pifN) (fun _ _ _ _=>q_int)))) (by rfl) (by trivial)) (q_cons (q_setF (i:=10) sclaw.nd rfl (by trivial) (q_compn (show CompScope (defScope (top 28)) _ ["_law_script", "_law_first", "_law_many", "_law_groups_here", "_law_weights_here", "_law_count", "_law_moves", "_law_basis", "_law_cut", "_law_low", "_law_high", "_law_cell", "_law_wide", "_law_one", "_law_two", "_law_mixed", "_law_other"] ["_law_script", "_law_first", "_law_many", "_law_groups_here", "_law_weights_here", "_law_count", "_law_moves", "_law_basis", "_law_cut", "_law_low", "_law_high", "_law_cell", "_law_wide", "_law_one", "_law_two", "_law_mixed", "_law_other", "_law_p"] from by trivial) rfl (q_rng1 (by rfl) (bl Y).range_ (q_acons (qv .B 2) q_anil)) (fun _ _ _ _=>(@pg_name _ _ 17 _ (by decide +kernel:(["_law_script", "_law_first", "_law_many", "_law_groups_here", "_law_weights_here", "_law_count", "_law_moves", "_law_basis", "_law_cut", "_law_low", "_law_high", "_law_cell", "_law_wide", "_law_one", "_law_two", "_law_mixed", "_law_other", "_law_p"]:List Str).Nodup) rfl (Or.inl rfl) (.inr rfl))) gt_U (gk_name (show 17<=17 by decide)) (fun _ _ _ _=>q_pifN) (fun _ _ _ _=>(q_op op_sub xSub (q_UB (q_ixU (qv .B 4) (qv .B 17))) (q_UB (q_ixU (qv .B 9) (qv .B 17)))))) (by rfl) (by trivial)) (q_cons (q_frz (q_for PassesOwn.never rfl (q_iSqU (q_VU (q_FV (q_op op_cat (o2_cat (c:=false)) (q_CB (q_FC (q_lst (q_aint (q_acons (qv .V 1) q_anil))))) (q_CB (q_FC (@q_sl _ _ _ _ _ _ false _ _ _ _ _ (qv .B 0) (q_pS q_int) (q_pS q_int) (by rfl)))))))) (@pg_name _ _ 11 _ sclaw.nd rfl (by trivial) (by trivial)) gt_U (q_cons (q_setV (i:=12) sclaw.nd rfl (by trivial) (q_ixV (q_FC (q_lst (q_aint (q_acons (q_op op_pow (o2_I (C:=CPow) (g:=gPow) (fun _ _=>rfl) (fun _ _ _=>.int)) q_int q_int) q_anil)))) (q_op op_mod (o2_I (C:=cMod) (g:=gMod) (fun _ _=>rfl) (fun _ _ _=>.int)) (qv .B 11) q_int)) (by rfl) (by trivial)) (q_cons (q_setV (i:=13) sclaw.nd rfl (by trivial) (q_op op_sub xSub (q_op op_mod (o2_I (C:=cMod) (g:=gMod) (fun _ _=>rfl) (fun _ _ _=>.int)) (q_op op_fdiv (o2_I (C:=CDiv) (g:=gDiv) (fun _ _=>rfl) (fun _ _ _=>.int)) (qv .B 11) q_int) (q_op op_add xAdd (q_op op_mulB (o2_I (C:=CMulB) (g:=gMul) (fun _ _=>rfl) (fun _ _ _=>.int)) q_int (qv .B 12)) q_int)) (qv .B 12)) (by rfl) (by trivial)) (q_cons (q_setV (i:=14) sclaw.nd rfl (by trivial) (q_op op_sub xSub (q_op op_mod (o2_I (C:=cMod) (g:=gMod) (fun _ _=>rfl) (fun _ _ _=>.int)) (q_op op_fdiv (o2_I (C:=CDiv) (g:=gDiv) (fun _ _=>rfl) (fun _ _ _=>.int)) (qv .B 11) q_int) q_int) q_int) (by rfl) (by trivial)) (q_cons (q_setF (i:=15) sclaw.nd rfl (by trivial) (q_compn (show CompScope (defScope (top 28)) _ ["_law_script", "_law_first", "_law_many", "_law_groups_here", "_law_weights_here", "_law_count", "_law_moves", "_law_basis", "_law_cut", "_law_low", "_law_high", "_law_cell", "_law_wide", "_law_one", "_law_two", "_law_mixed", "_law_other"] ["_law_script", "_law_first", "_law_many", "_law_groups_here", "_law_weights_here", "_law_count", "_law_moves", "_law_basis", "_law_cut", "_law_low", "_law_high", "_law_cell", "_law_wide", "_law_one", "_law_two", "_law_mixed", "_law_other", "_law_p"] from by trivial) rfl (q_rng1 (by rfl) (bl Y).range_ (q_acons (qv .B 2) q_anil)) (fun _ _ _ _=>(@pg_name _ _ 17 _ (by decide +kernel:(["_law_script", "_law_first", "_law_many", "_law_groups_here", "_law_weights_here", "_law_count", "_law_moves", "_law_basis", "_law_cut", "_law_low", "_law_high", "_law_cell", "_law_wide", "_law_one", "_law_two", "_law_mixed", "_law_other", "_law_p"]:List Str).Nodup) rfl (Or.inl rfl) (.inr rfl))) gt_U (gk_name (show 17<=17 by decide)) (fun _ _ _ _=>q_pifN) (fun _ _ _ _=>(q_op op_add xAdd (q_op op_mulB (o2_I (C:=CMulB) (g:=gMul) (fun _ _=>rfl) (fun _ _ _=>.int)) (qv .B 13) (q_UB (q_ixU (qv .B 9) (qv .B 17)))) (q_op op_mulB (o2_I (C:=CMulB) (g:=gMul) (fun _ _=>rfl) (fun _ _ _=>.int)) (qv .B 14) (q_UB (q_ixU (qv .B 10) (qv .B 17))))))) (by rfl) (by trivial)) (q_cons (q_setcn (i:=16) (show CompScope (defScope (top 28)) _ ["_law_script", "_law_first", "_law_many", "_law_groups_here", "_law_weights_here", "_law_count", "_law_moves", "_law_basis", "_law_cut", "_law_low", "_law_high", "_law_cell", "_law_wide", "_law_one", "_law_two", "_law_mixed", "_law_other"] ["_law_script", "_law_first", "_law_many", "_law_groups_here", "_law_weights_here", "_law_count", "_law_moves", "_law_basis", "_law_cut", "_law_low", "_law_high", "_law_cell", "_law_wide", "_law_one", "_law_two", "_law_mixed", "_law_other", "_law_p"] from by trivial) rfl (q_rng1 (by rfl) (bl Y).range_ (q_acons (qv .B 2) q_anil)) (fun _ _ _ _=>(@pg_name _ _ 17 _ (by decide +kernel:(["_law_script", "_law_first", "_law_many", "_law_groups_here", "_law_weights_here", "_law_count", "_law_moves", "_law_basis", "_law_cut", "_law_low", "_law_high", "_law_cell", "_law_wide", "_law_one", "_law_two", "_law_mixed", "_law_other", "_law_p"]:List Str).Nodup) rfl (Or.inl rfl) (.inr rfl))) gt_U (gk_name (show 17<=17 by decide)) (fun _ _ _ _=>q_pifN) (fun _ _ _ _=>(q_op op_add xAdd (q_UB (q_ixU (qv .B 15) (qv .B 17))) (q_ct call_int1 b_int (by rfl) (bl Y).int_ bt_int (q_acons (q_cmp op_eq o2_eqS (qv .B 17) (q_op op_mod (o2_I (C:=cMod) (g:=gMod) (fun _ _=>rfl) (fun _ _ _=>.int)) (q_op op_fdiv (o2_I (C:=CDiv) (g:=gDiv) (fun _ _=>rfl) (fun _ _ _=>.int)) (qv .B 11) q_int) (qv .B 2))) q_anil)))) sclaw.nd rfl (by trivial)) (q_last (q_if_ (PW.pt (q_tor (q_tnot (q_val (q_CB (q_FC (qcD (ok_law_sums_up Y) (d_law_sums_up Y) (q_acons (qv .B 7) (q_acons (q_CB (q_FC (qcD (okshares Y) (dshares Y) (q_acons (qv .B 7) (q_acons (q_CB (q_FC (q_ct K_tup (b_tup (c:=true)) (by rfl) (bl Y).tuple_ bt_tuple (q_acons (qv .C 15) q_anil)))) q_anil))))) (q_acons (qv .B 15) q_anil)))))))) (q_tor1 (q_tnot (q_val (q_CB (q_FC (qcD (ok_law_asked Y) (d_law_asked Y) (q_acons (qv .B 7) (q_acons (qv .B 6) (q_acons (qv .B 16) q_anil))))))))))) (q_last (q_ret q_bl)) q_nil))))))))) (q_cons (q_if_ (PW.pt (q_tor (q_tnot (q_val (q_CB (q_FC (qcD (ok_law_asked Y) (d_law_asked Y) (q_acons (qv .B 7) (q_acons (qv .B 6) (q_acons (qv .B 9) q_anil)))))))) (q_tor1 (q_tnot (q_val (q_CB (q_FC (qcD (ok_law_asked Y) (d_law_asked Y) (q_acons (qv .B 7) (q_acons (qv .B 6) (q_acons (qv .B 10) q_anil))))))))))) (q_last (q_ret q_bl)) q_nil) (q_last (q_ret (qcD (ok_law_alone Y) (d_law_alone Y) (q_acons (q_CB (q_FC (qcD (ok_law_cell_at Y) (d_law_cell_at Y) (q_acons (qv .B 0) (q_aint q_anil))))) (q_acons (qv .B 2) q_anil)))))))))))))))))
end
def spLaw (K:Frag):Sp:=fun vs H Q _=>∃ (a:Addr) (ns:List Int),vs = [.ref a]/\SqL K H a (ns.map V.int)/\ns.length<=63/\(∀ x∈ns,Builtin.Int.intBits x<=1048576)/\∀ H',Q (.bl true) H'
theorem all_ {l:PySem.W.OpenLaw} {w:World} {mg:Str->Option Value} {fa:Addr} (Y:En w mg) (hp:∀ ns:List Int,ns.length<=63->(∀ x∈ns,Builtin.Int.intBits x<=1048576)->f_law [.scr (ns.map W.int)]=.ok (.bl true)) (e:mg "law" = some (.ref fa)):∃ fd:FuncData,(∀ (s:Shared) (v:Value),BindsTo s fd ⟨[v],[]⟩ [("_law_script",v)])/\∀ base:Heap,(hk w).In base->base.Ns mainGlobals mg->FnOk l.prog w (hk w) mg base CX0 8 fa fd ["_law_script"] (spLaw (hk w)):=by
 cases e.symm.trans (dlaw Y).m
 exact ⟨FD "law" 28 hxM0 149,fun s v=>.of_eq rfl,fun base _ _=>law_ofB (oklaw Y) hp⟩
end K56
open PySem PySem.W PyProof.Rows
namespace K56
def hxas:List Addr:=[2,3,18,19,23,24,28,29,33,34,38,39,43,44,50,51,57,58,62,63,69,70,74,75,79,80,86,87,93,94,100,101,105,106,110,111,115,116,120,121,127,128,134,135,139,140,144,145,149,150]
def view:Program:={ PySem.Challenge.pw_tokenmoor_k56_whole_each_balance_is_a_su with main:={ PySem.Challenge.pw_tokenmoor_k56_whole_each_balance_is_a_su.main with body:=[1,3,5,7,8,9,10,11,12,13,14,15,17,18,19,20,21,22,23,24,25,26,27,28].map top } }
def hook:PySem.W.Hook:=PySem.W.kHook hxheap hxas (fun _=>by kernel_rfl)
end K56
set_option maxHeartbeats 0 in
theorem PySem.Challenge.cw_tokenmoor_k56_whole_each_balance_is_a_su_holds : PySem.Challenge.rw_tokenmoor_k56_whole_each_balance_is_a_su.Holds := by
 w_on; o_law
 refine holds_open (q:=K56.view) (loose:=[]) (Xt:=fun s=>xlAt K56.view [] s&&recOk [] s) (XP:=XL K56.view [])
  (Yf:=K56.hook.obs) (Ya:=K56.hook.val) (YP:=K56.hook.says) (N:=1558) ?hl K56.hook.of K56.hook.keeps
  (fun s e=>xl_of s (Bool.and_eq_true_iff.mp e).1) XL.keeps (by rfl) (by rfl) (by rfl)
  (fun s e=>recFacts_of (Bool.and_eq_true_iff.mp e).2) (by rfl) (by first | assumption | decide +kernel)
  (by decide +kernel) ⟨rfl,rfl,rfl,rfl,rfl,by decide +kernel⟩ ?hw ?hc
 (case hl=>intro w; kernel_rfl)
 (case hw=>w_witness2)
 refine L2.walk_ofKB (l:=PySem.Challenge.rw_tokenmoor_k56_whole_each_balance_is_a_su) (n:=63) (k:=8) (x := "_law_script") (CX:=L2.CX0) (sp:=K56.spLaw) rfl (by decide) rfl ⟨rfl,by decide,by decide⟩ (fun w h Y=>PySem.W.kIn_of Y)
  (fun w mg fa h X G e=>K56.all_ ⟨h,X,G⟩ K56.law_pure e)
  (fun K H a ns hl hb hO hS=>⟨a,ns,rfl,hS,hl,hb,fun _=>rfl⟩) fun _ _ _ _ z=>z
