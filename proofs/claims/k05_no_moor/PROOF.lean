import PyProof.Rows.All
import Wide.All
import OpenK.AllK
import Wide.FinOn
import Lean
import PyProof.EqAt
import PyProof.EqKinds
import PyProof.TupleCall
import PyProof.ZipIter
import PyProof.TupleIter
import PyProof.WalksMore
import PyProof.EnumMake
import PyProof.Draws
import PyProof.P3In
import KE.KSortTup
import PyProof.Rows.SortWalk
import KE.IntBitsLaws
import KE.KRevIter
import PyProof.TupleOfGen
import PyProof.Rows.FStr
import PySem.Challenge.RW_tokenmoor_k05_no_moor
open PySem.W (Frag)
set_option Elab.async false
set_option linter.all false
set_option maxRecDepth 100000
theorem Z1 {p q:Prop} (a:p) (b:q):p/\q:=⟨a,b⟩
noncomputable section
local macro_rules | `(tactic| omega)=>`(tactic| first | with_reducible assumption | decide | lia)
set_option genSizeOf false
set_option genSizeOfSpec false
namespace L2
open PySem PySem.Spec PyProof.Rows
abbrev Key:=Sum Int Str
def keyIs:Key->Value->Bool
 | .inl k,v=>Value.isInt k v
 | .inr x,v=>Value.isStrOf x v
def keyH (w:World):Key->Int
 | .inl k=>hashInt k
 | .inr x=>hashStr w x
theorem keyIs_shape:∀ {k:Key} {v:Value},keyIs k v=true->(∃ i t,k=Sum.inl i/\v=Value.int i t)\/(∃ x t,k=Sum.inr x/\v=Value.str x t)
 | .inl i,v,h=>by
  obtain ⟨t,e⟩:=Value.isInt_shape (k:=i) (v:=v) h
  exact .inl ⟨i,t,rfl,e⟩
 | .inr x,v,h=>by
  obtain ⟨t,e⟩:=Value.isStrOf_shape (x:=x) (v:=v) h
  exact .inr ⟨x,t,rfl,e⟩
theorem keyIs_int (i:Int) (t:Tok):keyIs (.inl i) (.int i t)=true:=by simp [keyIs,Value.isInt]
theorem keyIs_str (x:Str) (t:Tok):keyIs (.inr x) (.str x t)=true:=by simp [keyIs,Value.isStrOf]
theorem key_ll (a b:Int):decide ((Sum.inl a:Key)=Sum.inl b)=(a == b):=by
 by_cases e:a=b
 ·subst e; simp
 ·have h:¬ (Sum.inl a:Key)=Sum.inl b:=fun q=>e (Sum.inl.inj q)
  rw [decide_eq_false h]
  exact (beq_eq_false_iff_ne.mpr e).symm
theorem key_rr (a b:Str):decide ((Sum.inr a:Key)=Sum.inr b)=decide (a=b):=by
 by_cases e:a=b
 ·subst e; simp
 ·have h:¬ (Sum.inr a:Key)=Sum.inr b:=fun q=>e (Sum.inr.inj q)
  rw [decide_eq_false h,decide_eq_false e]
theorem key_lr (a:Int) (b:Str):decide ((Sum.inl a:Key)=Sum.inr b)=false:=decide_eq_false (fun q=>nomatch q)
theorem key_rl (a:Str) (b:Int):decide ((Sum.inr a:Key)=Sum.inl b)=false:=decide_eq_false (fun q=>nomatch q)
def mixKind (prog:Program) (w:World):PySem.KeyKind prog w Key where
 is:=keyIs
 hash:=keyH w
 inj:=fun v a b ha hb=>by
  rcases keyIs_shape ha with ⟨i,t,rfl,rfl⟩ | ⟨x,t,rfl,rfl⟩
  ·rcases keyIs_shape hb with ⟨j,u,rfl,e⟩ | ⟨y,u,rfl,e⟩
   ·injection e with e1 _; rw [e1]
   ·exact nomatch e
  ·rcases keyIs_shape hb with ⟨j,u,rfl,e⟩ | ⟨y,u,rfl,e⟩
   ·exact nomatch e
   ·injection e with e1 _; rw [e1]
 byValue:=fun k v h=>by
  rcases keyIs_shape h with ⟨i,t,rfl,rfl⟩ | ⟨x,t,rfl,rfl⟩ <;> rfl
 pyHash:=fun hv h=>by
  rcases keyIs_shape hv with ⟨i,t,rfl,rfl⟩ | ⟨x,t,rfl,rfl⟩
  ·exact wpAny_pyHash_int h
  ·exact wpAny_pyHash_str h
 eqBool:=fun hu hv h=>by
  rcases keyIs_shape hu with ⟨i,t,rfl,rfl⟩ | ⟨x,t,rfl,rfl⟩
  ·rcases keyIs_shape hv with ⟨j,u,rfl,rfl⟩ | ⟨y,u,rfl,rfl⟩
   ·rw [key_ll] at h; exact wpAny_eqBool_int h
   ·rw [key_lr] at h; exact SeqAt.EqAt.int_str i t y u _ _ _ _ h
  ·rcases keyIs_shape hv with ⟨j,u,rfl,rfl⟩ | ⟨y,u,rfl,rfl⟩
   ·rw [key_rl] at h; exact SeqAt.EqAt.str_int x t j u _ _ _ _ h
   ·rw [key_rr] at h; exact wpAny_eqBool_str h
 «strs»:=fun k x t v h=>by
  rcases keyIs_shape h with ⟨i,u,rfl,e⟩ | ⟨y,u,rfl,e⟩
  ·exact nomatch e
  ·injection e with e1 _
   subst e1
   cases v <;> rfl
theorem mixKind_int (prog:Program) (w:World) (i:Int) (t:Tok):(mixKind prog w).is (.inl i) (.int i t)=true:=keyIs_int i t
theorem mixKind_str (prog:Program) (w:World) (x:Str) (t:Tok):(mixKind prog w).is (.inr x) (.str x t)=true:=keyIs_str x t
end L2
namespace L2
open PySem PySem.Spec PyProof.Rows
inductive V where
 | non | bl (b:Bool) | int (i:Int) | str (x:Str) | byt (b:Array UInt8) | flt (b:UInt64) | ref (a:Addr) | ty (n:String)
 deriving DecidableEq
def RelV:V->Value->Prop
 | .non,u=>u=Value.none
 | .bl b,u=>u=Value.bool b
 | .int i,u=>∃ t,u=Value.int i t
 | .str x,u=>∃ t,u=Value.str x t
 | .byt b,u=>∃ t,u=Value.bytes b t
 | .flt b,u=>∃ t,u=Value.float b t
 | .ref a,u=>u=Value.ref a
 | .ty n,u=>u=Value.type n
abbrev Vals:List V->List Value->Prop:=Paired RelV
theorem Vals.length {xs:List V} {us:List Value} (r:Vals xs us):xs.length=us.length:=Paired.length r
theorem Vals.get:∀ {xs:List V} {us:List Value} {i:Nat} {x:V},Vals xs us->xs[i]?=some x->∃ u,us[i]?=some u/\RelV x u:=by
 intro xs us i x a
 induction a generalizing i with
 | nil=>intro e; cases e
 | cons r t ih=>
  intro e
  cases i with
  | zero=>cases e; exact ⟨_,rfl,r⟩
  | succ i=>exact ih e
theorem Vals.set {x:V} {u:Value} (r:RelV x u):∀ {xs:List V} {us:List Value} (i:Nat),Vals xs us->Vals (xs.set i x) (us.set i u):=by
 intro xs us i h
 induction h generalizing i with
 | nil=>exact .nil
 | cons q t ih=>
  cases i with
  | zero=>exact .cons r t
  | succ i=>exact .cons q (ih i)
theorem Vals.append:∀ {xs ys:List V} {us ws:List Value},Vals xs us->Vals ys ws->Vals (xs++ys) (us++ws):=by
 intro xs ys us ws a s
 induction a with
 | nil=>exact s
 | cons r t ih=>exact .cons r ih
theorem Vals.take:∀ {xs:List V} {us:List Value} (n:Nat),Vals xs us->Vals (xs.take n) (us.take n):=by
 intro xs us n h
 induction h generalizing n with
 | nil=>cases n <;> exact .nil
 | cons r t ih=>
  cases n with
  | zero=>exact .nil
  | succ n=>exact .cons r (ih n)
theorem Vals.drop:∀ {xs:List V} {us:List Value} (n:Nat),Vals xs us->Vals (xs.drop n) (us.drop n)
 | _,_,0,r=>r
 | _,_,_+1,.nil=>.nil
 | _,_,n+1,.cons _ t=>Vals.drop n t
def RelO:Option V->Option Value->Prop
 | some v,some u=>RelV v u
 | none,none=>True
 | _,_=>False
def KV {κ:Type}:List (κ×V)->List (κ×Value)->Prop:=Paired fun (p:κ×V) (q:κ×Value)=>p.1=q.1/\RelV p.2 q.2
def kV:Key->V
 | .inl i=>.int i
 | .inr x=>.str x
inductive HO where
 | lst (xs:List V)
 | tup (xs:List V)
 | dK (kvs:List (Key×V)) | dT (kvs:List (List Key×V))
 | set (S:Int->Bool) (n:Nat)
 | ins (C dx:Addr) (fs:List (Str×V))
 | own (x:Addr)
 | xd (fs:List (Str×V))
 | met (f x:Addr)
 | rng (lo hi:Int)
 | frz (o:Obj) (u:HO)
 | tbl (ps:Array Value)
 | ext (φ:Heap->Prop)
abbrev Hp:=Addr->Option HO
def upd (H:Hp) (a:Addr) (o:HO):Hp:=fun b=>if b=a then some o else H b
theorem upd_same {H:Hp} {a:Addr} {o:HO}:upd H a o a=some o:=by unfold upd; rw [if_pos rfl]
theorem upd_ne {H:Hp} {a b:Addr} {o:HO} (h:b≠a):upd H a o b=H b:=by unfold upd; rw [if_neg h]
theorem ne_of_none {H:Hp} {a b:Addr} {o:HO} (h:H a=some o) (h':H b=none):a≠b:=by
 intro e; subst e; rw [h] at h'; cases h'
section
variable (P:Program) (w:World)
def ObjOk (H:Hp) (h:Heap) (a:Addr):HO->Prop
 | .lst xs=>xs.length<=sizeLine/\∃ (its:List Value) (n:Nat),Vals xs its/\h.get? a=some { cls:=.type "list",data:=.seq its.toArray n }
 | .tup xs=>xs.length<=sizeLine/\∃ its:List Value,Vals xs its/\IsTup h a its.toArray
 | .dK kvs=>kvs.length<=sizeLine/\(a == sysModules)=false/\∃ vs,KV kvs vs/\h.DictOf (mixKind P w) a vs
 | .dT kvs=>kvs.length<=sizeLine/\(a == sysModules)=false/\∃ xs:List (List Key×Addr×Value),
   Paired (fun (p:List Key×V) (q:List Key×Addr×Value)=>p.1=q.1/\H q.2.1=some (.tup (p.1.map kV))/\RelV p.2 q.2.2) kvs xs /\
   ∃ o es ep,h.get? a=some o/\o.ExactDict/\o.data=.dict es ep/\es.toList=xs.map (entryOfKey (tupleKind (mixKind P w)))/\(xs.map (·.1)).Nodup
 | .set S n=>h.SetOf (intKind P w) a S n
 | .ins C dx fs=>H dx=some (.own a)/\fs.length<=1000/\dx≠a/\h.get? a=some (PySem.W.instObj C dx) /\
   ∃ mA,h.Ns1 dx mA/\(∀ f,RelO (fs.lookup f) (mA f))/\PySem.Within mA (fs.map (·.1))
 | .own _=>∃ o,h.get? a=some o
 | .xd fs=>∃ mA,h.Ns1 a mA/\∀ f,RelO (fs.lookup f) (mA f)
 | .rng lo hi=>∃ t u v,h.get? a=some { cls:=.type "range",data:=.fields #[.int lo t,.int hi u,.int 1 v] }
 | .frz o u=>h.get? a=some o/\ObjOk H h a u
 | .tbl ps=>h.get? a=some { cls:=.none,data:=.fields ps }
 | .met f x=>h.get? a=some (PySem.W.methodObj (.ref f) (.ref x))
 | .ext φ=>φ h/\(∃ o,h.get? a=some o)/\∀ h1 h2:Heap,φ h1->(∀ o,h1.get? a=some o->h2.get? a=some o)->φ h2
def HOk (H:Hp) (h:Heap):Prop:=∀ a o,H a=some o->ObjOk P w H h a o
end
section
variable {P:Program} {w:World} {H H':Hp} {h h':Heap} {a:Addr} {o:HO}
theorem ObjOk.lt (x:ObjOk P w H h a o):a<h.objs.size:=by
 cases o with
 | lst xs=>obtain ⟨_,_,_,_,e⟩:=x; exact Heap.lt_size e
 | tup xs=>obtain ⟨_,_,_,p⟩:=x; exact p.lt
 | dK kvs=>obtain ⟨_,_,_,_,o,_,_,e,_⟩:=x; exact Heap.lt_size e
 | dT kvs=>obtain ⟨_,_,_,_,o,_,_,e,_⟩:=x; exact Heap.lt_size e
 | set S n=>obtain ⟨o,_,_,_,e,_⟩:=x; exact Heap.lt_size e
 | ins C dx fs=>obtain ⟨_,_,_,e,_⟩:=x; exact Heap.lt_size e
 | own y=>obtain ⟨_,e⟩:=x; exact Heap.lt_size e
 | xd fs=>obtain ⟨_,⟨_,_,_,e,_⟩,_⟩:=x; exact Heap.lt_size e
 | rng lo hi=>obtain ⟨_,_,_,e⟩:=x; exact Heap.lt_size e
 | frz ob u=>obtain ⟨e,_⟩:=x; exact Heap.lt_size e
 | tbl ps=>exact Heap.lt_size (show h.get? a=some _ from x)
 | met f y=>exact Heap.lt_size (show h.get? a=some _ from x)
 | ext φ=>obtain ⟨_,⟨_,e⟩,_⟩:=x; exact Heap.lt_size e
theorem Paired.mapP {α β:Type} {F G:α->β->Prop}:∀ {l₁:List α} {l₂:List β},Paired F l₁ l₂->(∀ a b,F a b->G a b)->Paired G l₁ l₂:=by
 intro l₁ l₂ h f
 induction h with
 | nil=>exact .nil
 | cons r t ih=>exact .cons (f _ _ r) ih
theorem ObjOk.stay (x:ObjOk P w H h a o) (k:∀ b u,(b=a\/H b=some (.own a))->h.get? b=some u->h'.get? b=some u)
  (ho:∀ b,H b=some (.own a)->H' b=some (.own a)) (ht:∀ b xs,H b=some (.tup xs)->H' b=some (.tup xs)):ObjOk P w H' h' a o:=by
 induction o with
 | lst xs=>obtain ⟨z,its,n,r,e⟩:=x; exact ⟨z,its,n,r,k _ _ (.inl rfl) e⟩
 | tup xs=>obtain ⟨z,its,r,ob,e,c⟩:=x; exact ⟨z,its,r,ob,k _ _ (.inl rfl) e,c⟩
 | dK kvs=>obtain ⟨z,y,vs,r,ob,es,ep,e,c⟩:=x; exact ⟨z,y,vs,r,ob,es,ep,k _ _ (.inl rfl) e,c⟩
 | dT kvs=>
  obtain ⟨z,y,xs,r,ob,es,ep,e,c⟩:=x
  exact ⟨z,y,xs,Paired.mapP r fun p q z=>⟨z.1,ht _ _ z.2.1,z.2.2⟩,ob,es,ep,k _ _ (.inl rfl) e,c⟩
 | set S n=>obtain ⟨ob,es,ep,t,e,c⟩:=x; exact ⟨ob,es,ep,t,k _ _ (.inl rfl) e,c⟩
 | ins C dx fs=>
  obtain ⟨d,z,ne,e,mA,⟨od,es,ep,e2,c⟩,r⟩:=x
  exact ⟨ho _ d,z,ne,k _ _ (.inl rfl) e,mA,⟨od,es,ep,k _ _ (.inr d) e2,c⟩,r⟩
 | own y=>obtain ⟨ob,e⟩:=x; exact ⟨ob,k _ _ (.inl rfl) e⟩
 | xd fs=>obtain ⟨mA,⟨od,es,ep,e,c⟩,r⟩:=x; exact ⟨mA,⟨od,es,ep,k _ _ (.inl rfl) e,c⟩,r⟩
 | rng lo hi=>obtain ⟨t,u,v,e⟩:=x; exact ⟨t,u,v,k _ _ (.inl rfl) e⟩
 | frz ob u ih=>obtain ⟨e,q⟩:=x; exact ⟨k _ _ (.inl rfl) e,ih q⟩
 | tbl ps=>
  have e:h.get? a=some { cls:=.none,data:=.fields ps }:=x
  show h'.get? a=some { cls:=.none,data:=.fields ps }
  exact k a _ (.inl rfl) e
 | met f y=>
  have e:h.get? a=some (PySem.W.methodObj (.ref f) (.ref y)):=x
  show h'.get? a=some (PySem.W.methodObj (.ref f) (.ref y))
  exact k a _ (.inl rfl) e
 | ext φ=>obtain ⟨p,⟨o,e⟩,st⟩:=x; exact ⟨st _ _ p fun o q=>k _ _ (.inl rfl) q,⟨o,k _ _ (.inl rfl) e⟩,st⟩
theorem HOk.lt (x:HOk P w H h) (e:H a=some o):a<h.objs.size:=(x a o e).lt
theorem HOk.fresh (x:HOk P w H h) (e:h.objs.size<=a):H a=none:=by
 cases q:H a with
 | none=>rfl
 | some u=>exact absurd (Nat.lt_of_lt_of_le (x.lt q) e) (Nat.lt_irrefl _)
theorem HOk.kept (x:HOk P w H h) (k:∀ b u,h.get? b=some u->h'.get? b=some u):HOk P w H h':=fun a o e=>
 (x a o e).stay (fun b u _ q=>k b u q) (fun _ q=>q) fun _ _ q=>q
theorem HOk.laid (x:HOk P w H h) (k:∀ b u,h.get? b=some u->h'.get? b=some u) (hp:h.objs.size<=a) (new:ObjOk P w (upd H a o) h' a o):HOk P w (upd H a o) h':=fun b u e=>by
 have hn:=x.fresh hp
 by_cases hb:b=a
 ·subst hb; rw [upd_same] at e; cases e; exact new
 ·rw [upd_ne hb] at e
  exact (x b u e).stay (fun c v _ q=>k c v q) (fun c q=>by rw [upd_ne (ne_of_none q hn)]; exact q) fun c xs q=>by rw [upd_ne (ne_of_none q hn)]; exact q
end
def Rd (H:Hp) (a:Addr) (u:HO):Prop:=H a=some u\/∃ o,H a=some (.frz o u)
theorem Rd.ok {P:Program} {w:World} {H:Hp} {h:Heap} {a:Addr} {u:HO} (r:Rd H a u) (x:HOk P w H h):ObjOk P w H h a u:=by
 rcases r with r | ⟨o,r⟩
 ·exact x a u r
 ·obtain ⟨_,q⟩:=x a _ r
  exact q
def Mut:Option HO->Prop
 | some (.lst _)=>True
 | some (.dK _)=>True
 | some (.dT _)=>True
 | some (.set _ _)=>True
 | some (.ins _ _ _)=>True
 | some (.ext _)=>True
 | _=>False
section
variable {P:Program} {w:World} {H:Hp} {h h':Heap} {x e:Addr} {o':HO}
theorem HOk.write (ok:HOk P w H h) (mu:Mut (H x)) (he:e=x\/H e=some (.own x)) (k:∀ b u,b≠e->h.get? b=some u->h'.get? b=some u) (heo:∃ u,h'.get? e=some u)
  (new:ObjOk P w (upd H x o') h' x o'):HOk P w (upd H x o') h':=fun b u q=>by
 have nown:∀ c y,H c=some (.own y)->c≠x:=fun c y r z=>by subst z; rw [r] at mu; exact mu
 have ntup:∀ c xs,H c=some (.tup xs)->c≠x:=fun c xs r z=>by subst z; rw [r] at mu; exact mu
 by_cases hb:b=x
 ·subst hb; rw [upd_same] at q; cases q; exact new
 ·rw [upd_ne hb] at q
  by_cases hbe:b=e
  ·have q':H b=some (.own x):=by
    rcases he with z | z
    ·exact absurd (hbe.trans z) hb
    ·rw [hbe]; exact z
   rw [q] at q'; cases q'
   obtain ⟨v,hv⟩:=heo
   exact ⟨v,by rw [hbe]; exact hv⟩
  ·refine (ok b u q).stay (fun c v hc r=>k c v ?_ r) (fun c r=>by rw [upd_ne (nown c b r)]; exact r) fun c xs r=>by rw [upd_ne (ntup c xs r)]; exact r
   rcases hc with rfl | hc
   ·exact hbe
   ·rintro rfl
    rcases he with z | z
    ·exact nown c b hc z
    ·rw [hc] at z; cases z; exact hb rfl
end
structure Un (fs ex:List Addr) (H H':Hp) (h h':Heap):Prop where
 keep:∀ b o,h.get? b=some o->H b=none->b∉fs->b∉ex->h'.get? b=some o
 slot:∀ b o,h.get? b=some o->H b=none->b∈fs->b∉ex->∃ sl,h'.get? b=some { o with slots:=sl }
 free:∀ b o,h.get? b=some o->H b=none->b∉ex->H' b=none
 there:∀ b o,h.get? b=some o->b∉ex->∃ o',h'.get? b=some o'
 tups:∀ b xs,H b=some (.tup xs)->H' b=some (.tup xs)
 frzs:∀ b o u,H b=some (.frz o u)->H' b=some (.frz o u)
 tbls:∀ b ps,H b=some (.tbl ps)->∃ more,H' b=some (.tbl (ps++more))
section
variable {fs fs' ex ex':List Addr} {H H1 H2:Hp} {h h1 h2 h':Heap} {a x e:Addr} {o:HO}
theorem Un.any (u:Un fs ex H H1 h h1) {b:Addr} {ob:Obj} (q:h.get? b=some ob) (n:H b=none) (hx:b∉ex):∃ sl,h1.get? b=some { ob with slots:=sl }:=by
 by_cases hb:b∈fs
 ·exact u.slot b ob q n hb hx
 ·exact ⟨ob.slots,u.keep b ob q n hb hx⟩
theorem Un.kept (k:∀ b u,h.get? b=some u->h'.get? b=some u):Un fs ex H H h h':=
 ⟨fun b ob q _ _ _=>k b ob q,fun b ob q _ _ _=>⟨ob.slots,k b ob q⟩,fun _ _ _ n _=>n,fun b ob q _=>⟨ob,k b ob q⟩,fun _ _ q=>q,fun _ _ _ q=>q,fun _ ps q=>⟨#[],by rw [q]; simp⟩⟩
theorem Un.refl:Un fs ex H H h h:=Un.kept fun _ _ q=>q
theorem Un.laid (k:∀ b u,h.get? b=some u->h'.get? b=some u) (hp:h.objs.size<=a) (hn:H a=none):Un fs ex H (upd H a o) h h' where
 keep:=fun b u q _ _ _=>k b u q
 slot:=fun b u q _ _ _=>⟨u.slots,k b u q⟩
 free:=fun b u q n _=>by rw [upd_ne (Nat.ne_of_lt (Nat.lt_of_lt_of_le (Heap.lt_size q) hp))]; exact n
 there:=fun b u q _=>⟨u,k b u q⟩
 tups:=fun b xs q=>by rw [upd_ne (ne_of_none q hn)]; exact q
 frzs:=fun b u xs q=>by rw [upd_ne (ne_of_none q hn)]; exact q
 tbls:=fun b ps q=>⟨#[],by rw [upd_ne (ne_of_none q hn),q]; simp⟩
theorem Un.write (mu:Mut (H x)) (he:e=x\/H e=some (.own x)) (k:∀ b u,b≠e->h.get? b=some u->h'.get? b=some u) (heo:∃ u,h'.get? e=some u):Un fs ex H (upd H x o) h h':=by
 have hx:∀ b,H b=none->b≠x:=fun b n z=>by subst z; rw [n] at mu; exact mu
 have hb:∀ b,H b=none->b≠e:=fun b n z=>by
  subst z
  rcases he with r | r
  ·exact hx b n r
  ·rw [n] at r; cases r
 have hm:∀ b u,H b=some u->¬ Mut (some u)->b≠x:=fun b u q nm z=>by subst z; rw [q] at mu; exact nm mu
 refine ⟨fun b u q n _ _=>k b u (hb b n) q,fun b u q n _ _=>⟨u.slots,k b u (hb b n) q⟩,fun b u q n _=>by rw [upd_ne (hx b n)]; exact n,fun b u q _=>?_,
  fun b xs q=>by rw [upd_ne (hm b _ q fun z=>z)]; exact q,fun b u xs q=>by rw [upd_ne (hm b _ q fun z=>z)]; exact q,fun b ps q=>⟨#[],by rw [upd_ne (hm b _ q fun z=>z),q]; simp⟩⟩
 by_cases hbe:b=e
 ·subst hbe; exact heo
 ·exact ⟨u,k b u hbe q⟩
end
def trk (h:Heap) (H:Hp):List Addr:=(List.range h.objs.size).filter fun a=>(H a).isSome
def hidT (h:Heap) (H:Hp):Heap:=PySem.W.hideAll h (trk h H)
theorem hidT_size (h:Heap) (H:Hp):(hidT h H).objs.size=h.objs.size:=PySem.W.hideAll_size _ _
theorem hidT_get {h:Heap} {H:Hp} {b:Addr} {o:Obj} (e:h.get? b=some o) (n:H b=none):(hidT h H).get? b=some o:=
 PySem.W.hideAll_get _ e fun hm=>by
  have q:(H b).isSome=true:=(List.mem_filter.mp hm).2
  rw [n] at q; simp at q
theorem of_hidT {h:Heap} {H:Hp} {b:Addr} {o:Obj} (e:(hidT h H).get? b=some o):h.get? b=some o/\H b=none:=by
 have e':h.get? b=some o:=PySem.W.of_hideAll (trk h H) e
 refine ⟨e',?_⟩
 cases q:H b with
 | none=>rfl
 | some x=>
  have hm:b∈trk h H:=List.mem_filter.mpr ⟨List.mem_range.mpr (Heap.lt_size e'),by simp [q]⟩
  have z:(hidT h H).get? b=none:=PySem.W.hideAll_none (trk h H) hm
  rw [z] at e; cases e
def allNews (g h:Heap) (L:Addr):List (Addr×Obj):=(List.range h.objs.size).filterMap fun a=>if a=L\/(g.get? a).isSome=true then none else (h.get? a).map fun o=>(a,o)
def rest (g h:Heap) (L d:Addr):List (Addr×Obj):=(allNews g h L).filter fun p=>decide (p.1≠d)
end L2
namespace L2
open PySem PySem.Spec PyProof.Rows
structure Mod (K:Frag) (mg:Str->Option Value) (base:Heap):Prop where
 kin:K.In base
 glob:base.Ns mainGlobals mg
 blt:∃ mb,base.Ns builtinsNs mb/\∀ x:Str,x ≠ "__name__" -> mb x=bootBuiltins x
 nolimit:base.NoLimit
structure Cx where
 prog:Program
 w:World
 K:Frag
 mg:Str->Option Value
 base:Heap
 A:Around
 N:List Str
 s₀:Shared
 H₀:Hp
 env:Env
 outer:List Env
 stack:List Env
 ex:List Addr
 fn:Str->Bool
 calm:Bool
 pn:List (Addr×Obj)
 xe:Value->Shared->Prop
def frs (l:List Env):List Addr:=l.filterMap (·.frame)
abbrev Cx.fs (X:Cx):List Addr:=frs X.outer
def Vis (sc:Scope) (x:Str):Prop:=sc.names.lookup x=some .local\/sc.names.lookup x=some .cell\/sc.names.lookup x=some .free
def Loc (sc:Scope) (x:Str):Prop:=sc.names.lookup x=some .local\/sc.names.lookup x=some .cell
def Look (env:Env) (h:Heap) (m:Str->Option Value) (x:Str) (u:Value):Prop:=
 (env.kindOf x=some .local/\m x=some u)\/((env.kindOf x=some .cell\/env.kindOf x=some .free)/\∃ c,env.cells.lookup x=some c/\h.IsCell c (some u))
structure Cx.Ok (X:Cx):Prop where
 mod:Mod X.K X.mg X.base
 kind:X.env.scope.kind=.function
 glob:X.env.globals=mainGlobals
 blt:X.env.builtins=builtinsNs
 above:X.s₀.heap.objs.size<=X.env.locals
 inj:∀ x y c,X.env.cells.lookup x=some c->X.env.cells.lookup y=some c->x=y
 has:∀ x,(X.env.kindOf x=some .cell\/X.env.kindOf x=some .free)->∃ c,X.env.cells.lookup x=some c
 cab:∀ x c,X.fn x=true->X.env.cells.lookup x=some c->X.s₀.heap.objs.size<=c
 hd:X.calm=true->X.A.handled=none
 frames:X.A.frames=some X.stack
 stk:X.stack=X.outer\/(X.stack=X.env::X.outer/\X.env.frame=some X.env.locals)
 exf:∀ b∈X.ex,b≠X.env.locals/\∀ x c,X.env.cells.lookup x=some c->c≠b
 bs:∀ b o,X.base.get? b=some o->X.s₀.heap.get? b=some o/\X.H₀ b=none
 bsz:X.base.objs.size<=X.s₀.heap.objs.size
 noex:∀ b o,X.base.get? b=some o->b∉X.ex
 exfs:∀ b∈X.ex,b∉X.fs
 funs:X.s₀.heap.FunFrames X.base X.outer
 frf:∀ b∈X.fs,X.H₀ b=none
structure Inv (X:Cx) (pins:List (Addr×Obj)) (σ:List (Option V)) (H:Hp) (s:Shared):Prop where
 ok:X.Ok
 os:s.os=X.s₀.os
 bare:AllBare s.gens
 base:Un X.fs X.ex X.H₀ H X.s₀.heap s.heap
 loc:∃ m,s.heap.Ns X.env.locals m/\∀ (i:Nat) (x:Str) (v:V),X.N[i]?=some x->σ[i]?=some (some v)->Vis X.env.scope x->∃ u,RelV v u/\Look X.env s.heap m x u
 cell:∀ x c,X.env.cells.lookup x=some c->∃ v,s.heap.IsCell c v
 free:H X.env.locals=none
 freeC:∀ x c,X.env.cells.lookup x=some c->H c=none
 pin:∀ p∈X.pn++pins,s.heap.get? p.1=some p.2/\H p.1=none/\p.1≠X.env.locals/\p.1∉X.fs/\∀ v,p.2.data≠.cell v
 hok:HOk X.prog X.w H s.heap
 len:σ.length=X.N.length
section
variable {X:Cx} {pins:List (Addr×Obj)} {σ:List (Option V)} {H H':Hp} {s:Shared} {h':Heap}
theorem Cx.Ok.nofr (ok:X.Ok) {b:Addr} {o:Obj} (e:X.base.get? b=some o):b∉X.fs:=fun hb=>by
 have:=(ok.funs.mem hb).1
 rw [e] at this; cases this
theorem Inv.bs (I:Inv X pins σ H s):∀ b o,X.base.get? b=some o->s.heap.get? b=some o/\H b=none:=fun b o e=>
 ⟨I.base.keep b o (I.ok.bs b o e).1 (I.ok.bs b o e).2 (I.ok.nofr e) (I.ok.noex b o e),I.base.free b o (I.ok.bs b o e).1 (I.ok.bs b o e).2 (I.ok.noex b o e)⟩
theorem Inv.bk (I:Inv X pins σ H s):∀ b o,X.base.get? b=some o->s.heap.get? b=some o:=fun b o e=>(I.bs b o e).1
theorem Inv.mod (I:Inv X pins σ H s):Mod X.K X.mg X.base:=I.ok.mod
theorem Inv.kIn (I:Inv X pins σ H s):X.K.In s.heap:=I.ok.mod.kin.keeps I.bk
theorem Inv.fr (I:Inv X pins σ H s):∃ m,Fr X.base X.env.locals s.heap m:=
 let ⟨m,hn,_⟩:=I.loc
 ⟨m,hn,I.bk,Nat.le_trans I.ok.bsz I.ok.above⟩
theorem Inv.lt (I:Inv X pins σ H s):X.env.locals<s.heap.objs.size:=let ⟨_,hn,_⟩:=I.loc; hn.lt
theorem Inv.sz (I:Inv X pins σ H s):X.s₀.heap.objs.size<=s.heap.objs.size:=Nat.le_trans I.ok.above (Nat.le_of_lt I.lt)
theorem Inv.nofs (I:Inv X pins σ H s) {a:Addr} (h:s.heap.objs.size<=a):a∉X.fs:=fun hb=>by
 obtain ⟨_,o,ho,_⟩:=I.ok.funs.mem hb
 exact absurd (Nat.lt_of_lt_of_le (Heap.lt_size ho) (Nat.le_trans I.sz h)) (Nat.lt_irrefl _)
theorem Inv.cne (I:Inv X pins σ H s):∀ x c,X.env.cells.lookup x=some c->c≠X.env.locals:=fun x c e z=>by
 obtain ⟨v,o,ho,hd⟩:=I.cell x c e
 obtain ⟨m,⟨o',es,ep,ho',hd',_⟩,_⟩:=I.loc
 rw [z,ho'] at ho; cases ho; rw [hd'] at hd; cases hd
theorem Inv.funs (I:Inv X pins σ H s):s.heap.FunFrames X.base X.outer:=by
 have all:∀ (l:List Env),(∀ b∈frs l,b∈X.fs)->X.s₀.heap.FunFrames X.base l->s.heap.FunFrames X.base l:=by
  intro l
  induction l with
  | nil=>intro _ _; trivial
  | cons env r ih=>
   intro hs hl
   obtain ⟨hk,⟨L,o,hf,hn,ho,hd⟩,hr⟩:=hl
   have hL:L∈X.fs:=hs L (by unfold frs; rw [List.filterMap_cons,hf]; exact List.mem_cons_self)
   obtain ⟨sl,e⟩:=I.base.slot L o ho (I.ok.frf L hL) hL fun z=>I.ok.exfs L z hL
   exact ⟨hk,⟨L,_,hf,hn,e,hd⟩,ih (fun b hb=>hs b (by unfold frs; rw [List.filterMap_cons,hf]; exact List.mem_cons_of_mem _ hb)) hr⟩
 exact all X.outer (fun _ hb=>hb) I.ok.funs
theorem Inv.stack (I:Inv X pins σ H s):s.heap.FunFrames X.base X.stack:=by
 rcases I.ok.stk with e | ⟨e,hf⟩
 ·rw [e]; exact I.funs
 ·rw [e]
  obtain ⟨m,hn,_⟩:=I.loc
  refine .cons (by rw [I.ok.kind]; decide) hf hn ?_ I.funs
  exact Heap.get?_none_of_le (Nat.le_trans I.ok.bsz I.ok.above)
theorem Inv.stkSub (I:Inv X pins σ H s):∀ b∈frs X.stack,b∈X.env.locals::X.fs:=fun b hb=>by
 rcases I.ok.stk with e | ⟨e,hf⟩
 ·rw [e] at hb; exact List.mem_cons_of_mem _ hb
 ·rw [e] at hb
  unfold frs at hb
  rw [List.filterMap_cons,hf] at hb
  exact hb
theorem Inv.stkFree (I:Inv X pins σ H s):∀ b∈frs X.stack,H b=none:=fun b hb=>by
 rcases List.mem_cons.mp (I.stkSub b hb) with e | hb
 ·rw [e]; exact I.free
 ·obtain ⟨_,o,ho,_⟩:=I.ok.funs.mem hb
  exact I.base.free b o ho (I.ok.frf b hb) fun z=>I.ok.exfs b z hb
theorem Inv.step {g':Array GenState} {t':Nat} {d':Drawn} {ch:List Addr} (I:Inv X pins σ H s)
  (hch:∀ b∈ch,(b∈X.ex\/X.s₀.heap.objs.size<=b)/\b≠X.env.locals/\(∀ x c,X.env.cells.lookup x=some c->c≠b)/\∀ p∈X.pn++pins,p.1≠b)
  (keep:∀ b o,b≠X.env.locals->b∉X.fs->b∉ch->s.heap.get? b=some o->H b=none->h'.get? b=some o)
  (slot:∀ b o,b≠X.env.locals->b∈X.fs->b∉ch->s.heap.get? b=some o->H b=none->∃ sl,h'.get? b=some { o with slots:=sl }) (free:∀ b o,b∉ch->s.heap.get? b=some o->H b=none->H' b=none)
  (there:∀ b o,b∉ch->s.heap.get? b=some o->∃ o',h'.get? b=some o')
  (tups:∀ b xs,H b=some (.tup xs)->H' b=some (.tup xs)) (frzs:∀ b o u,H b=some (.frz o u)->H' b=some (.frz o u)) (tbls:∀ b ps,H b=some (.tbl ps)->∃ more,H' b=some (.tbl (ps++more)))
  (ns:∀ m,s.heap.Ns X.env.locals m->h'.Ns X.env.locals m) (hok:HOk X.prog X.w H' h') (hg:AllBare g') :
  Inv X pins σ H' { s with heap:=h',gens:=g',drawn:=d',toks:=t' }:=by
 have neL:∀ b o,X.s₀.heap.get? b=some o->b≠X.env.locals:=fun b o e=>Nat.ne_of_lt (Nat.lt_of_lt_of_le (Heap.lt_size e) I.ok.above)
 have neC:∀ b o,X.s₀.heap.get? b=some o->b∉X.ex->b∉ch:=fun b o e hx hb=>by
  rcases (hch b hb).1 with z | z
  ·exact hx z
  ·exact absurd (Nat.lt_of_lt_of_le (Heap.lt_size e) z) (Nat.lt_irrefl _)
 have cellK:∀ x c,X.env.cells.lookup x=some c->∀ v,s.heap.IsCell c v->h'.IsCell c v:=fun x c e v zz1=>by
  obtain ⟨o,ho,hd⟩:=zz1
  have nch:c∉ch:=fun z=>(hch c z).2.2.1 x c e rfl
  by_cases hc:c∈X.fs
  ·obtain ⟨sl,q⟩:=slot c o (I.cne x c e) hc nch ho (I.freeC x c e)
   exact ⟨_,q,hd⟩
  ·exact ⟨o,keep c o (I.cne x c e) hc nch ho (I.freeC x c e),hd⟩
 refine ⟨I.ok,I.os,hg,⟨fun b o e n hb hx=>?_,fun b o e n hb hx=>?_,fun b o e n hx=>?_,fun b o e hx=>?_,fun b xs e=>tups b xs (I.base.tups b xs e),fun b o xs e=>frzs b o xs (I.base.frzs b o xs e),fun b ps e=>?_⟩,?_,fun x c e=>?_,?_,fun x c e=>?_,fun p hp=>?_,hok,I.len⟩
 ·exact keep b o (neL b o e) hb (neC b o e hx) (I.base.keep b o e n hb hx) (I.base.free b o e n hx)
 ·obtain ⟨sl,e1⟩:=I.base.slot b o e n hb hx
  obtain ⟨sl',e2⟩:=slot b _ (neL b o e) hb (neC b o e hx) e1 (I.base.free b o e n hx)
  exact ⟨sl',e2⟩
 ·obtain ⟨o',e1⟩:=I.base.there b o e hx
  exact free b o' (neC b o e hx) e1 (I.base.free b o e n hx)
 ·obtain ⟨o',e1⟩:=I.base.there b o e hx
  exact there b o' (neC b o e hx) e1
 ·obtain ⟨m1,e1⟩:=I.base.tbls b ps e
  obtain ⟨m2,e2⟩:=tbls b _ e1
  exact ⟨m1++m2,by rw [e2,Array.append_assoc]⟩
 ·obtain ⟨m,hn,hl⟩:=I.loc
  refine ⟨m,ns m hn,fun i x v e1 e2 e3=>?_⟩
  obtain ⟨u,r,l⟩:=hl i x v e1 e2 e3
  refine ⟨u,r,?_⟩
  rcases l with l | ⟨k,c,e,z⟩
  ·exact .inl l
  ·exact .inr ⟨k,c,e,cellK x c e _ z⟩
 ·obtain ⟨v,z⟩:=I.cell x c e
  exact ⟨v,cellK x c e v z⟩
 ·obtain ⟨m,⟨o,_,_,ho,_⟩,_⟩:=I.loc
  exact free _ o (fun z=>(hch _ z).2.1 rfl) ho I.free
 ·obtain ⟨v,o,ho,hd⟩:=I.cell x c e
  exact free c o (fun z=>(hch c z).2.2.1 x c e rfl) ho (I.freeC x c e)
 ·obtain ⟨e,n,ne,nf,d⟩:=I.pin p hp
  have nch:p.1∉ch:=fun z=>(hch p.1 z).2.2.2 p hp rfl
  exact ⟨keep p.1 p.2 ne nf nch e n,free p.1 p.2 nch e n,ne,nf,d⟩
theorem Inv.un {t':Nat} (I:Inv X pins σ H s) (u:Un X.fs [] H H' s.heap h') (hok:HOk X.prog X.w H' h'):Inv X pins σ H' { s with heap:=h',toks:=t' }:=by
 obtain ⟨m,⟨o,es,ep,ho,r⟩,_⟩:=id I.loc
 obtain ⟨sl,hL⟩:=u.any ho I.free (by simp)
 exact I.step (g':=s.gens) (d':=s.drawn) (ch:=[]) (fun _ z=>nomatch z) (fun b o _ hb _ e n=>u.keep b o e n hb (by simp)) (fun b o _ hb _ e n=>u.slot b o e n hb (by simp)) (fun b o _ e n=>u.free b o e n (by simp)) (fun b o _ e=>u.there b o e (by simp)) u.tups u.frzs u.tbls (fun m' hm=>by
  obtain ⟨o',es',ep',ho',r'⟩:=hm
  rw [ho] at ho'; cases ho'
  exact ⟨_,es',ep',hL,r'⟩) hok I.bare
theorem Inv.call {g':Array GenState} {t':Nat} {d':Drawn} {ch:List Addr} (I:Inv X pins σ H s) (u:Un (frs X.stack) ch H H' s.heap h') (hok:HOk X.prog X.w H' h') (hg:AllBare g')
  (hch:∀ b∈ch,(b∈X.ex\/X.s₀.heap.objs.size<=b)/\b≠X.env.locals/\(∀ x c,X.env.cells.lookup x=some c->c≠b)/\∀ p∈X.pn++pins,p.1≠b) :
  Inv X pins σ H' { s with heap:=h',gens:=g',drawn:=d',toks:=t' }:=by
 obtain ⟨m,⟨o,es,ep,ho,r⟩,_⟩:=id I.loc
 obtain ⟨sl,hL⟩:=u.any ho I.free fun z=>(hch _ z).2.1 rfl
 exact I.step (ch:=ch) hch (fun b o hL hb hc e n=>u.keep b o e n (fun z=>(List.mem_cons.mp (I.stkSub b z)).elim hL hb) hc) (fun b o _ _ hc e n=>u.any e n hc) (fun b o hc e n=>u.free b o e n hc) (fun b o hc e=>u.there b o e hc) u.tups u.frzs u.tbls (fun m' hm=>by
  obtain ⟨o',es',ep',ho',r'⟩:=hm
  rw [ho] at ho'; cases ho'
  exact ⟨_,es',ep',hL,r'⟩) hok hg
theorem Inv.turned {t':Nat} {it:Addr} (I:Inv X pins σ H s) (k:∀ b o,b≠it->s.heap.get? b=some o->h'.get? b=some o) (hn:H it=none) (hL:it≠X.env.locals)
  (h1:it∈X.ex\/X.s₀.heap.objs.size<=it) (h2:∀ x c,X.env.cells.lookup x=some c->c≠it) (h3:∀ p∈X.pn++pins,p.1≠it):Inv X pins σ H { s with heap:=h',toks:=t' }:=by
 have nit:∀ b u,H b=some u->b≠it:=fun b u e z=>by rw [z,hn] at e; cases e
 refine I.step (g':=s.gens) (d':=s.drawn) (ch:=[it]) (fun b hb=>?_) (fun b o _ _ hc e _=>k b o (fun z=>hc (by simp [z])) e) (fun b o _ _ hc e _=>⟨o.slots,k b o (fun z=>hc (by simp [z])) e⟩) (fun _ _ _ _ n=>n)
  (fun b o hc e=>⟨o,k b o (fun z=>hc (by simp [z])) e⟩) (fun _ _ e=>e) (fun _ _ _ e=>e) (fun b ps e=>⟨#[],by rw [e]; simp⟩) (fun m hm=>?_) (fun b u e=>?_) I.bare
 ·have e:b=it:=by simpa using hb
  subst e
  exact ⟨h1,hL,h2,h3⟩
 ·obtain ⟨o,es,ep,ho,r⟩:=hm
  exact ⟨o,es,ep,k _ o (Ne.symm hL) ho,r⟩
 ·refine (I.hok b u e).stay (fun c v hc q=>k c v ?_ q) (fun _ q=>q) fun _ _ q=>q
  rcases hc with z | z
  ·rw [z]; exact nit b u e
  ·exact nit c _ z
theorem Inv.tok (I:Inv X pins σ H s) (t:Nat):Inv X pins σ H { s with toks:=t }:=I.un (h':=s.heap) (t':=t) Un.refl I.hok
theorem Inv.kept {t':Nat} (I:Inv X pins σ H s) (k:∀ b u,s.heap.get? b=some u->h'.get? b=some u):Inv X pins σ H { s with heap:=h',toks:=t' }:=I.un (Un.kept k) (I.hok.kept k)
theorem Inv.laid {a:Addr} {o:HO} {t':Nat} (I:Inv X pins σ H s) (k:∀ b u,s.heap.get? b=some u->h'.get? b=some u) (hp:s.heap.objs.size<=a) (new:ObjOk X.prog X.w (upd H a o) h' a o) :
  Inv X pins σ (upd H a o) { s with heap:=h',toks:=t' }:=I.un (Un.laid k hp (I.hok.fresh hp)) (I.hok.laid k hp new)
theorem Inv.write {x e:Addr} {o:HO} {t':Nat} (I:Inv X pins σ H s) (mu:Mut (H x)) (he:e=x\/H e=some (.own x)) (k:∀ b u,b≠e->s.heap.get? b=some u->h'.get? b=some u) (heo:∃ u,h'.get? e=some u)
  (new:ObjOk X.prog X.w (upd H x o) h' x o):Inv X pins σ (upd H x o) { s with heap:=h',toks:=t' }:=I.un (Un.write mu he k heo) (I.hok.write mu he k heo new)
theorem Inv.weak {σ':List (Option V)} (I:Inv X pins σ H s) (hl:σ'.length=σ.length) (w:∀ (i:Nat) v,σ'[i]?=some (some v)->σ[i]?=some (some v)):Inv X pins σ' H s:=
 ⟨I.ok,I.os,I.bare,I.base,let ⟨m,hn,hl'⟩:=I.loc; ⟨m,hn,fun i x v e1 e2 e3=>hl' i x v e1 (w i v e2) e3⟩,I.cell,I.free,I.freeC,I.pin,I.hok,hl.trans I.len⟩
theorem Inv.pins_of {pins':List (Addr×Obj)} (I:Inv X pins σ H s) (h:∀ p∈pins',s.heap.get? p.1=some p.2/\H p.1=none/\p.1≠X.env.locals/\p.1∉X.fs/\∀ v,p.2.data≠.cell v):Inv X pins' σ H s:=
 ⟨I.ok,I.os,I.bare,I.base,I.loc,I.cell,I.free,I.freeC,fun p hp=>(List.mem_append.mp hp).elim (fun z=>I.pin p (List.mem_append_left _ z)) (h p),I.hok,I.len⟩
theorem nodup_ix {N:List Str} (hN:N.Nodup) {i j:Nat} {x:Str} (a:N[i]?=some x) (b:N[j]?=some x):i=j:=by
 obtain ⟨h1,e1⟩:=List.getElem?_eq_some_iff.mp a
 obtain ⟨h2,e2⟩:=List.getElem?_eq_some_iff.mp b
 exact (List.getElem_inj hN).mp (e1.trans e2.symm)
theorem store_ok2 {M:Model} {A:Around} {E:Value->Shared->Prop} {i:Nat} {x:Str} {v:V} {u:Value} {Q:Unit->Shared->Prop} (I:Inv X pins σ H s) (hN:X.N.Nodup) (hi:X.N[i]?=some x) (hx:Loc X.env.scope x) (r:RelV v u)
  (h:∀ s',Inv X pins (σ.set i (some v)) H s'->(∃ a,Heap.SameBut a s.heap s'.heap/\(a=X.env.locals\/X.env.cells.lookup x=some a))->Q () s') (hf:X.fn x=true\/X.env.scope.names.lookup x=some .local:=by first | exact .inl rfl | exact .inr rfl | assumption):wpAny M A (storeName X.env x u) Q E s:=by
 obtain ⟨m,hn,hl⟩:=id I.loc
 have hcls:(X.env.scope.kind == .class||(X.env.scope.kind == .module&&X.env.locals != X.env.globals))=false:=by rw [I.ok.kind]; rfl
 have hiσ:i<σ.length:=by rw [I.len]; exact (List.getElem?_eq_some_iff.mp hi).1
 have cne:=I.cne
 have tracked:∀ {a:Addr} {h':Heap},(∃ o,s.heap.get? a=some o/\H a=none)->Heap.SameBut a s.heap h'->HOk X.prog X.w H h':=fun {a h'} ha hs b ob e=>by
  obtain ⟨_,_,hfree⟩:=ha
  refine (I.hok b ob e).stay (fun c w' hc q=>(hs.2 c ?_).trans q) (fun _ q=>q) fun _ _ q=>q
  rintro rfl
  rcases hc with rfl | hc
  ·rw [hfree] at e; cases e
  ·rw [hfree] at hc; cases hc
 rcases hx with hk | hk
 ·refine wpAny_storeName_local hk hn (fun h' hn' hs=>?_) hcls
  obtain ⟨oL,_,_,hoL,_⟩:=id hn
  refine h _ ⟨I.ok,I.os,I.bare,⟨fun b o e n hb hx=>?_,fun b o e n hb hx=>?_,I.base.free,fun b o e hx=>?_,I.base.tups,I.base.frzs,I.base.tbls⟩,⟨_,hn',fun j y v' e1 e2 e3=>?_⟩,fun y c e=>?_,I.free,I.freeC,fun p hp=>?_,tracked ⟨oL,hoL,I.free⟩ hs,by simpa using I.len⟩ ⟨_,hs,.inl rfl⟩
  ·exact (hs.2 b (Nat.ne_of_lt (Nat.lt_of_lt_of_le (Heap.lt_size e) I.ok.above))).trans (I.base.keep b o e n hb hx)
  ·obtain ⟨sl,e1⟩:=I.base.slot b o e n hb hx
   exact ⟨sl,(hs.2 b (Nat.ne_of_lt (Nat.lt_of_lt_of_le (Heap.lt_size e) I.ok.above))).trans e1⟩
  ·obtain ⟨o',e1⟩:=I.base.there b o e hx
   exact ⟨o',(hs.2 b (Nat.ne_of_lt (Nat.lt_of_lt_of_le (Heap.lt_size e) I.ok.above))).trans e1⟩
  ·by_cases hj:j=i
   ·subst hj
    rw [hi] at e1; cases e1
    rw [List.getElem?_set_self hiσ] at e2
    cases e2
    exact ⟨u,r,.inl ⟨hk,by simp⟩⟩
   ·rw [List.getElem?_set_ne (Ne.symm hj)] at e2
    obtain ⟨u',r',q⟩:=hl j y v' e1 e2 e3
    refine ⟨u',r',?_⟩
    rcases q with ⟨k,e⟩ | ⟨k,c,e,z⟩
    ·refine .inl ⟨k,?_⟩
     have:y≠x:=fun e=>hj (nodup_ix hN e1 (e ▸ hi))
     simp [this,e]
    ·exact .inr ⟨k,c,e,z.sameBut hs (cne y c e)⟩
  ·obtain ⟨w',z⟩:=I.cell y c e
   exact ⟨w',z.sameBut hs (cne y c e)⟩
  ·obtain ⟨e,n,ne,nf,d⟩:=I.pin p hp
   exact ⟨(hs.2 p.1 ne).trans e,n,ne,nf,d⟩
 ·have hfn:X.fn x=true:=by
   rcases hf with z | z
   ·exact z
   ·rw [z] at hk; cases hk
  obtain ⟨c,hc⟩:=I.ok.has x (.inl hk)
  obtain ⟨w',z⟩:=I.cell x c hc
  refine wpAny_storeName_cell I.ok.kind hk hc z (fun h' hc' hs=>?_)
  obtain ⟨oc,hoc,hocd⟩:=id z
  refine h { s with heap:=h' } ⟨I.ok,I.os,I.bare,⟨fun b o e n hb hx=>?_,fun b o e n hb hx=>?_,I.base.free,fun b o e hx=>?_,I.base.tups,I.base.frzs,I.base.tbls⟩,⟨m,hn.sameBut hs (Ne.symm (cne x c hc)),fun j y v' e1 e2 e3=>?_⟩,fun y c' e=>?_,I.free,I.freeC,fun p hp=>?_,tracked ⟨oc,hoc,I.freeC x c hc⟩ hs,by simpa using I.len⟩ ⟨c,hs,.inr hc⟩
  ·exact (hs.2 b (Nat.ne_of_lt (Nat.lt_of_lt_of_le (Heap.lt_size e) (I.ok.cab x c hfn hc)))).trans (I.base.keep b o e n hb hx)
  ·obtain ⟨sl,e1⟩:=I.base.slot b o e n hb hx
   exact ⟨sl,(hs.2 b (Nat.ne_of_lt (Nat.lt_of_lt_of_le (Heap.lt_size e) (I.ok.cab x c hfn hc)))).trans e1⟩
  ·obtain ⟨o',e1⟩:=I.base.there b o e hx
   exact ⟨o',(hs.2 b (Nat.ne_of_lt (Nat.lt_of_lt_of_le (Heap.lt_size e) (I.ok.cab x c hfn hc)))).trans e1⟩
  ·by_cases hj:j=i
   ·subst hj
    rw [hi] at e1; cases e1
    rw [List.getElem?_set_self hiσ] at e2
    cases e2
    exact ⟨u,r,.inr ⟨.inl hk,c,hc,hc'⟩⟩
   ·rw [List.getElem?_set_ne (Ne.symm hj)] at e2
    obtain ⟨u',r',q⟩:=hl j y v' e1 e2 e3
    refine ⟨u',r',?_⟩
    rcases q with q | ⟨k,c',e,z'⟩
    ·exact .inl q
    ·refine .inr ⟨k,c',e,z'.sameBut hs ?_⟩
     rintro rfl
     exact hj (nodup_ix hN e1 (I.ok.inj _ _ _ e hc ▸ hi))
  ·by_cases hcc:c'=c
   ·subst hcc; exact ⟨_,hc'⟩
   ·obtain ⟨w2,z2⟩:=I.cell y c' e
    exact ⟨w2,z2.sameBut hs hcc⟩
  ·obtain ⟨e,n,ne,nf,d⟩:=I.pin p hp
   refine ⟨(hs.2 p.1 ?_).trans e,n,ne,nf,d⟩
   intro q
   rw [q,hoc] at e
   have q':oc=p.2:=Option.some.inj e
   exact d w' (by rw [<- q']; exact hocd)
theorem store_ok {M:Model} {A:Around} {E:Value->Shared->Prop} {i:Nat} {x:Str} {v:V} {u:Value} {Q:Unit->Shared->Prop} (I:Inv X pins σ H s) (hN:X.N.Nodup) (hi:X.N[i]?=some x) (hx:Loc X.env.scope x) (r:RelV v u)
  (h:∀ s',Inv X pins (σ.set i (some v)) H s'->Q () s') (hf:X.fn x=true\/X.env.scope.names.lookup x=some .local:=by first | exact .inl rfl | exact .inr rfl | assumption):wpAny M A (storeName X.env x u) Q E s:=
 store_ok2 I hN hi hx r (fun s' I' _=>h s' I') hf
theorem Inv.call' {s':Shared} {ch:List Addr} (I:Inv X pins σ H s) (ho:s'.os=s.os) (u:Un (frs X.stack) ch H H' s.heap s'.heap) (hok:HOk X.prog X.w H' s'.heap) (hg:AllBare s'.gens)
  (hch:∀ b∈ch,(b∈X.ex\/X.s₀.heap.objs.size<=b)/\b≠X.env.locals/\(∀ x c,X.env.cells.lookup x=some c->c≠b)/\∀ p∈X.pn++pins,p.1≠b):Inv X pins σ H' s':=by
 obtain ⟨h',g',d',t',o'⟩:=s'
 have e:o'=s.os:=ho
 subst e
 exact I.call (g':=g') (t':=t') (d':=d') u hok hg hch
end
abbrev XK:=Value->Option Addr->Hp->Prop
abbrev St:=List (Option V)
abbrev VK:=V->Hp->Prop
abbrev TE:=St->Hp->VK->Prop
abbrev TT:=St->Hp->(Bool->Hp->Prop)->Prop
abbrev TA:=St->Hp->(List V->Hp->Prop)->Prop
structure Ends where
 nx:St->Hp->Prop
 rt:VK
 bk:St->Hp->Prop:=fun _ _=>False
 ct:St->Hp->Prop:=fun _ _=>False
abbrev TS:=Ends->St->Hp->Prop
def EP (X:Cx) (pins:List (Addr×Obj)) (σ:St) (Q:VK) (u:Value) (s':Shared):Prop:=∃ v H',Inv X pins σ H' s'/\RelV v u/\Q v H'
def TP (X:Cx) (pins:List (Addr×Obj)) (σ:St) (Q:Bool->Hp->Prop) (b:Bool) (s':Shared):Prop:=∃ H',Inv X pins σ H' s'/\Q b H'
def AP (X:Cx) (pins:List (Addr×Obj)) (σ:St) (Q:List V->Hp->Prop) (us:List Value) (s':Shared):Prop:=∃ vs H',Inv X pins σ H' s'/\Vals vs us/\Q vs H'
def SP (X:Cx) (pins:List (Addr×Obj)) (D:Ends) (f:Flow) (s':Shared):Prop:=
 match f with
 | .next=>∃ σ' H',Inv X pins σ' H' s'/\D.nx σ' H'
 | .brk=>∃ σ' H',Inv X pins σ' H' s'/\D.bk σ' H'
 | .cont=>∃ σ' H',Inv X pins σ' H' s'/\D.ct σ' H'
 | .ret u=>∃ v σ' H',Inv X pins σ' H' s'/\RelV v u/\D.rt v H'
def PE (X:Cx) (e:Expr) (t:TE):Prop:=
 ∀ (pins:List (Addr×Obj)) (s:Shared) (σ:St) (H:Hp) (Q:VK),Inv X pins σ H s->t σ H Q->wpAny (model X.prog X.w) X.A (eval e X.env) (EP X pins σ Q) X.xe s
def PT (X:Cx) (e:Expr) (t:TT):Prop:=
 ∀ (pins:List (Addr×Obj)) (s:Shared) (σ:St) (H:Hp) (Q:Bool->Hp->Prop),Inv X pins σ H s->t σ H Q->wpAny (model X.prog X.w) X.A (isTrue e X.env (eval e X.env)) (TP X pins σ Q) X.xe s
def PW (X:Cx) (e:Expr) (t:TT):Prop:=
 ∀ (whole:Sem Value) (pins:List (Addr×Obj)) (s:Shared) (σ:St) (H:Hp) (Q:Bool->Hp->Prop),Inv X pins σ H s->t σ H Q->wpAny (model X.prog X.w) X.A (isTrue e X.env whole) (TP X pins σ Q) X.xe s
theorem PW.pt {X:Cx} {e:Expr} {t:TT} (h:PW X e t):PT X e t:=h _
def PA (X:Cx) (es:List Expr) (t:TA):Prop:=
 ∀ (pos:Pos) (pins:List (Addr×Obj)) (s:Shared) (σ:St) (H:Hp) (Q:List V->Hp->Prop),Inv X pins σ H s->t σ H Q->wpAny (model X.prog X.w) X.A (spliced (backTo pos (starEach es X.env))) (AP X pins σ Q) X.xe s
def PS (X:Cx) (st:Stmt) (t:TS):Prop:=
 ∀ (pins:List (Addr×Obj)) (s:Shared) (σ:St) (H:Hp) (D:Ends),Inv X pins σ H s->t D σ H->wpAny (model X.prog X.w) X.A (exec st X.env) (SP X pins D) X.xe s
def PSs (X:Cx) (st:List Stmt) (t:TS):Prop:=
 ∀ (pins:List (Addr×Obj)) (s:Shared) (σ:St) (H:Hp) (D:Ends),Inv X pins σ H s->t D σ H->wpAny (model X.prog X.w) X.A (execs st X.env) (SP X pins D) X.xe s
theorem thn {α:Type} {t:Sem α} {Q Q':α->Shared->Prop} {M:Model} {A:Around} {E:Value->Shared->Prop} {s:Shared} (h:wpAny M A t Q E s) (hQ:∀ a s,Q a s->Q' a s):wpAny M A t Q' E s:=wpAny_mono h hQ fun _ _ x=>x
end L2
namespace L2
open PySem PySem.Spec PyProof.Rows
section
variable {X:Cx}
def tVar (i:Nat):TE:=fun σ H Q=>∃ v,σ[i]?=some (some v)/\Q v H
def tC (v:V):TE:=fun _ H Q=>Q v H
theorem pe_var {i:Nat} {x:Str} {pos:Pos} (hN:X.N[i]?=some x) (hv:Vis X.env.scope x) (hd:(x == ("__debug__" : Str))=false:=by decide) (hcd:(x == ("__classdict__" : Str))=false:=by decide):PE X (.Name x pos) (tVar i):=by
 intro pins s σ H Q I h
 obtain ⟨v,e,h⟩:=h
 obtain ⟨m,hn,hl⟩:=I.loc
 obtain ⟨u,r,l⟩:=hl i x v hN e hv
 have fin:EP X pins σ Q u s:=⟨v,H,I,r,h⟩
 rcases l with ⟨hk,hm⟩ | ⟨hk,c,hc,hcell⟩
 ·exact wpAny_Name (wpAny_loadName_local I.ok.kind hk hn hm fin) hd
 ·rcases hk with hk | hk
  ·exact wpAny_Name (wpAny_loadName_cell I.ok.kind hk hc hcell fin) hd
  ·exact wpAny_Name (wpAny_loadName_free I.ok.kind hk hc hcell fin hcd) hd
theorem pe_int {i j pos}:PE X (.Constant (.int i) j pos) (tC (.int i)):=fun _ _ _ H _ I h=>wpAny_Constant_int ⟨.int i,H,I.tok _,⟨_,rfl⟩,h⟩
theorem pe_bl {b j pos}:PE X (.Constant (.bool b) j pos) (tC (.bl b)):=fun _ _ _ H _ I h=>Constant_bool ⟨.bl b,H,I,rfl,h⟩
theorem pe_non {j pos}:PE X (.Constant .none j pos) (tC .non):=fun _ _ _ H _ I h=>Constant_none ⟨.non,H,I,rfl,h⟩
theorem pe_str {x j pos}:PE X (.Constant (.str x) j pos) (tC (.str x)):=fun _ _ _ H _ I h=>Calls.Constant_str ⟨.str x,H,I.tok _,⟨_,rfl⟩,h⟩
def Gl (X:Cx) (x:Str):Prop:=X.env.kindOf x=some .globalImplicit
theorem ld_glob {E:Value->Shared->Prop} {pins:List (Addr×Obj)} {s:Shared} {σ:St} {H:Hp} {x:Str} {u:Value} {pos:Pos} {Q:Value->Shared->Prop} (I:Inv X pins σ H s) (hg:Gl X x) (hm:X.mg x=some u) (h:Q u s)
  (hd:(x == ("__debug__" : Str))=false:=by decide):wpAny (model X.prog X.w) X.A (eval (.Name x pos) X.env) Q E s:=
 Calls.Name_function_global I.ok.kind hg (Calls.loadGlobal_global (by rw [I.ok.glob]; exact I.mod.glob.keeps I.bk) hm h) hd
theorem ld_blt {E:Value->Shared->Prop} {pins:List (Addr×Obj)} {s:Shared} {σ:St} {H:Hp} {x:Str} {u:Value} {pos:Pos} {Q:Value->Shared->Prop} (I:Inv X pins σ H s) (hg:Gl X x) (hm:X.mg x=none) (hv:bootBuiltins x=some u) (h:Q u s)
  (hn:x ≠ "__name__" := by decide) (hd:(x == ("__debug__" : Str))=false:=by decide):wpAny (model X.prog X.w) X.A (eval (.Name x pos) X.env) Q E s:=by
 obtain ⟨mb,h1,h2⟩:=I.mod.blt
 exact Calls.Name_function_global I.ok.kind hg (Calls.loadGlobal_builtin (by rw [I.ok.glob]; exact I.mod.glob.keeps I.bk) hm (by rw [I.ok.blt]; exact h1.keeps I.bk) ((h2 x hn).trans hv) h) hd
theorem pe_glob {x:Str} {v:V} {u:Value} {pos:Pos} (hg:Gl X x) (hm:X.mg x=some u) (r:RelV v u) (hd:(x == ("__debug__" : Str))=false:=by decide):PE X (.Name x pos) (tC v):=
 fun _ _ _ H _ I h=>ld_glob I hg hm ⟨v,H,I,r,h⟩ hd
theorem pe_bltn {x:Str} {v:V} {u:Value} {pos:Pos} (hg:Gl X x) (hm:X.mg x=none) (hv:bootBuiltins x=some u) (r:RelV v u) (hn:x ≠ "__name__" := by decide) (hd:(x == ("__debug__" : Str))=false:=by decide):PE X (.Name x pos) (tC v):=
 fun _ _ _ H _ I h=>ld_blt I hg hm hv ⟨v,H,I,r,h⟩ hn hd
variable {a b:Expr} {ta tb:TE} {pos:Pos}
def tB (t:TE):TT:=fun σ H Q=>t σ H fun x H1=>∃ c,x=.bl c/\Q c H1
theorem pt_val {e:Expr} {t:TE} (h:PE X e t) (he:∀ whole,isTrue e X.env whole=(do let v <- whole; standAt e.pos; holding [v] (truthy v)):=by intro _; rfl):PT X e (tB t):=by
 intro pins s σ H Q I hw
 refine isTrue_plain (thn (h pins s σ H _ I hw) fun v s1 zz2=>?_) (he _)
 obtain ⟨x,H1,I1,r1,q1⟩:=zz2
 obtain ⟨d,rfl,q⟩:=q1
 cases r1
 exact wpAny_truthy_bool ⟨H1,I1,q⟩
variable {tA tB':TT} {rest:List Expr}
def tOr (t u:TT):TT:=fun σ H Q=>t σ H fun c H1=>if c=true then Q true H1 else u σ H1 Q
def tNot (t:TT):TT:=fun σ H Q=>t σ H fun c H1=>Q (!c) H1
theorem pw_or1 (ha:PT X a tA):PW X (.BoolOp .Or [a] pos) tA:=by
 intro wh pins s σ H Q I h
 refine isTrue_or (thn (ha pins s σ H Q I h) fun c s1 e=>?_)
 cases c with
 | false=>exact isTrue_or_nil e
 | true=>exact e
theorem pw_or (ha:PT X a tA) (hb:PW X (.BoolOp .Or (b::rest) pos) tB'):PW X (.BoolOp .Or (a::b::rest) pos) (tOr tA tB'):=by
 intro wh pins s σ H Q I h
 refine isTrue_or (thn (ha pins s σ H _ I h) fun c s1 zz3=>?_)
 obtain ⟨H1,I1,q1⟩:=zz3
 cases c with
 | true=>exact ⟨H1,I1,q1⟩
 | false=>exact hb wh pins s1 σ H1 Q I1 q1
theorem pt_not (ha:PT X a tA):PT X (.UnaryOp .Not a pos) (tNot tA):=by
 intro pins s σ H Q I h
 exact isTrue_not (ha pins s σ H (fun c H1=>Q (!c) H1) I h)
def tAndV (ta tb:TE):TE:=fun σ H Q=>ta σ H fun x H1=>∃ c,x=.bl c/\if c=true then tb σ H1 Q else Q (.bl false) H1
def tNotV (ta:TE):TE:=fun σ H Q=>ta σ H fun x H1=>∃ c,x=.bl c/\Q (.bl (!c)) H1
theorem pe_one {op} {t:TE} (h:PE X a t):PE X (.BoolOp op [a] pos) t:=fun pins s σ H Q I hw=>BoolOp_one (h pins s σ H Q I hw)
theorem pe_and (ha:PE X a ta) (hb:PE X (.BoolOp .And (b::rest) pos) tb):PE X (.BoolOp .And (a::b::rest) pos) (tAndV ta tb):=by
 intro pins s σ H Q I h
 refine BoolOp_and (thn (ha pins s σ H _ I h) fun v s1 zz4=>?_)
 obtain ⟨x,H1,I1,r1,q1⟩:=zz4
 obtain ⟨c,rfl,q1⟩:=q1
 cases r1
 refine wpAny_truthy_bool ?_
 cases c with
 | true=>exact hb pins s1 σ H1 Q I1 q1
 | false=>exact ⟨.bl false,H1,I1,rfl,q1⟩
theorem pe_not (ha:PE X a ta):PE X (.UnaryOp .Not a pos) (tNotV ta):=by
 intro pins s σ H Q I h
 refine UnaryOp_ (thn (ha pins s σ H _ I h) fun v s1 zz5=>?_)
 obtain ⟨x,H1,I1,r1,q1⟩:=zz5
 obtain ⟨c,rfl,q1⟩:=q1
 cases r1
 exact not_of (wpAny_truthy_bool ⟨.bl (!c),H1,I1,rfl,q1⟩)
end
end L2
namespace L2
open PySem PySem.Spec PyProof.Rows
def SqL (K:Frag) (H:Hp) (a:Addr) (xs:List V):Prop:=
 Rd H a (.lst xs) \/
  ∃ (o:Obj) (its:Array Value) (n:Nat),K.lookup a=some o/\o.cls=.type "list" /\ o.dict=none/\o.data=.seq its n/\its.size<=sizeLine/\Vals xs its.toList
def SqT (K:Frag) (H:Hp) (a:Addr) (xs:List V):Prop:=
 Rd H a (.tup xs) \/
  ∃ (o:Obj) (its:Array Value) (n:Nat),K.lookup a=some o/\o.cls=.type "tuple" /\ o.data=.seq its n/\its.size<=sizeLine/\Vals xs its.toList
def absV:Value->Option V
 | .none=>some .non
 | .bool b=>some (.bl b)
 | .int i _=>some (.int i)
 | .str x _=>some (.str x)
 | .bytes b _=>some (.byt b)
 | .float b _=>some (.flt b)
 | .ref a=>some (.ref a)
 | .type n=>some (.ty n)
 | _=>none
theorem RelV.abs {x:V} {u:Value} (r:RelV x u):absV u=some x:=by
 cases x with
 | non=>cases r; rfl
 | bl _=>cases r; rfl
 | int _=>obtain ⟨t,rfl⟩:=r; rfl
 | str _=>obtain ⟨t,rfl⟩:=r; rfl
 | byt _=>obtain ⟨t,rfl⟩:=r; rfl
 | flt _=>obtain ⟨t,rfl⟩:=r; rfl
 | ref _=>cases r; rfl
 | ty _=>cases r; rfl
theorem RelV.inj {x y:V} {u:Value} (r:RelV x u) (q:RelV y u):x=y:=Option.some.inj (r.abs.symm.trans q.abs)
theorem Vals.inj:∀ {xs ys:List V} {us:List Value},Vals xs us->Vals ys us->xs=ys:=by
 intro xs ys us a
 induction a generalizing ys with
 | nil=>intro b; cases b; rfl
 | cons r t ih=>
  intro b
  cases b with
  | cons r' t'=>rw [r.inj r',ih t']
section
variable {X:Cx} {pins:List (Addr×Obj)} {σ:St} {H:Hp} {s:Shared} {a:Addr} {xs ys:List V}
theorem SqL.of {K:Frag} (h:H a=some (.lst xs)):SqL K H a xs:=.inl (.inl h)
theorem SqT.of {K:Frag} (h:H a=some (.tup xs)):SqT K H a xs:=.inl (.inl h)
theorem Inv.list (I:Inv X pins σ H s) (h:SqL X.K H a xs):∃ its:List Value,Vals xs its/\PlainL s.heap a its.toArray/\xs.length<=sizeLine:=by
 rcases h with h | ⟨o,its,n,hk,hc,hd,hs,hz,r⟩
 ·obtain ⟨z,its,n,r,e⟩:=h.ok I.hok
  exact ⟨its,r,⟨_,n,e,rfl,rfl,rfl⟩,z⟩
 ·refine ⟨its.toList,r,⟨o,n,I.kIn a o hk,hc,hd,by simpa using hs⟩,?_⟩
  have e:=r.length
  simp only [Array.length_toList] at e
  omega
theorem Inv.tuple (I:Inv X pins σ H s) (h:SqT X.K H a xs):∃ its:List Value,Vals xs its/\IsTup s.heap a its.toArray/\xs.length<=sizeLine:=by
 rcases h with h | ⟨o,its,n,hk,hc,hs,hz,r⟩
 ·obtain ⟨z,its,r,p⟩:=h.ok I.hok
  exact ⟨its,r,p,z⟩
 ·refine ⟨its.toList,r,⟨o,I.kIn a o hk,hc,n,by simpa using hs⟩,?_⟩
  have e:=r.length
  simp only [Array.length_toList] at e
  omega
theorem Inv.list_inj (I:Inv X pins σ H s) (h:SqL X.K H a xs) (h':SqL X.K H a ys):xs=ys:=by
 obtain ⟨its,r,⟨o,n,e,_,_,d⟩,_⟩:=I.list h
 obtain ⟨its',r',⟨o',n',e',_,_,d'⟩,_⟩:=I.list h'
 rw [e] at e'; cases e'
 rw [d] at d'
 injection d' with d1 _
 have:its=its':=by simpa using congrArg Array.toList d1
 subst this
 exact r.inj r'
theorem Inv.tuple_inj (I:Inv X pins σ H s) (h:SqT X.K H a xs) (h':SqT X.K H a ys):xs=ys:=by
 obtain ⟨its,r,⟨o,e,_,n,d⟩,_⟩:=I.tuple h
 obtain ⟨its',r',⟨o',e',_,n',d'⟩,_⟩:=I.tuple h'
 rw [e] at e'; cases e'
 rw [d] at d'
 injection d' with d1 _
 have:its=its':=by simpa using congrArg Array.toList d1
 subst this
 exact r.inj r'
end
abbrev Cx.wish (X:Cx) (E:Value->Shared->Prop):Cx:={ X with xe:=E }
abbrev Cx.nox (X:Cx):Cx:=X.wish fun _ _=>False
theorem Cx.Ok.wish {X:Cx} (ok:X.Ok) (E:Value->Shared->Prop):(X.wish E).Ok:=
 ⟨ok.mod,ok.kind,ok.glob,ok.blt,ok.above,ok.inj,ok.has,ok.cab,ok.hd,ok.frames,ok.stk,ok.exf,ok.bs,ok.bsz,ok.noex,ok.exfs,ok.funs,ok.frf⟩
theorem Cx.Ok.unwish {X:Cx} {E:Value->Shared->Prop} (ok:(X.wish E).Ok):X.Ok:=
 ⟨ok.mod,ok.kind,ok.glob,ok.blt,ok.above,ok.inj,ok.has,ok.cab,ok.hd,ok.frames,ok.stk,ok.exf,ok.bs,ok.bsz,ok.noex,ok.exfs,ok.funs,ok.frf⟩
section
variable {X:Cx} {pins:List (Addr×Obj)} {σ:St} {H:Hp} {s:Shared} {E:Value->Shared->Prop}
theorem Inv.wish (I:Inv X pins σ H s) (E:Value->Shared->Prop):Inv (X.wish E) pins σ H s:=⟨I.ok.wish E,I.os,I.bare,I.base,I.loc,I.cell,I.free,I.freeC,I.pin,I.hok,I.len⟩
theorem Inv.unwish (I:Inv (X.wish E) pins σ H s):Inv X pins σ H s:=⟨I.ok.unwish,I.os,I.bare,I.base,I.loc,I.cell,I.free,I.freeC,I.pin,I.hok,I.len⟩
theorem SP.unwish {D:Ends} {f:Flow} {s':Shared} (h:SP (X.wish E) pins D f s'):SP X pins D f s':=by
 cases f with
 | next=>obtain ⟨σ',H',I,q⟩:=h; exact ⟨σ',H',I.unwish,q⟩
 | brk=>obtain ⟨σ',H',I,q⟩:=h; exact ⟨σ',H',I.unwish,q⟩
 | cont=>obtain ⟨σ',H',I,q⟩:=h; exact ⟨σ',H',I.unwish,q⟩
 | ret u=>obtain ⟨v,σ',H',I,r,q⟩:=h; exact ⟨v,σ',H',I.unwish,r,q⟩
theorem PSs.nox {st:List Stmt} {t:TS} (h:PSs X.nox st t):PSs X st t:=fun pins s σ H D I hw=>
 wpAny_mono (h pins s σ H D (I.wish _) hw) (fun _ _ q=>q.unwish) fun _ _ z=>False.elim z
end
section
variable {X:Cx} {st:Stmt} {rest:List Stmt} {t u:TS} {e:Expr} {te:TE} {pos:Pos}
def tNext:TS:=fun D σ H=>D.nx σ H
def tSeq (t u:TS):TS:=fun D σ H=>t { D with nx:=u D } σ H
theorem pss_nil:PSs X [] tNext:=fun _ _ σ H _ I h=>wpAny_execs_nil ⟨σ,H,I,h⟩
theorem pss_cons (h1:PS X st t) (h2:PSs X rest u):PSs X (st::rest) (tSeq t u):=by
 intro pins s σ H D I h
 refine wpAny_execs_cons (thn (h1 pins s σ H { D with nx:=u D } I h) fun f s1 q=>?_)
 cases f with
 | next=>
  obtain ⟨σ',H',I',q⟩:=q
  exact h2 pins s1 σ' H' D I' q
 | ret v=>exact q
 | brk=>exact q
 | cont=>exact q
theorem pss_one (h1:PS X st t):PSs X [st] t:=by
 intro pins s σ H D I h
 refine wpAny_execs_cons (thn (h1 pins s σ H D I h) fun f s1 q=>?_)
 cases f with
 | next=>exact wpAny_execs_nil q
 | ret v=>exact q
 | brk=>exact q
 | cont=>exact q
theorem Inv.quiet {pins:List (Addr×Obj)} {σ:St} {H:Hp} {s:Shared} (I:Inv X pins σ H s):interactive X.env=false:=by simp [interactive,I.ok.kind]
def tDrop (te:TE):TS:=fun D σ H=>te σ H fun _ H1=>D.nx σ H1
theorem ps_expr (he:PE X e te) (hs:swapsWith e none pos.line X.env=pure false:=by rfl):PS X (.Expr e pos) (tDrop te):=by
 intro pins s σ H D I h
 exact wpAny_Expr_any (thn (he pins s σ H _ I h) fun v s1 zz6=>by obtain ⟨x,H1,I1,r1,q1⟩:=zz6; exact ⟨σ,H1,I1,q1⟩) I.quiet hs
def tRet (te:TE):TS:=fun D σ H=>te σ H D.rt
theorem ps_ret (he:PE X e te):PS X (.Return (some e) pos) (tRet te):=by
 intro pins s σ H D I h
 exact wpAny_Return_some (thn (he pins s σ H _ I h) fun v s1 zz7=>by obtain ⟨x,H1,I1,r1,q1⟩:=zz7; exact ⟨x,σ,H1,I1,r1,q1⟩)
def tIfS (c:TT) (t u:TS):TS:=fun D σ H=>c σ H fun b H1=>if b=true then t D σ H1 else u D σ H1
theorem ps_if {c:Expr} {a b:List Stmt} {tc:TT} (hc:PT X c tc) (ha:PSs X a t) (hb:PSs X b u):PS X (.If c a b pos) (tIfS tc t u):=by
 intro pins s σ H D I h
 refine wpAny_If (thn (hc pins s σ H _ I h) fun d s1 zz8=>?_)
 obtain ⟨H1,I1,q1⟩:=zz8
 cases d with
 | true=>exact ha pins s1 σ H1 D I1 q1
 | false=>exact hb pins s1 σ H1 D I1 q1
end
abbrev TG:=V->St->Hp->(St->Hp->Prop)->Prop
def PG (X:Cx) (target:Expr) (t:TG):Prop:=
 ∀ (pins:List (Addr×Obj)) (s:Shared) (σ:St) (H:Hp) (v:V) (u:Value) (Q:St->Hp->Prop),Inv X pins σ H s->RelV v u->t v σ H Q ->
  wpAny (model X.prog X.w) X.A (assign target X.env u) (fun _ s'=>∃ σ' H',Inv X pins σ' H' s'/\Q σ' H') X.xe s
abbrev TSet:=V->V->V->Hp->(Hp->Prop)->Prop
def PSet (X:Cx) (t:TSet):Prop:=
 ∀ (pins:List (Addr×Obj)) (s:Shared) (σ:St) (H:Hp) (o i v:V) (ov iv u:Value) (Q:Hp->Prop),Inv X pins σ H s->RelV o ov->RelV i iv->RelV v u->t o i v H Q ->
  wpAny (model X.prog X.w) X.A (setItem ov iv u) (fun _ s'=>∃ H',Inv X pins σ H' s'/\Q H') X.xe s
section
variable {X:Cx} {pos:Pos}
def gName (i:Nat):TG:=fun v σ H Q=>Q (σ.set i (some v)) H
theorem pg_name {i:Nat} {x:Str} (hN:X.N.Nodup) (hi:X.N[i]?=some x) (hx:Loc X.env.scope x) (hf:X.fn x=true\/X.env.scope.names.lookup x=some .local:=by first | exact .inl rfl | exact .inr rfl | assumption):PG X (.Name x pos) (gName i):=by
 intro pins s σ H v u Q I r h
 exact wpAny_assign_Name (store_ok I hN hi hx r (fun s' I'=>⟨_,H,I',h⟩) hf)
def gSub (to ti:TE) (t:TSet):TG:=fun v σ H Q=>to σ H fun o H1=>ti σ H1 fun i H2=>t o i v H2 fun H3=>Q σ H3
theorem pg_sub {o i:Expr} {to ti:TE} {t:TSet} (ho:PE X o to) (hi:PE X i ti) (hs:PSet X t)
  (ha:∀ v,assign (.Subscript o i pos) X.env v=(do
   let ov <- holding [v] (eval o X.env)
   let iv <- holding [v,ov] (eval i X.env)
   standAt pos
   holding [v,ov,iv] (setItem ov iv v)
   release [v,ov,iv] []):=by intro _; rfl):PG X (.Subscript o i pos) (gSub to ti t):=by
 intro pins s σ H v u Q I r h
 rw [ha]
 refine wpAny_bind (wpAny_holding (thn (ho pins s σ H _ I h) fun ov s1 zz9=>?_))
 obtain ⟨x,H1,I1,r1,q1⟩:=zz9
 refine wpAny_bind (wpAny_holding (thn (hi pins s1 σ H1 _ I1 q1) fun iv s2 zz10=>?_))
 obtain ⟨y,H2,I2,r2,q2⟩:=zz10
 refine wpAny_bind (wpAny_standAt (wpAny_bind (wpAny_holding (thn (hs pins s2 σ H2 x y v ov iv u _ I2 r1 r2 r q2) fun _ s3 zz11=>?_))))
 obtain ⟨H3,I3,q3⟩:=zz11
 exact wpAny_release ⟨σ,H3,I3,q3⟩
def tAsg (te:TE) (g:TG):TS:=fun D σ H=>te σ H fun x H1=>g x σ H1 D.nx
theorem ps_asg {tg e:Expr} {te:TE} {g:TG} (he:PE X e te) (hg:PG X tg g) (hs:swapsWithSole [tg] e pos.line X.env=pure false:=by rfl) (hw:swappedStores [tg] e X.env=pure none:=by rfl)
  (h1:(assignEach [tg] X.env).map (·.2) = [assign tg X.env]:=by rfl):PS X (.Assign [tg] e pos) (tAsg te g):=by
 intro pins s σ H D I h
 refine wpAny_Assign_stores (thn (he pins s σ H _ I h) fun v s1 zz12=>?_) hs hw
 obtain ⟨x,H1,I1,r1,q1⟩:=zz12
 rw [h1]
 exact thn (hg pins s1 σ H1 x v _ I1 r1 q1) fun _ s2 q=>q
theorem ps_set {i:Nat} {x:Str} {e:Expr} {te:TE} {pos':Pos} (hN:X.N.Nodup) (hi:X.N[i]?=some x) (hx:Loc X.env.scope x) (he:PE X e te) (hs:swapsWith e (some (.Name x pos')) pos.line X.env=pure false:=by rfl) (hf:X.fn x=true\/X.env.scope.names.lookup x=some .local:=by first | exact .inl rfl | exact .inr rfl | assumption) :
  PS X (.Assign [.Name x pos'] e pos) (tAsg te (gName i)):=by
 intro pins s σ H D I h
 refine wpAny_Assign_Name (thn (he pins s σ H _ I h) fun v s1 zz13=>?_) hs
 obtain ⟨y,H1,I1,r1,q1⟩:=zz13
 exact store_ok I1 hN hi hx r1 (fun s2 I2=>⟨_,H1,I2,q1⟩) hf
end
section
variable {X:Cx} {pos:Pos}
end
structure It where
 go:Nat->Hp->Prop
 yld:Nat->Hp->V->Hp->Prop
 stop:Nat->Hp->Prop
def FpOk (X:Cx) (pins:List (Addr×Obj)) (H:Hp) (b:Addr):Prop:=
 H b=none/\b≠X.env.locals/\b∉X.fs/\(b∈X.ex\/X.s₀.heap.objs.size<=b)/\(∀ x c,X.env.cells.lookup x=some c->c≠b)/\∀ p∈X.pn++pins,p.1≠b
theorem Inv.fpOk {X:Cx} {pins:List (Addr×Obj)} {σ:St} {H H':Hp} {s:Shared} {b:Addr} (I:Inv X pins σ H s) (hb:s.heap.objs.size<=b) (hn:H' b=none):FpOk X pins H' b:=by
 refine ⟨hn,Nat.ne_of_gt (Nat.lt_of_lt_of_le I.lt hb),I.nofs hb,.inr (Nat.le_trans I.sz hb),fun x c e z=>?_,fun p hp z=>?_⟩
 ·obtain ⟨v,q⟩:=I.cell x c e
  exact absurd (Nat.lt_of_lt_of_le q.lt (by rw [z]; exact hb)) (Nat.lt_irrefl _)
 ·exact absurd (Nat.lt_of_lt_of_le (Heap.lt_size (I.pin p hp).1) (by rw [z]; exact hb)) (Nat.lt_irrefl _)
structure Turn (P:Program) (w:World) (K:Frag) (tg:Expr) (J:It) (fp:List Addr) (it:Addr) (tn:Nat->Heap->Prop):Prop where
 mem:it∈fp
 obj:∀ i h,tn i h->∀ b∈fp,∃ o,h.get? b=some o/\∀ v,o.data≠.cell v
 keep:∀ i h h',tn i h->(∀ b∈fp,∀ o,h.get? b=some o->h'.get? b=some o)->tn i h'
 item:∀ (X:Cx),X.prog=P->X.w=w->X.K=K->X.calm=true->∀ (i:Nat) (pins:List (Addr×Obj)) (s:Shared) (σ:St) (H:Hp) (E:Value->Shared->Prop),Inv X pins σ H s->(∀ b∈fp,FpOk X pins H b)->tn i s.heap->J.go i H ->
  wpAny (model P w) X.A (pyNext (.ref it)) (fun r s1=>∃ u,r=some u /\
   wpAny (model P w) X.A (letOwnedTupleGo tg (.ref it) u) (fun _ s2=>∃ x H',Inv X pins σ H' s2/\RelV x u/\J.yld i H x H'/\tn (i+1) s2.heap/\∀ b∈fp,H' b=none) E s1) E s
 done:∀ (X:Cx),X.prog=P->X.w=w->X.K=K->X.calm=true->∀ (i:Nat) (pins:List (Addr×Obj)) (s:Shared) (σ:St) (H:Hp) (E:Value->Shared->Prop),Inv X pins σ H s->(∀ b∈fp,FpOk X pins H b)->tn i s.heap->J.stop i H ->
  wpAny (model P w) X.A (pyNext (.ref it)) (fun r s1=>r=none/\Inv X pins σ H s1) E s
 self:∀ (A:Around) (i:Nat) (s:Shared) (Q:Value->Shared->Prop) (E:Value->Shared->Prop),tn i s.heap->Q (.ref it) s->wpAny (model P w) A (pyIter (.ref it)) Q E s
abbrev TI:=St->Hp->(It->Hp->Prop)->Prop
def PIE (X:Cx) (pins:List (Addr×Obj)) (σ:St) (tg:Expr) (R:It->Hp->Prop) (itv:Value) (s2:Shared):Prop:=
 ∃ (it:Addr) (fp:List Addr) (tn:Nat->Heap->Prop) (J:It) (H':Hp),itv=.ref it/\Inv X pins σ H' s2/\Turn X.prog X.w X.K tg J fp it tn/\tn 0 s2.heap/\(∀ b∈fp,FpOk X pins H' b)/\R J H'
def PI (X:Cx) (tg iter:Expr) (wi:TI):Prop:=
 ∀ (pins:List (Addr×Obj)) (s:Shared) (σ:St) (H:Hp) (R:It->Hp->Prop),Inv X pins σ H s->wi σ H R ->
  wpAny (model X.prog X.w) X.A (eval iter X.env) (fun v s1=>wpAny (model X.prog X.w) X.A (pyIter v) (PIE X pins σ tg R) X.xe s1) X.xe s
theorem go_of {M:Model} {A:Around} {E:Value->Shared->Prop} {s:Shared} {tg:Expr} {it:Addr} {u:Value} {o:Obj} {n:String} {vs:Array Value} {Q:Unit->Shared->Prop} (ho:s.heap.get? it=some o) (hc:o.cls=.type n) (hd:o.data=.fields vs)
    (hn:["enumerate", "zip", "dict_itemiterator", "dict_reverseitemiterator", "odict_iterator", "itertools.zip_longest", "itertools.pairwise"].contains n=false) (hQ:Q () s):wpAny M A (letOwnedTupleGo tg (.ref it) u) Q E s:=by
  unfold letOwnedTupleGo
  cases tg <;> first
    | exact wpAny_pure hQ
    | (cases u <;> first
        | exact wpAny_pure hQ
        | (refine wpAny_bind (wpAny_load ho ?_)
           rw [hc,hd]
           show wpAny M A (if (["enumerate", "zip", "dict_itemiterator", "dict_reverseitemiterator", "odict_iterator", "itertools.zip_longest", "itertools.pairwise"].contains n&&vs[0]? == some (rawInt _))=true then _ else _) Q E s
           rw [if_neg (by intro h; rw [hn,Bool.false_and] at h; cases h)]
           exact wpAny_pure hQ))
def Itl (K:Frag) (a:Addr):It:=
 ⟨fun i H=>∃ xs x,SqL K H a xs/\xs[i]?=some x,fun i H x H'=>H'=H/\∀ xs,SqL K H a xs->xs[i]?=some x,fun i H=>∃ xs,SqL K H a xs/\xs.length<=i⟩
def Itt (K:Frag) (a:Addr):It:=
 ⟨fun i H=>∃ xs x,SqT K H a xs/\xs[i]?=some x,fun i H x H'=>H'=H/\∀ xs,SqT K H a xs->xs[i]?=some x,fun i H=>∃ xs,SqT K H a xs/\xs.length<=i⟩
def Itr (lo:Int) (n:Nat):It:=⟨fun i _=>i<n,fun i H x H'=>H'=H/\x=.int (lo+i),fun i _=>n<=i⟩
theorem turn_list {P:Program} {w:World} {K:Frag} {tg:Expr} (a it:Addr):Turn P w K tg (Itl K a) [it] it (fun i h=>h.IsListIter it a i) where
 mem:=by simp
 obj:=fun i h st b hb=>by
  have e:b=it:=by simpa using hb
  subst e
  obtain ⟨o,e,c,d⟩:=st
  exact ⟨o,e,fun v z=>by rw [d] at z; cases z⟩
 keep:=fun i h h' st k=>st.at fun o e=>k it (by simp) o e
 item:=by
  intro X hP hw hK hc i pins s σ H E I hf st hg
  subst hP hw hK
  obtain ⟨xs,x,hq,hx⟩:=hg
  obtain ⟨its,rv,p,hz⟩:=I.list hq
  obtain ⟨u,hu,ru⟩:=rv.get hx
  obtain ⟨f0,f1,f2,f3,f4,f5⟩:=hf it (by simp)
  refine wpAny_pyNext_list_item st p.isList (x:=u) (by simpa using hu) fun h' st' sb=>?_
  have I1:Inv X pins σ H { s with heap:=h' }:=I.turned (t':=s.toks) (fun b o hb e=>(sb.2 b hb).trans e) f0 f1 f3 f4 f5
  obtain ⟨o,e,c,d⟩:=id st'
  exact ⟨u,rfl,go_of (s:={ s with heap:=h' }) e c d (by decide) ⟨x,H,I1,ru,⟨rfl,fun ys hy=>by rw [I.list_inj hy hq]; exact hx⟩,st',fun b hb=>(hf b hb).1⟩⟩
 done:=by
  intro X hP hw hK hc i pins s σ H E I hf st hg
  subst hP hw hK
  obtain ⟨xs,hq,hx⟩:=hg
  obtain ⟨its,rv,p,hz⟩:=I.list hq
  obtain ⟨f0,f1,f2,f3,f4,f5⟩:=hf it (by simp)
  have hl:=rv.length
  exact wpAny_pyNext_list_end (I.ok.hd hc) st p.isList (by simp; omega) fun h' eb=>⟨rfl,I.turned (t':=s.toks) (fun b o hb e=>eb b o hb e) f0 f1 f3 f4 f5⟩
 self:=fun _ _ _ _ _ st h=>wpAny_pyIter_listiter st h
theorem turn_tuple {P:Program} {w:World} {K:Frag} {tg:Expr} (a it:Addr):Turn P w K tg (Itt K a) [it] it (fun i h=>h.IsTupleIter it a i) where
 mem:=by simp
 obj:=fun i h st b hb=>by
  have e:b=it:=by simpa using hb
  subst e
  obtain ⟨o,e,c,d⟩:=st
  exact ⟨o,e,fun v z=>by rw [d] at z; cases z⟩
 keep:=fun i h h' st k=>st.at fun o e=>k it (by simp) o e
 item:=by
  intro X hP hw hK hc i pins s σ H E I hf st hg
  subst hP hw hK
  obtain ⟨xs,x,hq,hx⟩:=hg
  obtain ⟨its,rv,p,hz⟩:=I.tuple hq
  obtain ⟨u,hu,ru⟩:=rv.get hx
  obtain ⟨f0,f1,f2,f3,f4,f5⟩:=hf it (by simp)
  refine wpAny_pyNext_tuple_item st (show s.heap.IsTuple a its.toArray from p) (x:=u) (by simpa using hu) fun h' st' sb=>?_
  have I1:Inv X pins σ H { s with heap:=h' }:=I.turned (t':=s.toks) (fun b o hb e=>(sb.2 b hb).trans e) f0 f1 f3 f4 f5
  obtain ⟨o,e,c,d⟩:=id st'
  exact ⟨u,rfl,go_of (s:={ s with heap:=h' }) e c d (by decide) ⟨x,H,I1,ru,⟨rfl,fun ys hy=>by rw [I.tuple_inj hy hq]; exact hx⟩,st',fun b hb=>(hf b hb).1⟩⟩
 done:=by
  intro X hP hw hK hc i pins s σ H E I hf st hg
  subst hP hw hK
  obtain ⟨xs,hq,hx⟩:=hg
  obtain ⟨its,rv,p,hz⟩:=I.tuple hq
  obtain ⟨f0,f1,f2,f3,f4,f5⟩:=hf it (by simp)
  have hl:=rv.length
  exact wpAny_pyNext_tuple_end (I.ok.hd hc) st (show s.heap.IsTuple a its.toArray from p) (by simp; omega) fun h' eb=>⟨rfl,I.turned (t':=s.toks) (fun b o hb e=>eb b o hb e) f0 f1 f3 f4 f5⟩
 self:=fun _ _ _ _ _ st h=>wpAny_pyIter_tupleiter st h
theorem turn_range {P:Program} {w:World} {K:Frag} {tg:Expr} (it:Addr) (lo:Int) (n:Nat):Turn P w K tg (Itr lo n) [it] it (fun i h=>IsRangeIter h it (lo+(i:Nat)*1) ((n:Int)-(i:Nat)) 1) where
 mem:=by simp
 obj:=fun i h st b hb=>by
  have e:b=it:=by simpa using hb
  subst e
  exact ⟨_,st,fun v z=>by
   have z':Data.fields _=Data.cell v:=z
   cases z'⟩
 keep:=fun i h h' st k=>k it (by simp) _ st
 item:=by
  intro X hP hw hK hc i pins s σ H E I hf st hg
  subst hP hw hK
  obtain ⟨f0,f1,f2,f3,f4,f5⟩:=hf it (by simp)
  have W:=Walks.range (prog:=X.prog) (w:=X.w) (I.ok.hd hc) it lo 1 n
  refine W.item i s _ _ hg st fun v h' tk hv st' kk=>?_
  obtain ⟨t,rfl⟩:=hv
  have I1:Inv X pins σ H { s with heap:=h',toks:=tk }:=I.turned (fun b o hb e=>kk b o (by simpa using hb) e) f0 f1 f3 f4 f5
  refine ⟨_,rfl,go_of (s:={ s with heap:=h',toks:=tk }) (n := "range_iterator") st' rfl rfl (by decide) ⟨.int (lo+i),H,I1,⟨t,?_⟩,⟨rfl,rfl⟩,st',fun b hb=>(hf b hb).1⟩⟩
  rw [Int.mul_one]
 done:=by
  intro X hP hw hK hc i pins s σ H E I hf st hg
  subst hP hw hK
  obtain ⟨f0,f1,f2,f3,f4,f5⟩:=hf it (by simp)
  exact wpAny_pyNext_range_end (I.ok.hd hc) st (by have:n<=i:=hg; omega) fun h' eb=>⟨rfl,I.turned (t':=s.toks) (fun b o hb e=>eb b o hb e) f0 f1 f3 f4 f5⟩
 self:=fun _ _ _ _ _ st h=>wpAny_pyIter_rangeiter st h
end L2
namespace L2
open PySem PySem.Spec PyProof.Rows
section
variable {X:Cx} {tg:Expr}
theorem range_it {pins:List (Addr×Obj)} {σ:St} {H:Hp} {s:Shared} {R:It->Hp->Prop} {E:Value->Shared->Prop} {lo hi:Int} {t u v:Tok} {tk:Nat} (I:Inv X pins σ H s) (h1:-(2^62)<=lo) (h2:lo<2^62) (h3:-(2^62)<=hi) (h4:hi<2^62)
  (q:R (Itr lo (hi-lo).toNat) H):wpAny (model X.prog X.w) X.A (pyIter (.ref s.heap.objs.size)) (PIE X pins σ tg R) E { s with heap:=s.heap.push { cls:=.type "range",data:=.fields #[.int lo t,.int hi u,.int 1 v] },toks:=tk }:=by
 refine wpAny_pyIter_range (IsRange.new ..) (small_one h1 h2 h3 h4) ?_
 have I1:Inv X pins σ H { s with heap:=s.heap.push { cls:=.type "range",data:=.fields #[.int lo t,.int hi u,.int 1 v] },toks:=tk }:=I.kept fun b o e=>Heap.get?_push_of_some _ e
 refine ⟨(s.heap.push { cls:=.type "range",data:=.fields #[.int lo t,.int hi u,.int 1 v] }).objs.size,[(s.heap.push { cls:=.type "range",data:=.fields #[.int lo t,.int hi u,.int 1 v] }).objs.size],_,_,H,rfl,
  I1.kept (t':=tk) fun b o e=>Heap.get?_push_of_some _ e,turn_range _ lo (hi-lo).toNat,?_,fun b hb=>?_,q⟩
 ·have e1:lo+((0:Nat):Int)*1=lo:=by simp
  have e2:(((hi-lo).toNat:Nat):Int)-((0:Nat):Int)=Builtin.Range.rangeSize lo hi 1:=by rw [rangeSize_one]; split <;> omega
  show IsRangeIter _ _ (lo+((0:Nat):Int)*1) ((((hi-lo).toNat:Nat):Int)-((0:Nat):Int)) 1
  rw [e1,e2]
  exact Heap.get?_push_size _ rfl
 ·have e:b=(s.heap.push { cls:=.type "range",data:=.fields #[.int lo t,.int hi u,.int 1 v] }).objs.size:=by simpa using hb
  subst e
  exact I1.fpOk (Nat.le_refl _) (I1.hok.fresh (Nat.le_refl _))
def iRng1 (ta:TA):TI:=fun σ H R=>ta σ H fun vs H1=>∃ j:Int,vs = [.int j] /\ -(2^62)<=j/\j<2^62/\R (Itr 0 j.toNat) H1
theorem pi_range1 {a:Expr} {ta:TA} {p pos:Pos} (hg:Gl X "range") (hm:X.mg "range" = none) (ha:PA X [a] ta) (hs:starEach [a] X.env = [(false,eval a X.env)]:=by rfl):PI X tg (.Call (.Name "range" p) [a] [] pos) (iRng1 ta):=by
 intro pins s σ H R I h
 refine Call_ (ld_blt I hg hm boot_range (PyProof.Rows.callWith_type1 (thn (ha pos pins s σ H _ I h) fun us s1 zz14=>?_) hs rfl))
 obtain ⟨vs,H1,I1,r1,q1⟩:=zz14
 obtain ⟨j,e,q1,q2,q⟩:=q1
 subst e
 cases r1 with
 | cons r rr=>
  cases rr
  obtain ⟨t,rfl⟩:=r
  exact call_range_1 (range_it I1 (by omega) (by omega) q1 q2 (by simpa using q))
def tFor (wi:TI) (g:TG) (tb:TS):TS:=fun D σ H=>wi σ H fun J H1=>∃ W:Nat->Nat->St->Hp->Prop,(∃ m,W 0 m σ H1)/\∀ i m σ H,W i m σ H ->
 (J.stop i H/\D.nx σ H)\/(J.go i H/\∃ N:St->Hp->Prop,(∀ σ' H',N σ' H'->∃ m',m'<m/\W (i+1) m' σ' H')/\∀ x H',J.yld i H x H'->g x σ H' fun σ2 H2=>tb { D with nx:=N,ct:=N,bk:=D.nx } σ2 H2)
def pinsAt (fp:List Addr) (h:Heap):List (Addr×Obj):=fp.filterMap fun b=>(h.get? b).map fun o=>(b,o)
theorem mem_pinsAt {fp:List Addr} {h:Heap} {b:Addr} {o:Obj} (hb:b∈fp) (e:h.get? b=some o):(b,o)∈pinsAt fp h:=List.mem_filterMap.mpr ⟨b,hb,by rw [e]; rfl⟩
theorem of_pinsAt {fp:List Addr} {h:Heap} {p:Addr×Obj} (hp:p∈pinsAt fp h):p.1∈fp/\h.get? p.1=some p.2:=by
 obtain ⟨b,hb,e⟩:=List.mem_filterMap.mp hp
 cases q:h.get? b with
 | none=>rw [q] at e; cases e
 | some o=>
  rw [q] at e
  have e':(b,o)=p:=Option.some.inj e
  subst e'
  exact ⟨hb,q⟩
theorem Inv.pinned {pins:List (Addr×Obj)} {σ:St} {H:Hp} {s:Shared} {fp:List Addr} (I:Inv X pins σ H s) (hf:∀ b∈fp,FpOk X pins H b) (ho:∀ b∈fp,∃ o,s.heap.get? b=some o/\∀ v,o.data≠.cell v):Inv X (pins++pinsAt fp s.heap) σ H s:=
 I.pins_of fun p hp=>(List.mem_append.mp hp).elim (fun z=>I.pin p (List.mem_append_right _ z)) fun z=>by
  obtain ⟨hb,e⟩:=of_pinsAt z
  obtain ⟨f0,f1,f2,_⟩:=hf p.1 hb
  obtain ⟨o,e',d⟩:=ho p.1 hb
  rw [e] at e'; cases e'
  exact ⟨e,f0,f1,f2,d⟩
theorem Inv.unpinned {pins pl:List (Addr×Obj)} {σ:St} {H:Hp} {s:Shared} (I:Inv X (pins++pl) σ H s):Inv X pins σ H s:=I.pins_of fun p hp=>I.pin p (List.mem_append_right _ (List.mem_append_left _ hp))
theorem ps_for {iter:Expr} {body:List Stmt} {wi:TI} {g:TG} {tb:TS} {pos:Pos} (hp:PassesOwn (model X.prog X.w) X.A X.env X.xe) (hc:X.calm=true) (hi:PI X tg iter wi) (hg:PG X tg g) (hb:PSs X body tb)
  (hs:∀ x,foldedSetIterable iter X.env x=pure x:=by intro _; rfl):PS X (.For tg iter body [] pos) (tFor wi g tb):=by
 intro pins s σ H D I h
 refine wpAny_For (thn (hi pins s σ H _ I h) fun v s1 h1=>thn h1 fun itv s2 h2=>?_) hs
 obtain ⟨it,fp,tn,J,H2,e,I2,T,st2,f2,W,⟨m0,w0⟩,turn⟩:=h2
 subst e
 -- what stays true of the iterator's objects through the loop
 have stat:∀ {H':Hp},(∀ b∈fp,H' b=none)->∀ b∈fp,FpOk X pins H' b:=fun hn b hb=>⟨hn b hb,(f2 b hb).2⟩
 refine codeAny_forLoop_any (fun n s'=>∃ i σ' H',Inv X pins σ' H' s'/\tn i s'.heap/\(∀ b∈fp,H' b=none)/\W i n σ' H') ?_ m0 ⟨0,σ,H2,I2,st2,fun b hb=>(f2 b hb).1,w0⟩
 rintro n s3 ⟨i,σ3,H3,I3,st3,fr3,w3⟩
 rcases turn i n σ3 H3 w3 with ⟨stop,qn⟩ | ⟨go,N,hN,step⟩
 ·refine wpAny_passesOwn hp (thn (T.done X rfl rfl rfl hc i pins s3 σ3 H3 X.xe I3 (stat fr3) st3 stop) fun r s4 ⟨hr,I4⟩=>?_)
  subst hr
  exact wpAny_execs_nil ⟨σ3,H3,I4,qn⟩
 ·refine wpAny_passesOwn hp (thn (T.item X rfl rfl rfl hc i pins s3 σ3 H3 X.xe I3 (stat fr3) st3 go) fun r s4 ⟨u,hr,h4⟩=>?_)
  subst hr
  refine wpAny_passesOwn hp (thn h4 fun _ s5 zz17=>?_)
  obtain ⟨x,H5,I5,r5,y5,st5,fr5⟩:=zz17
  have I5':=I5.pinned (stat fr5) (T.obj _ _ st5)
  refine wpAny_passesOwn hp (thn (hg _ s5 σ3 H5 x u _ I5' r5 (step x H5 y5)) fun _ s6 zz18=>?_)
  obtain ⟨σ6,H6,I6,q6⟩:=zz18
  refine wpAny_passesOwn hp (thn (hb _ s6 σ6 H6 _ I6 q6) fun f s7 q7=>?_)
  have again:∀ {σ7:St} {H7:Hp},Inv X (pins++pinsAt fp s5.heap) σ7 H7 s7->N σ7 H7->∃ m,m<n/\∃ i σ' H',Inv X pins σ' H' s7/\tn i s7.heap/\(∀ b∈fp,H' b=none)/\W i m σ' H':=fun {σ7 H7} I7 n7=>by
   obtain ⟨m',hm,w7⟩:=hN σ7 H7 n7
   refine ⟨m',hm,i+1,σ7,H7,I7.unpinned,T.keep _ _ _ st5 fun b hb o e=>(I7.pin (b,o) (List.mem_append_right _ (List.mem_append_right _ (mem_pinsAt hb e)))).1,fun b hb=>?_,w7⟩
   obtain ⟨o,e,d⟩:=T.obj _ _ st5 b hb
   exact (I7.pin (b,o) (List.mem_append_right _ (List.mem_append_right _ (mem_pinsAt hb e)))).2.1
  cases f with
  | next=>obtain ⟨σ7,H7,I7,n7⟩:=q7; exact again I7 n7
  | cont=>obtain ⟨σ7,H7,I7,n7⟩:=q7; exact again I7 n7
  | brk=>obtain ⟨σ7,H7,I7,q7⟩:=q7; exact ⟨σ7,H7,I7.unpinned,q7⟩
  | ret v=>obtain ⟨x7,σ7,H7,I7,r7,q7⟩:=q7; exact ⟨x7,σ7,H7,I7.unpinned,r7,q7⟩
end
end L2
namespace L2
open PySem PySem.Spec PyProof.Rows
abbrev R2:=V->V->Hp->VK->Prop
def OpR (X:Cx) (f:Value->Value->Sem Value) (r:R2):Prop:=
 ∀ (pins:List (Addr×Obj)) (s:Shared) (σ:St) (H:Hp) (x y:V) (v u:Value) (Q:VK),Inv X pins σ H s->RelV x v->RelV y u->r x y H Q ->
  wpAny (model X.prog X.w) X.A (f v u) (EP X pins σ Q) X.xe s
def UnR (X:Cx) (f:Value->Sem Value) (r:V->Hp->VK->Prop):Prop:=
 ∀ (pins:List (Addr×Obj)) (s:Shared) (σ:St) (H:Hp) (x:V) (v:Value) (Q:VK),Inv X pins σ H s->RelV x v->r x H Q ->
  wpAny (model X.prog X.w) X.A (f v) (EP X pins σ Q) X.xe s
def CallR (X:Cx) (f:Value) (r:List V->Hp->VK->Prop):Prop:=
 ∀ (pins:List (Addr×Obj)) (s:Shared) (σ:St) (H:Hp) (xs:List V) (us:List Value) (Q:VK),Inv X pins σ H s->Vals xs us->r xs H Q ->
  wpAny (model X.prog X.w) X.A (call f us) (EP X pins σ Q) X.xe s
def tOp (r:R2) (ta tb:TE):TE:=fun σ H Q=>ta σ H fun x H1=>tb σ H1 fun y H2=>r x y H2 Q
def tUn (r:V->Hp->VK->Prop) (ta:TE):TE:=fun σ H Q=>ta σ H fun x H1=>r x H1 Q
def rI (C:Int->Int->Prop) (g:Int->Int->V):R2:=fun x y H Q=>∃ i j,x=.int i/\y=.int j/\C i j/\Q (g i j) H
def rI0 (g:Int->Int->V):R2:=fun x y H Q=>∃ i j,x=.int i/\y=.int j/\Q (g i j) H
def rU (g:Int->V):V->Hp->VK->Prop:=fun x H Q=>∃ i,x=.int i/\Q (g i) H
section
variable {X:Cx} {a b c:Expr} {ta tb tc:TE} {pos:Pos}
theorem binT (ha:PE X a ta) (hb:PE X b tb) {pins:List (Addr×Obj)} {s:Shared} {σ:St} {H:Hp} {R:V->V->Hp->Prop} (I:Inv X pins σ H s)
  (h:ta σ H fun x H1=>tb σ H1 fun y H2=>R x y H2) {Q:Value->Shared->Prop} {f:Value->Value->Sem Value}
  (hf:∀ v u s2 x y H2,Inv X pins σ H2 s2->RelV x v->RelV y u->R x y H2->wpAny (model X.prog X.w) X.A (f v u) Q X.xe s2) :
  wpAny (model X.prog X.w) X.A (eval a X.env) (fun v s₁=>wpAny (model X.prog X.w) X.A (eval b X.env) (fun u s₂=>wpAny (model X.prog X.w) X.A (f v u) Q X.xe s₂) X.xe s₁) X.xe s:=by
 refine thn (ha pins s σ H _ I h) fun v s1 zz19=>?_
 obtain ⟨x,H1,I1,r1,q1⟩:=zz19
 refine thn (hb pins s1 σ H1 _ I1 q1) fun u s2 zz20=>?_
 obtain ⟨y,H2,I2,r2,q2⟩:=zz20
 exact hf v u s2 x y H2 I2 r1 r2 q2
theorem pe_op {op:Operator} {r:R2} (ho:OpR X (binaryOp op) r) (ha:PE X a ta) (hb:PE X b tb):PE X (.BinOp a op b pos) (tOp r ta tb):=by
 intro pins s σ H Q I h
 exact wpAny_BinOp (binT ha hb I h fun v u s2 x y H2 I2 rx ry q=>ho pins s2 σ H2 x y v u Q I2 rx ry q)
theorem pe_un {op:UnaryOp} {r:V->Hp->VK->Prop} (ho:UnR X (unaryOp op) r) (ha:PE X a ta):PE X (.UnaryOp op a pos) (tUn r ta):=by
 intro pins s σ H Q I h
 exact UnaryOp_ (thn (ha pins s σ H _ I h) fun v s1 zz21=>by obtain ⟨x,H1,I1,r1,q1⟩:=zz21; exact ho pins s1 σ H1 x v Q I1 r1 q1)
theorem opI {f:Value->Value->Sem Value} {C:Int->Int->Prop} {g:Int->Int->Int}
  (rule:∀ (i j:Int) (t u:Tok) (s:Shared) (Q:Value->Shared->Prop) (E:Value->Shared->Prop),C i j->Q (.int (g i j) s.toks) { s with toks:=s.toks+1 }->wpAny (model X.prog X.w) X.A (f (.int i t) (.int j u)) Q E s) :
  OpR X f (rI C fun i j=>.int (g i j)):=by
 intro pins s σ H x y v u Q I rx ry h
 obtain ⟨i,j,rfl,rfl,hc,q⟩:=h
 obtain ⟨t,rfl⟩:=rx
 obtain ⟨t',rfl⟩:=ry
 exact rule i j t t' s _ _ hc ⟨.int (g i j),H,I.tok _,⟨_,rfl⟩,q⟩
theorem opI0 {f:Value->Value->Sem Value} {g:Int->Int->Int}
  (rule:∀ (i j:Int) (t u:Tok) (s:Shared) (Q:Value->Shared->Prop) (E:Value->Shared->Prop),Q (.int (g i j) s.toks) { s with toks:=s.toks+1 }->wpAny (model X.prog X.w) X.A (f (.int i t) (.int j u)) Q E s) :
  OpR X f (rI0 fun i j=>.int (g i j)):=by
 intro pins s σ H x y v u Q I rx ry h
 obtain ⟨i,j,rfl,rfl,q⟩:=h
 obtain ⟨t,rfl⟩:=rx
 obtain ⟨t',rfl⟩:=ry
 exact rule i j t t' s _ _ ⟨.int (g i j),H,I.tok _,⟨_,rfl⟩,q⟩
theorem opB0 {f:Value->Value->Sem Value} {g:Int->Int->Bool}
  (rule:∀ (i j:Int) (t u:Tok) (s:Shared) (Q:Value->Shared->Prop) (E:Value->Shared->Prop),Q (.bool (g i j)) s->wpAny (model X.prog X.w) X.A (f (.int i t) (.int j u)) Q E s) :
  OpR X f (rI0 fun i j=>.bl (g i j)):=by
 intro pins s σ H x y v u Q I rx ry h
 obtain ⟨i,j,rfl,rfl,q⟩:=h
 obtain ⟨t,rfl⟩:=rx
 obtain ⟨t',rfl⟩:=ry
 exact rule i j t t' s _ _ ⟨.bl (g i j),H,I,rfl,q⟩
def CDiv (i j:Int):Prop:=0<j/\j<1073741824
def CPow (i j:Int):Prop:=0<=j/\j<=1000000/\i.natAbs<2^64
def CMul (i j:Int):Prop:=(-(2^64)<i/\i<2^64)\/(-(2^64)<j/\j<2^64)
theorem CMul.ok {i j:Int} (h:CMul i j):IntMulOk i j:=by
 rcases h with ⟨h1,h2⟩ | ⟨h1,h2⟩
 ·exact .of_left (intBits_le_64 h1 h2)
 ·exact .of_right (intBits_le_64 h1 h2)
theorem op_add:OpR X (binaryOp .Add) (rI0 fun i j=>.int (i+j)):=opI0 fun _ _ _ _ _ _ _ q=>add_int q
theorem op_sub:OpR X (binaryOp .Sub) (rI0 fun i j=>.int (i-j)):=opI0 fun _ _ _ _ _ _ _ q=>sub_int q
theorem op_mul:OpR X (binaryOp .Mult) (rI CMul fun i j=>.int (i*j)):=opI fun _ _ _ _ _ _ _ hc q=>mul_int q hc.ok
theorem op_fdiv:OpR X (binaryOp .FloorDiv) (rI CDiv fun i j=>.int (i/j)):=opI fun i j _ _ _ _ _ hc q=>by
 have h1:(0:Int)<j:=hc.1
 have h2:j<1073741824:=hc.2
 exact floordiv_int (by omega) (by rw [Int.fdiv_eq_ediv_of_nonneg i (by omega)]; exact q) (.inl (PyProof.noPylong_small (by omega)))
theorem op_mod:OpR X (binaryOp .Mod) (rI (fun _ j=>0<j) fun i j=>.int (i%j)):=opI fun i j _ _ _ _ _ hc q=>by
 have h1:(0:Int)<j:=hc
 exact mod_int' (by omega) (by rw [Int.fmod_eq_emod_of_nonneg i (by omega)]; exact q)
theorem op_pow:OpR X (binaryOp .Pow) (rI CPow fun i j=>.int (i^j.toNat)):=opI fun _ _ _ _ _ _ _ hc q=>pow_int_small hc.1 hc.2.1 hc.2.2 q
theorem unI {f:Value->Sem Value} {g:Int->Int}
  (rule:∀ (i:Int) (t:Tok) (s:Shared) (Q:Value->Shared->Prop) (E:Value->Shared->Prop),Q (.int (g i) s.toks) { s with toks:=s.toks+1 }->wpAny (model X.prog X.w) X.A (f (.int i t)) Q E s) :
  UnR X f (rU fun i=>.int (g i)):=by
 intro pins s σ H x v Q I rx h
 obtain ⟨i,rfl,q⟩:=h
 obtain ⟨t,rfl⟩:=rx
 exact rule i t s _ _ ⟨.int (g i),H,I.tok _,⟨_,rfl⟩,q⟩
theorem un_neg:UnR X (unaryOp .USub) (rU fun i=>.int (-i)):=unI fun _ _ _ _ _ q=>neg_int q
end
def scal:V->V->Bool
 | .non,.non=>true | .non,.int _=>true | .int _,.non=>true | .non,.bl _=>true | .bl _,.non=>true | .non,.str _=>true | .str _,.non=>true
 | .int _,.int _=>true | .bl _,.bl _=>true | .str _,.str _=>true | .byt _,.byt _=>true
 | .int _,.str _=>true | .str _,.int _=>true | .bl _,.str _=>true | .str _,.bl _=>true
 | _,_=>false
def rEq:R2:=fun x y H Q=>scal x y=true/\Q (.bl (decide (x=y))) H
theorem dec_int {i j:Int}:decide (V.int i=V.int j)=(i == j):=by
 rw [Bool.eq_iff_iff]
 simp
theorem dec_bl {i j:Bool}:decide (V.bl i=V.bl j)=(i == j):=by
 rw [Bool.eq_iff_iff]
 simp
theorem dec_str {i j:Str}:decide (V.str i=V.str j)=(i == j):=by
 rw [Bool.eq_iff_iff]
 simp
theorem dec_byt {i j:Array UInt8}:decide (V.byt i=V.byt j)=(i.toList == j.toList):=by
 rw [Bool.eq_iff_iff]
 cases i
 cases j
 simp
section
variable {X:Cx} {a b c:Expr} {ta tb tc:TE} {pos:Pos}
theorem fin_bl {pins:List (Addr×Obj)} {σ:St} {H:Hp} {s:Shared} {Q:VK} {k k':Bool} (I:Inv X pins σ H s) (q:Q (.bl k) H) (e:k=k'):EP X pins σ Q (.bool k') s:=by
 subst e
 exact ⟨.bl k,H,I,rfl,q⟩
theorem op_eq:OpR X (compareOp .Eq) rEq:=by
 intro pins s σ H x y v u Q I rx ry h
 obtain ⟨hs,q⟩:=h
 cases x with
 | non=>
  cases rx
  cases y with
  | non=>cases ry; exact PySem.EqNone.eq_none_none (fin_bl I q (by simp))
  | bl j=>cases ry; exact PySem.EqNone.eq_none_bool (fin_bl I q (by simp))
  | int j=>obtain ⟨t',rfl⟩:=ry; exact PySem.EqNone.eq_none_int (fin_bl I q (by simp))
  | str j=>obtain ⟨t',rfl⟩:=ry; exact PySem.EqNone.eq_none_str (fin_bl I q (by simp))
  | _=>exact absurd (show false=true from hs) Bool.false_ne_true
 | bl i=>
  cases rx
  cases y with
  | non=>cases ry; exact PySem.EqNone.eq_bool_none (fin_bl I q (by simp))
  | bl j=>cases ry; exact eq_bool (fin_bl I q dec_bl)
  | str j=>obtain ⟨t',rfl⟩:=ry; exact PySem.EqMixed.eq_bool_str (fin_bl I q (by simp))
  | _=>exact absurd (show false=true from hs) Bool.false_ne_true
 | int i=>
  obtain ⟨t,rfl⟩:=rx
  cases y with
  | non=>cases ry; exact PySem.EqNone.eq_int_none (fin_bl I q (by simp))
  | int j=>obtain ⟨t',rfl⟩:=ry; exact eq_int (fin_bl I q dec_int)
  | str j=>obtain ⟨t',rfl⟩:=ry; exact PySem.EqMixed.eq_int_str (fin_bl I q (by simp))
  | _=>exact absurd (show false=true from hs) Bool.false_ne_true
 | str i=>
  obtain ⟨t,rfl⟩:=rx
  cases y with
  | non=>cases ry; exact PySem.EqNone.eq_str_none (fin_bl I q (by simp))
  | bl j=>cases ry; exact PySem.EqMixed.eq_str_bool (fin_bl I q (by simp))
  | int j=>obtain ⟨t',rfl⟩:=ry; exact PySem.EqMixed.eq_str_int (fin_bl I q (by simp))
  | str j=>obtain ⟨t',rfl⟩:=ry; exact eq_str (fin_bl I q dec_str)
  | _=>exact absurd (show false=true from hs) Bool.false_ne_true
 | byt i=>
  obtain ⟨t,rfl⟩:=rx
  cases y with
  | byt j=>obtain ⟨t',rfl⟩:=ry; exact PySem.W.eq_bytes (fin_bl I q dec_byt)
  | _=>exact absurd (show false=true from hs) Bool.false_ne_true
 | _=>cases y <;> exact absurd (show false=true from hs) Bool.false_ne_true
theorem op_lt:OpR X (compareOp .Lt) (rI0 fun i j=>.bl (decide (i<j))):=opB0 fun _ _ _ _ _ _ _ q=>lt_int q
theorem op_le:OpR X (compareOp .LtE) (rI0 fun i j=>.bl (decide (i<=j))):=opB0 fun _ _ _ _ _ _ _ q=>le_int q
theorem op_notN:OpR X (compareOp .IsNot) (fun x y H Q=>y=.non/\Q (.bl (!decide (x=.non))) H):=by
 intro pins s σ H x y v u Q I rx ry h
 obtain ⟨rfl,q⟩:=h
 cases ry
 refine isnot_none_gen (fin_bl I q ?_)
 cases x <;> first
  | (cases rx; rfl)
  | (obtain ⟨t,rfl⟩:=rx; rfl)
theorem nomark (b:Expr) {op:CmpOp} (h:op≠.In:=by decide) (h2:op≠.NotIn:=by decide):behindInMarks op b=false:=by
 have e1:(op == CmpOp.In)=false:=by cases op <;> first | rfl | exact absurd rfl h
 have e2:(op == CmpOp.NotIn)=false:=by cases op <;> first | rfl | exact absurd rfl h2
 cases b <;> simp [behindInMarks,e1,e2]
theorem pe_cmpR {op:CmpOp} {r:R2} (ho:OpR X (compareOp op) r) (ha:PE X a ta) (hb:PE X b tb) (hm:behindInMarks op b=false):PE X (.Compare a [op] [b] pos) (tOp r ta tb):=by
 intro pins s σ H Q I h
 exact wpAny_Compare1 (binT ha hb I h fun v u s2 x y H2 I2 rx ry q=>ho pins s2 σ H2 x y v u Q I2 rx ry q) hm
def tTest (t:TE):TT:=fun σ H Q=>t σ H fun x H'=>∃ k,x=.bl k/\Q k H'
theorem pt_cmpR {op:CmpOp} {r:R2} (ho:OpR X (compareOp op) r) (ha:PE X a ta) (hb:PE X b tb) (hm:behindInMarks op b=false):PT X (.Compare a [op] [b] pos) (tTest (tOp r ta tb)):=by
 intro pins s σ H Q I h
 refine wpAny_isTrue_Compare1 (thn (ha pins s σ H _ I h) fun v s1 ⟨x,H1,I1,r1,q1⟩=>thn (hb pins s1 σ H1 _ I1 q1) fun u s2 ⟨y,H2,I2,r2,q2⟩=>
  thn (ho pins s2 σ H2 x y v u _ I2 r1 r2 q2) fun c s3 ⟨z,H3,I3,r3,k,e,q3⟩=>?_) hm
 subst e
 cases r3
 exact wpAny_truthy_bool ⟨H3,I3,q3⟩
def tChain (r r':R2) (ta tb tc:TE):TE:=fun σ H Q=>ta σ H fun x H1=>tb σ H1 fun y H2=>r x y H2 fun z H3=>∃ k,z=.bl k /\
 (if k=true then tc σ H3 fun w' H4=>r' y w' H4 Q else Q (.bl false) H3)
theorem pe_chain {op op':CmpOp} {r r':R2} (ho:OpR X (compareOp op) r) (ho':OpR X (compareOp op') r') (ha:PE X a ta) (hb:PE X b tb) (hc:PE X c tc)
  (hm:lastMarks [op,op'] [b,c]=false:=by with_unfolding_all rfl):PE X (.Compare a [op,op'] [b,c] pos) (tChain r r' ta tb tc):=by
 intro pins s σ H Q I h
 refine Compare_chain (thn (ha pins s σ H _ I h) fun v s1 ⟨x,H1,I1,r1,q1⟩=>chain_link (thn (hb pins s1 σ H1 _ I1 q1) fun u s2 ⟨y,H2,I2,r2,q2⟩=>
  thn (ho pins s2 σ H2 x y v u _ I2 r1 r2 q2) fun d s3 ⟨z,H3,I3,r3,k,e,q3⟩=>?_)) hm
 subst e
 cases r3
 refine wpAny_truthy_bool ?_
 cases k with
 | false=>exact ite_ff ⟨.bl false,H3,I3,rfl,q3⟩
 | true=>exact ite_tt (chain_last (thn (hc pins s3 σ H3 _ I3 q3) fun w' s4 zz28=>by obtain ⟨z',H4,I4,r4,q4⟩:=zz28; exact ho' pins s4 σ H4 y z' u w' Q I4 r2 r4 q4))
theorem pt_chain {op op':CmpOp} {r r':R2} (ho:OpR X (compareOp op) r) (ho':OpR X (compareOp op') r') (ha:PE X a ta) (hb:PE X b tb) (hc:PE X c tc)
  (hm:lastMarks [op,op'] [b,c]=false:=by with_unfolding_all rfl):PT X (.Compare a [op,op'] [b,c] pos) (tTest (tChain r r' ta tb tc)):=by
 intro pins s σ H Q I h
 refine isTrue_chain (thn (ha pins s σ H _ I h) fun v s1 ⟨x,H1,I1,r1,q1⟩=>test_link (thn (hb pins s1 σ H1 _ I1 q1) fun u s2 ⟨y,H2,I2,r2,q2⟩=>
  thn (ho pins s2 σ H2 x y v u _ I2 r1 r2 q2) fun d s3 ⟨z,H3,I3,r3,k,e,q3⟩=>?_)) hm
 subst e
 cases r3
 refine wpAny_truthy_bool ?_
 cases k with
 | false=>
  obtain ⟨k',e',q'⟩:=q3
  cases e'
  exact ite_ff ⟨H3,I3,q'⟩
 | true=>
  refine ite_tt (test_last (thn (hc pins s3 σ H3 _ I3 q3) fun w' s4 ⟨z',H4,I4,r4,q4⟩=>thn (ho' pins s4 σ H4 y z' u w' _ I4 r2 r4 q4) fun d' s5 zz33=>?_))
  obtain ⟨z2,H5,I5,r5,k2,e2,q5⟩:=zz33
  subst e2
  cases r5
  exact wpAny_truthy_bool ⟨H5,I5,q5⟩
theorem line63:(sizeLine:Nat)<2^63:=by rw [sizeLine_eq]; decide
theorem vals1 {x:V} {us:List Value} (r:Vals [x] us):∃ u,us = [u]/\RelV x u:=by
 cases r with
 | cons r1 r2=>cases r2; exact ⟨_,rfl,r1⟩
theorem vals2 {x y:V} {us:List Value} (r:Vals [x,y] us):∃ u w',us = [u,w']/\RelV x u/\RelV y w':=by
 cases r with
 | cons r1 r2=>
  cases r2 with
  | cons r3 r4=>cases r4; exact ⟨_,_,rfl,r1,r3⟩
theorem call_str_int:CallR X (.type "str") (fun xs H Q=>∃ i,xs = [.int i]/\i.natAbs.log2<1920/\Q (.str (toString i)) H):=by
 intro pins s σ H xs us Q I r h
 obtain ⟨i,rfl,hz,q⟩:=h
 obtain ⟨u,rfl,t,rfl⟩:=vals1 r
 exact PySem.P.str_of_int hz ⟨.str _,H,I.tok _,⟨_,rfl⟩,q⟩
end
end L2
namespace L2
open PySem PySem.Spec PyProof.Rows
structure ObjM (h:Heap) (x dx C:Addr) (mA:Str->Option Value):Prop where
 obj:h.get? x=some (PySem.W.instObj C dx)
 ns:h.Ns1 dx mA
 ne:dx≠x
theorem lookIn_ns {h:Heap} {dx:Addr} {mA:Str->Option Value} (n:h.Ns1 dx mA):∃ od,h.get? dx=some od/\∀ name,PySem.W.lookIn name od=some (mA name):=by
 obtain ⟨o,es,ep,ho,hd,hk,_,hm⟩:=n
 refine ⟨o,ho,fun name=>?_⟩
 have e:=hm name
 unfold nsFind findBy at e
 rw [<- Array.find?_toList] at e
 unfold PySem.W.lookIn
 rw [hd]
 dsimp only
 split
 ·rename_i y q
  rw [q] at e
  exact congrArg some e
 ·rename_i q
  rw [q] at e
  have a:es.toList.any (·.refKey)=false:=by
   rw [List.any_eq_false]
   intro y hy
   obtain ⟨z,t,hkey⟩:=hk y (Array.mem_toList_iff.mp hy)
   simp [DictEntry.refKey,hkey]
  have a':¬ es.toList.any (·.refKey)=true:=by rw [a]; exact Bool.false_ne_true
  rw [if_neg a']
  exact congrArg some e
theorem ObjM.look {h:Heap} {x dx C:Addr} {mA:Str->Option Value} (I:ObjM h x dx C mA):∃ od,PySem.W.InstAt h x (PySem.W.instObj C dx) C (some od)/\∀ name,PySem.W.lookIn name od=some (mA name):=
 let ⟨od,ho,hl⟩:=lookIn_ns I.ns
 ⟨od,⟨I.obj,rfl,rfl,ho⟩,hl⟩
section
variable {prog:Program} {w:World} {A:Around} {E:Value->Shared->Prop} {s:Shared} {K:Frag} {x dx C f:Addr} {mA:Str->Option Value} {name:Str} {v:Value}
end
section
variable {P:Program} {w:World} {H H':Hp} {h h':Heap} {a C dx:Addr} {fs fs':List (Str×V)}
theorem ins_get (hok:HOk P w H h) (e:H a=some (.ins C dx fs)):∃ mA,ObjM h a dx C mA/\(∀ f,RelO (fs.lookup f) (mA f))/\PySem.Within mA (fs.map (·.1))/\fs.length<=1000/\H dx=some (.own a):=by
 obtain ⟨d,z,ne,ob,mA,n,r,q⟩:=(show ObjOk P w H h a (.ins C dx fs) from hok a _ e)
 exact ⟨mA,⟨ob,n,ne⟩,r,q,z,d⟩
end
structure Cls (K:Frag) (C:Addr):Prop where
 pg:PySem.W.plainGet K C Str.empty=true
 hd:PySem.W.hasDictIn K C=true
 po:PySem.W.plainOver K C=true
 sa:PySem.W.findIn K (.ref C) "__setattr__" = some (some (.builtin "object.__setattr__"))
theorem Cls.get {K:Frag} {C:Addr} (c:Cls K C) (f:Str):PySem.W.plainGet K C f=true:=c.pg
section
variable {X:Cx} {pins:List (Addr×Obj)} {σ:St} {H:Hp} {s:Shared} {a C dx:Addr} {fs:List (Str×V)} {f:Str} {v:V} {A:Around} {E:Value->Shared->Prop}
end
section
variable {X:Cx} {o e value:Expr} {f:Str} {pos pos' tpos:Pos} {ta tv:TE}
end
section
variable {X:Cx} {pins:List (Addr×Obj)} {σ:St} {H:Hp} {s:Shared} {A:Around} {E:Value->Shared->Prop} {Q:Value->Shared->Prop} {c:Value} {b:Bool}
inductive TyOf (K:Frag) (H:Hp):V->Value->Prop where
 | non:TyOf K H .non (.type "NoneType")
 | bl (x:Bool):TyOf K H (.bl x) (.type "bool")
 | int (i:Int):TyOf K H (.int i) (.type "int")
 | str (x:Str):TyOf K H (.str x) (.type "str")
 | flt (x:UInt64):TyOf K H (.flt x) (.type "float")
 | lst {a:Addr} {xs:List V} (e:H a=some (.lst xs)):TyOf K H (.ref a) (.type "list")
 | frz {a:Addr} {o:Obj} {xs:List V} (e:H a=some (.frz o (.lst xs))):TyOf K H (.ref a) (.type "list")
 | tup {a:Addr} {xs:List V} (e:H a=some (.tup xs)):TyOf K H (.ref a) (.type "tuple")
 | dK {a:Addr} {kvs:List (Key×V)} (e:H a=some (.dK kvs)):TyOf K H (.ref a) (.type "dict")
 | dT {a:Addr} {kvs:List (List Key×V)} (e:H a=some (.dT kvs)):TyOf K H (.ref a) (.type "dict")
 | ins {a C dx:Addr} {fs:List (Str×V)} (e:H a=some (.ins C dx fs)) (cl:Cls K C) (ha:PySem.W.findIn K (.ref C) "__class__" = some (some (.builtin "object.__class__")))
   (hn:PySem.W.specialIn K (.builtin "object.__class__") "__get__" = some (some (.builtin "getset_descriptor.__get__"))) (htk:PySem.W.takesIn K (.builtin "object.__class__")=some true)
   (hm:PySem.W.mroIn K C (.type "object")=some true):TyOf K H (.ref a) (.ref C)
theorem isinst_ok {x:V} {u t:Value} (I:Inv X pins σ H s) (rx:RelV x u) (ty:TyOf X.K H x t) (e:PySem.W.kitOne X.K t c=some b) (h:∀ tk,Q (.bool b) { s with toks:=tk }) :
  wpAny (model X.prog X.w) A (call (.builtin "isinstance") [u,c]) Q E s:=by
 cases ty with
 | non=>cases (show u=Value.none from rx); exact PySem.W.kia_one PySem.W.kitx_none I.kIn True.intro e (fun z=>nomatch z) h
 | bl y=>cases (show u=Value.bool y from rx); exact PySem.W.kia_one PySem.W.kitx_bool I.kIn True.intro e (fun z=>nomatch z) h
 | int i=>obtain ⟨t,q⟩:=(show ∃ t,u=Value.int i t from rx); cases q; exact PySem.W.kia_one PySem.W.kitx_int I.kIn True.intro e (fun z=>nomatch z) h
 | str y=>obtain ⟨t,q⟩:=(show ∃ t,u=Value.str y t from rx); cases q; exact PySem.W.kia_one PySem.W.kitx_str I.kIn True.intro e (fun z=>nomatch z) h
 | flt y=>obtain ⟨t,q⟩:=(show ∃ t,u=Value.float y t from rx); cases q; exact PySem.W.kia_one PySem.W.kitx_float I.kIn True.intro e (fun z=>nomatch z) h
 | @lst a xs ea=>
  cases (show u=Value.ref a from rx)
  obtain ⟨_,_,n,_,h1⟩:=(show ObjOk X.prog X.w H s.heap a (.lst xs) from I.hok a _ ea)
  exact PySem.W.kia_one PySem.W.kitx_list I.kIn ⟨_,h1,rfl⟩ e (fun z=>nomatch z) h
 | @frz a ob xs ea=>
  cases (show u=Value.ref a from rx)
  obtain ⟨_,_,_,n,_,h1⟩:=(show ObjOk X.prog X.w H s.heap a (.frz ob (.lst xs)) from I.hok a _ ea)
  exact PySem.W.kia_one PySem.W.kitx_list I.kIn ⟨_,h1,rfl⟩ e (fun z=>nomatch z) h
 | @tup a xs ea=>
  cases (show u=Value.ref a from rx)
  obtain ⟨_,_,_,p⟩:=(show ObjOk X.prog X.w H s.heap a (.tup xs) from I.hok a _ ea)
  obtain ⟨o,h1,h2,_⟩:=p
  exact PySem.W.kia_one PySem.W.kitx_tuple I.kIn ⟨o,h1,h2⟩ e (fun z=>nomatch z) h
 | @dK a kvs ea=>
  cases (show u=Value.ref a from rx)
  obtain ⟨_,_,vs,_,p⟩:=(show ObjOk X.prog X.w H s.heap a (.dK kvs) from I.hok a _ ea)
  obtain ⟨o,es,ep,h1,h2,_⟩:=p
  exact PySem.W.kia_one PySem.W.kitx_dict I.kIn ⟨o,h1,h2.1⟩ e (fun z=>nomatch z) h
 | @dT a kvs ea=>
  cases (show u=Value.ref a from rx)
  obtain ⟨_,_,xs,_,o,es,ep,h1,h2,_⟩:=(show ObjOk X.prog X.w H s.heap a (.dT kvs) from I.hok a _ ea)
  exact PySem.W.kia_one PySem.W.kitx_dict I.kIn ⟨o,h1,h2.1⟩ e (fun z=>nomatch z) h
 | @ins a C dx fs ea cl ha hn htk hm=>
  cases (show u=Value.ref a from rx)
  obtain ⟨mA,O,_⟩:=ins_get I.hok ea
  obtain ⟨od,J,_⟩:=O.look
  exact PySem.W.kia_one (PySem.W.kitx_own (cl.get _) cl.hd ha hn htk hm) I.kIn J e (fun z=>nomatch z) h
end
end L2
namespace L2
open PySem PySem.Spec PyProof.Rows
structure Room (k:Nat) (A:Around):Prop where
 hd:A.handled=none
 dp:A.depth+3*k+5<recursionLimit
 un:A.units+16*k+200<cLine
theorem Room.mono {j k:Nat} {A:Around} (r:Room k A) (h:j<=k):Room j A:=⟨r.hd,by have:=r.dp; omega,by have:=r.un; omega⟩
theorem Room.deeper {k:Nat} {A:Around} (r:Room (k+1) A) (env:Env):Room k (A.deeper env):=
 ⟨r.hd,by have:=r.dp; show A.depth+1+3*k+5<_; omega,by have:=r.un; show A.units+3+16*k+200<_; omega⟩
theorem Room.depth {k:Nat} {A:Around} (r:Room k A):A.depth<recursionLimit:=by have:=r.dp; omega
theorem Room.units {k:Nat} {A:Around} (r:Room k A):A.units+64<cLine:=by have:=r.un; omega
def tNil:TA:=fun _ H Q=>Q [] H
def tCons (ta:TE) (tr:TA):TA:=fun σ H Q=>ta σ H fun x H1=>tr σ H1 fun xs H2=>Q (x::xs) H2
section
variable {X:Cx} {e:Expr} {es:List Expr} {te:TE} {t:TA} {pos:Pos}
theorem pa_nil:PA X [] tNil:=fun _ _ _ _ H Q I h=>Calls.spliced_nil ⟨[],H,I,.nil,h⟩
theorem pa_cons (ha:PE X e te) (hr:PA X es t) (hs:starEach (e::es) X.env=(false,eval e X.env)::starEach es X.env:=by rfl):PA X (e::es) (tCons te t):=by
 intro pos pins s σ H Q I h
 rw [hs]
 show wpAny _ _ (spliced ((false,eval e X.env)::backTo pos (starEach es X.env))) _ _ s
 refine Calls.spliced_cons (thn (ha pins s σ H _ I h) fun u s1 zz34=>?_)
 obtain ⟨x,H1,I1,r1,q1⟩:=zz34
 exact thn (hr pos pins s1 σ H1 _ I1 q1) fun us s2 zz35=>by obtain ⟨xs,H2,I2,r2,q2⟩:=zz35; exact ⟨x::xs,H2,I2,.cons r1 r2,q2⟩
def tTup (t:TA):TE:=fun σ H Q=>t σ H fun xs H1=>xs.length<=sizeLine/\∀ p,H1 p=none->Q (.ref p) (upd H1 p (.tup xs))
def tLst (t:TA):TE:=fun σ H Q=>t σ H fun xs H1=>xs.length<=sizeLine/\∀ p,H1 p=none->Q (.ref p) (upd H1 p (.lst xs))
theorem pe_tup {x1} (h:PA X es t):PE X (.Tuple es x1 pos) (tTup t):=by
 intro pins s σ H Q I hq
 refine wpAny_Tuple_spliced (thn (h pos pins s σ H _ I hq) fun us s1 ⟨xs,H1,I1,r,z,q⟩=>⟨by rw [<- r.length]; exact z,?_⟩)
 have hf:H1 s1.heap.objs.size=none:=I1.hok.fresh (Nat.le_refl _)
 refine ⟨.ref s1.heap.objs.size,upd H1 s1.heap.objs.size (.tup xs),I1.laid (t':=s1.toks) (fun b u e=>Heap.get?_push_of_some _ e) (Nat.le_refl _) ?_,rfl,q _ hf⟩
 exact ⟨z,us,r,⟨_,Heap.get?_push_size _ rfl,rfl,_,rfl⟩⟩
theorem pe_lst (h:PA X es t):PE X (.List es pos) (tLst t):=by
 intro pins s σ H Q I hq
 refine wpAny_List_spliced (thn (h pos pins s σ H _ I hq) fun us s1 ⟨xs,H1,I1,r,z,q⟩=>⟨by rw [<- r.length]; exact z,?_⟩)
 have hf:H1 s1.heap.objs.size=none:=I1.hok.fresh (Nat.le_refl _)
 refine ⟨.ref s1.heap.objs.size,upd H1 s1.heap.objs.size (.lst xs),I1.laid (t':=s1.toks) (fun b u e=>Heap.get?_push_of_some _ e) (Nat.le_refl _) ?_,rfl,q _ hf⟩
 exact ⟨z,us,0,r,Heap.get?_push_size _ rfl⟩
end
abbrev Sp:=List V->Hp->VK->XK->Prop
abbrev CXT:=List Env->Hp->Shared->XK->Value->Shared->Prop
structure Env0 (P:Program) (w:World) (K:Frag) (mg:Str->Option Value) (base:Heap) (A:Around) (outer:List Env) (s:Shared) (H:Hp):Prop where
 frames:A.frames=some outer
 mod:Mod K mg base
 bs:∀ b o,base.get? b=some o->s.heap.get? b=some o/\H b=none
 bsz:base.objs.size<=s.heap.objs.size
 funs:s.heap.FunFrames base outer
 frf:∀ b∈frs outer,H b=none
 hok:HOk P w H s.heap
 bare:AllBare s.gens
def CE (outer:List Env) (P:Program) (w:World) (H:Hp) (s:Shared) (Q:VK) (u:Value) (s':Shared):Prop:=
 ∃ v H',s'.os=s.os/\AllBare s'.gens/\Un (frs outer) [] H H' s.heap s'.heap/\HOk P w H' s'.heap/\RelV v u/\Q v H'
def CR (CX:CXT) (outer:List Env) (P:Program) (w:World) (H:Hp) (s:Shared) (Q:VK) (E:XK) (r:Result) (s':Shared):Prop:=
 match r with
 | .ok (.ret u)=>CE outer P w H s Q u s'
 | .ok _=>False
 | .error e=>CX outer H s E e s'
structure FnOk (P:Program) (w:World) (K:Frag) (mg:Str->Option Value) (base:Heap) (CX:CXT) (k:Nat) (f:Addr) (fd:FuncData) (ps:List Str) (sp:Sp):Prop where
 len:∀ vs H Q E,sp vs H Q E->vs.length=ps.length
 run:∀ (A:Around) (outer:List Env) (s:Shared) (H:Hp) (args:Args) (us:List Value) (vs:List V) (Q:VK) (E:XK),Room k A->Env0 P w K mg base A outer s H->BindsTo s fd args (ps.zip us)->Vals vs us->sp vs H Q E ->
  codeAny (model P w) A (.call (.ref f) args) (CR CX outer P w H s Q E) s
theorem FnOk.imp {P:Program} {w:World} {K:Frag} {mg:Str->Option Value} {base:Heap} {CX:CXT} {k:Nat} {f:Addr} {fd:FuncData} {ps:List Str} {sp sp':Sp} (F:FnOk P w K mg base CX k f fd ps sp)
  (h:∀ vs H Q E,sp' vs H Q E->sp vs H Q E):FnOk P w K mg base CX k f fd ps sp':=
 ⟨fun vs H Q E q=>F.len vs H Q E (h _ _ _ _ q),fun A outer s H args us vs Q E hr he hb hv hs=>F.run A outer s H args us vs Q E hr he hb hv (h _ _ _ _ hs)⟩
section
variable {X:Cx} {pins:List (Addr×Obj)} {σ:St} {H:Hp} {s s':Shared}
theorem Inv.env0 (I:Inv X pins σ H s):Env0 X.prog X.w X.K X.mg X.base X.A X.stack s H:=
 ⟨I.ok.frames,I.ok.mod,I.bs,Nat.le_trans I.ok.bsz I.sz,I.stack,I.stkFree,I.hok,I.bare⟩
theorem Inv.after {Q:VK} {u:Value} (I:Inv X pins σ H s) (h:CE X.stack X.prog X.w H s Q u s'):EP X pins σ Q u s':=by
 obtain ⟨v,H',os,bare,un,hok,r,q⟩:=h
 obtain ⟨hh,g,d,t,os'⟩:=s'
 obtain rfl:os'=s.os:=os
 exact ⟨v,H',I.call (h':=hh) (g':=g) (d':=d) (t':=t) (ch:=[]) un hok bare (fun b z=>absurd z (by simp)),r,q⟩
end
def tCall (sp:Sp) (dvs:List V) (E:XK) (t:TA):TE:=fun σ H Q=>t σ H fun vs H1=>sp (vs++dvs) H1 Q E
def Binds (K:Frag) (fd:FuncData) (ps:List Str) (ds:List Value):Prop:=
 ∀ (s:Shared) (us:List Value),K.In s.heap->(us++ds).length=ps.length->BindsTo s fd ⟨us,[]⟩ (ps.zip (us++ds))
theorem Binds.all {K:Frag} {fd:FuncData} {ps:List Str} (h:∀ us:List Value,us.length=ps.length->bindArgs fd ⟨us,[]⟩=pure (ps.zip us)):Binds K fd ps []:=fun s us _ hl=>by
 rw [List.append_nil] at hl ⊢
 exact .of_eq (h us hl)
def Passes (CX:CXT) (X:Cx) (E:XK):Prop:=∀ (pins:List (Addr×Obj)) (σ:St) (H:Hp) (s:Shared) (e:Value) (s':Shared),Inv X pins σ H s->CX X.stack H s E e s'->X.xe e s'
section
variable {X:Cx} {CX:CXT} {k:Nat} {f C:Addr} {fd:FuncData} {ps:List Str} {sp:Sp} {dvs:List V} {ds:List Value} {E:XK} {x m:Str} {p pos apos:Pos} {e o:Expr} {es:List Expr} {ta:TE} {t:TA}
theorem run_fn {pins:List (Addr×Obj)} {σ:St} {H:Hp} {s:Shared} {Q:VK} {us:List Value} {vs:List V} (F:FnOk X.prog X.w X.K X.mg X.base CX k f fd ps sp) (hr:Room k X.A) (hb:Binds X.K fd ps ds) (hd:Vals dvs ds) (hx:Passes CX X E)
  (I:Inv X pins σ H s) (r:Vals vs us) (h:sp (vs++dvs) H Q E):wpAny (model X.prog X.w) X.A (call (.ref f) us) (EP X pins σ Q) X.xe s:=by
 have r2:Vals (vs++dvs) (us++ds):=r.append hd
 have hl:(us++ds).length=ps.length:=by rw [<- r2.length]; exact F.len _ _ _ _ h
 refine wpAny_call (codeAny_mono (F.run X.A X.stack s H ⟨us,[]⟩ (us++ds) (vs++dvs) Q E hr I.env0 (hb s us I.kIn hl) r2 h) fun r s' hq=>?_)
 cases r with
 | error e=>exact hx pins σ H s e s' I hq
 | ok fl=>
  cases fl with
  | ret u=>exact I.after hq
  | next=>exact False.elim hq
  | brk=>exact False.elim hq
  | cont=>exact False.elim hq
theorem pe_call (F:FnOk X.prog X.w X.K X.mg X.base CX k f fd ps sp) (hr:Room k X.A) (hg:Gl X x) (hm:X.mg x=some (.ref f)) (hk:PySem.W.keepIn X.K (.ref f)=true) (hb:Binds X.K fd ps ds) (hd:Vals dvs ds) (hx:Passes CX X E)
  (ha:PA X (e::es) t) (hdb:(x == ("__debug__" : Str))=false:=by decide) (he:starEach (e::es) X.env=(false,eval e X.env)::starEach es X.env:=by rfl) (hpl:(backTo pos (starEach es X.env)).any (·.1)=false:=by rfl) :
  PE X (.Call (.Name x p) (e::es) [] pos) (tCall sp dvs E t):=by
 intro pins s σ H Q I h
 refine wpAny_Call_Name_kw (ld_glob I hg hm ?_ hdb)
 refine PySem.W.callWith_K (h₀:=X.base) I.ok.mod.kin hk (thn (ha pos pins s σ H _ I h) fun us s1 ⟨vs,H1,I1,r,q⟩=>⟨I1.kIn,?_⟩) he hpl
 exact run_fn F hr hb hd hx I1 r q
end
section
variable {X:Cx} {CX:CXT} {k:Nat} {f C:Addr} {fd:FuncData} {ps ks:List Str} {sp:Sp} {E:XK} {x m:Str} {p pos apos kpos:Pos} {e o:Expr} {es:List Expr} {kws:List Keyword} {te ta:TE} {t tk:TA} {nm:Option Str}
variable {g:List Value->List Value->List Value} {gV:List V->List V->List V}
end
structure FnScope (N P:List Str) (sc:Scope):Prop where
 kind:sc.kind=.function
 co:sc.isCoroutine=false
 gen:sc.isGenerator=false
 nd:N.Nodup
 pre:N.take P.length=P
 par:∀ x∈P,sc.names.lookup x=some .local\/sc.names.lookup x=some .cell
 nofree:∀ y∈sc.names,y.2≠.free
theorem bindL_out {kindOf:Str->Option NameKind} {x:Str}:∀ {binds:List (Str×Value)} {m:Str->Option Value},(∀ v,(x,v)∉binds)->bindL kindOf binds m x=m x:=by
 intro binds
 induction binds with
 | nil=>intro m _; rfl
 | cons p r ih=>
  intro m h
  unfold bindL
  rw [ih fun w hw=>h w (List.mem_cons_of_mem _ hw)]
  split
  ·have:x≠p.1:=by rintro rfl; exact h p.2 List.mem_cons_self
   simp [this]
  ·rfl
theorem bindC_out {kindOf:Str->Option NameKind} {x:Str}:∀ {binds:List (Str×Value)} {m:Str->Option Value},(∀ v,(x,v)∉binds)->bindC kindOf binds m x=m x:=by
 intro binds
 induction binds with
 | nil=>intro m _; rfl
 | cons p r ih=>
  intro m h
  unfold bindC
  rw [ih fun w hw=>h w (List.mem_cons_of_mem _ hw)]
  split
  ·rfl
  ·have:x≠p.1:=by rintro rfl; exact h p.2 List.mem_cons_self
   simp [this]
theorem bindL_get {kindOf:Str->Option NameKind} {x:Str} {v:Value}:∀ {P:List Str} {vs:List Value} {i:Nat} {m:Str->Option Value},P.Nodup->P[i]?=some x->vs[i]?=some v->kindOf x=some .local ->
  bindL kindOf (P.zip vs) m x=some v:=by
 intro P
 induction P with
 | nil=>intro vs i m _ h _ _; cases h
 | cons p P ih=>
  intro vs i m nd h1 h2 hk
  cases vs with
  | nil=>cases h2
  | cons w vs=>
   show bindL kindOf ((p,w)::P.zip vs) m x=_
   unfold bindL
   cases i with
   | zero=>
    cases h1
    cases h2
    rw [bindL_out fun v hv=>(List.nodup_cons.mp nd).1 (List.of_mem_zip hv).1,if_pos hk]
    simp
   | succ i=>exact ih (List.nodup_cons.mp nd).2 h1 h2 hk
theorem bindC_get {kindOf:Str->Option NameKind} {x:Str} {v:Value}:∀ {P:List Str} {vs:List Value} {i:Nat} {m:Str->Option Value},P.Nodup->P[i]?=some x->vs[i]?=some v->kindOf x≠some .local ->
  bindC kindOf (P.zip vs) m x=some v:=by
 intro P
 induction P with
 | nil=>intro vs i m _ h _ _; cases h
 | cons p P ih=>
  intro vs i m nd h1 h2 hk
  cases vs with
  | nil=>cases h2
  | cons w vs=>
   show bindC kindOf ((p,w)::P.zip vs) m x=_
   unfold bindC
   cases i with
   | zero=>
    cases h1
    cases h2
    rw [bindC_out fun v hv=>(List.nodup_cons.mp nd).1 (List.of_mem_zip hv).1,if_neg hk]
    simp
   | succ i=>exact ih (List.nodup_cons.mp nd).2 h1 h2 hk
def start (N:List Str) (vs:List V):St:=vs.map some++List.replicate (N.length-vs.length) none
def cxOf (CX:CXT) (P:Program) (w:World) (K:Frag) (mg:Str->Option Value) (base:Heap) (N:List Str) (qual:Str) (scope:Scope) (f:Addr) (cd:Value) (A:Around) (outer:List Env) (s:Shared) (H:Hp) (E:XK):Cx where
 prog:=P
 w:=w
 K:=K
 mg:=mg
 base:=base
 A:=A.deeper (envOfC qual scope s.heap.objs.size f cd)
 N:=N
 s₀:=s
 H₀:=H
 env:=envOfC qual scope s.heap.objs.size f cd
 outer:=outer
 stack:=envOfC qual scope s.heap.objs.size f cd::outer
 ex:=[]
 calm:=true
 fn:=fun _=>true
 pn:=[]
 xe:=fun e s'=>wpAny (model P w) (A.deeper (envOfC qual scope s.heap.objs.size f cd)) (leaving (envOfC qual scope s.heap.objs.size f cd) e) (fun _ s''=>CX outer H s E e s'') (fun e' s''=>CX outer H s E e' s'') s'
theorem cell_has {sc:Scope} {n:Nat} {x:Str} (h:sc.names.lookup x=some .cell):∃ c,(cellsFrom n sc.names []).lookup x=some c:=by
 have q:=PySem.W.cellsFrom_some sc.names n [] (.inl h)
 exact Option.isSome_iff_exists.mp q
theorem inv_start {CX:CXT} {P:Program} {w:World} {K:Frag} {mg:Str->Option Value} {base:Heap} {N ps:List Str} {qual:Str} {scope:Scope} {f:Addr} {cd:Value} {A:Around} {outer:List Env} {s s1:Shared} {H:Hp} {E:XK} {us:List Value} {vs:List V}
  (S:FnScope N ps scope) (hd:A.handled=none) (e0:Env0 P w K mg base A outer s H) (hl:vs.length=ps.length) (r:Vals vs us)
  (x:InCallC s s.heap.objs.size (bindL (envOfC qual scope s.heap.objs.size f cd).kindOf (ps.zip us) fun _=>none) (cellsFrom (s.heap.objs.size+1) scope.names []) (bindC (envOfC qual scope s.heap.objs.size f cd).kindOf (ps.zip us) fun _=>none) s1) :
  Inv (cxOf CX P w K mg base N qual scope f cd A outer s H E) [] (start N vs) H s1:=by
 have hpl:ps.length<=N.length:=by have:=congrArg List.length S.pre; rw [List.length_take] at this; omega
 obtain ⟨h1,tk,rfl,hk⟩:=x.done
 have noA:∀ b:Addr,b∉(cxOf CX P w K mg base N qual scope f cd A outer s H E).ex:=fun b z=>absurd (show b∈([]:List Addr) from z) (by simp)
 refine ⟨⟨e0.mod,S.kind,rfl,rfl,Nat.le_refl _,fun y z c h1 h2=>?_,fun y hy=>?_,fun y c _ h=>?_,fun _=>hd,Around.frames_deeper e0.frames,.inr ⟨rfl,rfl⟩,fun b z=>absurd z (noA b),e0.bs,e0.bsz,fun b _ _=>noA b,fun b z=>absurd z (noA b),e0.funs,e0.frf⟩,
  rfl,e0.bare,Un.kept hk,⟨_,x.toInCall.ns,fun i y v h1 h2 h3=>?_⟩,fun y c h=>⟨_,x.cell y c h⟩,e0.hok.fresh (Nat.le_refl _),fun y c h=>?_,fun p hp=>absurd (show p∈([]:List (Addr×Obj)) from hp) (by simp),e0.hok.kept hk,?_⟩
 ·exact name_of_addr x.apart (PySem.mem_of_lookup h1) (PySem.mem_of_lookup h2)
 ·have hy:scope.names.lookup y=some .cell\/scope.names.lookup y=some .free:=hy
  rcases hy with hy | hy
  ·exact cell_has hy
  ·exact absurd rfl (S.nofree _ (PySem.mem_of_lookup hy))
 ·exact Nat.le_of_lt (x.above y c (PySem.mem_of_lookup h))
 ·have hi:i<vs.length:=by
   unfold start at h2
   by_cases hi:i<vs.length
   ·exact hi
   ·rw [List.getElem?_append_right (by simpa using hi)] at h2
    rw [List.getElem?_replicate] at h2
    split at h2 <;> cases h2
  have ha:vs[i]?=some v:=by
   unfold start at h2
   rw [List.getElem?_append_left (by simpa using hi),List.getElem?_map] at h2
   cases e:vs[i]? with
   | none=>rw [e] at h2; cases h2
   | some a=>rw [e] at h2; cases h2; rfl
  obtain ⟨u,hu,rv⟩:=r.get ha
  have hp:ps[i]?=some y:=by
   rw [<- S.pre,List.getElem?_take_of_lt (by omega)]; exact h1
  have ndP:ps.Nodup:=by rw [<- S.pre]; exact S.nd.sublist (List.take_sublist _ _)
  refine ⟨u,rv,?_⟩
  rcases S.par y (List.mem_of_getElem? hp) with k | k
  ·exact .inl ⟨k,bindL_get ndP hp hu k⟩
  ·obtain ⟨c,e⟩:=cell_has (n:=s.heap.objs.size+1) k
   refine .inr ⟨.inl k,c,e,?_⟩
   have q:=x.cell y c e
   rw [bindC_get ndP hp hu (by show scope.names.lookup y≠_; rw [k]; decide)] at q
   exact q
 ·exact e0.hok.fresh (Nat.le_of_lt (x.above y c (PySem.mem_of_lookup h)))
 ·unfold start
  show _=N.length
  rw [List.length_append,List.length_map,List.length_replicate]
  omega
theorem fn_of {CX:CXT} {P:Program} {w:World} {K:Frag} {mg:Str->Option Value} {base:Heap} {k:Nat} {f:Addr} {name qual:Str} {params:Arguments} {body:List Stmt} {scope:Scope} {dV kV doc pm cdv ct oc:Value} {an od:Option Addr}
  {osl:Array (Option Value)} {N ps:List Str} {sp:Sp} (lk:K.lookup f=some ⟨oc,od,.func (PySem.W.fnOf name qual params body scope dV kV doc pm an cdv ct),osl⟩) (hcd:PySem.W.codeIn K cdv qual=true) (S:FnScope N ps scope)
  (len:∀ vs H Q E,sp vs H Q E->vs.length=ps.length)
  (hbody:∀ (A:Around) (outer:List Env) (s:Shared) (H:Hp) (vs:List V) (Q:VK) (E:XK),Room k (A.deeper (envOfC qual scope s.heap.objs.size f cdv))->sp vs H Q E ->
   ∃ t,PSs (cxOf CX P w K mg base N qual scope f cdv A outer s H E) body t/\t { nx:=fun _ H'=>Q .non H',rt:=Q } (start N vs) H) :
  FnOk P w K mg base CX (k+1) f (PySem.W.fnOf name qual params body scope dV kV doc pm an cdv ct) ps sp:=by
 refine ⟨len,fun A outer s H args us vs Q E hr e0 hb r hsp=>?_⟩
 have hl:=len _ _ _ _ hsp
 have KX:K.In s.heap:=e0.mod.kin.keeps fun b o e=>(e0.bs b o e).1
 have lim:s.heap.NoLimit:=e0.mod.nolimit.keeps fun b o e=>(e0.bs b o e).1
 have hkind:∀ y∈ps.zip us,scope.names.lookup y.1=some .local\/(scope.names.lookup y.1=some .cell/\((cellsFrom (s.heap.objs.size+1) scope.names []).lookup y.1).isSome=true):=fun zz39 hy=>by
  obtain ⟨n,v⟩:=zz39
  rcases S.par n (List.of_mem_zip hy).1 with q | q
  ·exact .inl q
  ·exact .inr ⟨q,PySem.W.cellsFrom_some _ _ _ (.inl q)⟩
 refine codeAny_call_function hr.depth (KX _ _ lk) rfl S.co S.gen rfl (PySem.W.codeRec_of KX hcd) (hb _ _ _ _ ?_)
 refine wpAny_newFunctionEnv_cells S.kind hkind fun env he s1 x=>?_
 subst he
 refine ⟨lim.keeps x.toInCall.keep,codeAny_func ?_⟩
 obtain ⟨t,ht,hq⟩:=hbody A outer s H vs Q E (hr.deeper _) hsp
 have I:Inv (cxOf CX P w K mg base N qual scope f cdv A outer s H E) [] (start N vs) H s1:=inv_start S hr.hd e0 hl r x
 refine wpAny_mono (ht [] s1 (start N vs) H _ I hq) (fun fl s' hs=>?_) fun e s' hs=>hs
 have fin:∀ {σ':St} {H':Hp} {v:V} {u:Value},Inv (cxOf CX P w K mg base N qual scope f cdv A outer s H E) [] σ' H' s'->RelV v u->Q v H'->CE outer P w H s Q u s':=
  fun {σ' H' v u} J rv q=>⟨v,H',J.os,J.bare,J.base,J.hok,rv,q⟩
 cases fl with
 | ret u=>
  obtain ⟨v,σ',H',J,rv,q⟩:=hs
  exact fin J rv q
 | next=>
  obtain ⟨σ',H',J,q⟩:=hs
  exact fin (v:=V.non) (u:=Value.none) J rfl q
 | brk=>
  obtain ⟨_,_,_,q⟩:=hs
  exact False.elim q
 | cont=>
  obtain ⟨_,_,_,q⟩:=hs
  exact False.elim q
end L2
namespace L2
open PySem PySem.Spec PyProof.Rows
section
variable {X:Cx} {x:Str} {p pos:Pos} {e:Expr} {es:List Expr} {t:TA} {id T:String} {r:List V->Hp->VK->Prop}
def tCB (r:List V->Hp->VK->Prop) (t:TA):TE:=fun σ H Q=>t σ H fun vs H1=>r vs H1 Q
theorem pe_callB (hc:CallR X (.builtin id) r) (hg:Gl X x) (hm:X.mg x=none) (hv:bootBuiltins x=some (.builtin id)) (ha:PA X (e::es) t) (hn:x ≠ "__name__" := by decide) (hdb:(x == ("__debug__" : Str))=false:=by decide)
  (he:starEach (e::es) X.env=(false,eval e X.env)::starEach es X.env:=by rfl) (hpl:(backTo pos (starEach es X.env)).any (·.1)=false:=by rfl):PE X (.Call (.Name x p) (e::es) [] pos) (tCB r t):=by
 intro pins s σ H Q I h
 refine wpAny_Call_Name_kw (ld_blt I hg hm hv ?_ hn hdb)
 exact PyProof.Rows.callWith_builtin1 (thn (ha pos pins s σ H _ I h) fun us s1 zz40=>by obtain ⟨vs,H1,I1,r1,q1⟩:=zz40; exact hc pins s1 σ H1 vs us Q I1 r1 q1) he hpl
theorem pe_callTy (hc:CallR X (.type T) r) (hg:Gl X x) (hm:X.mg x=none) (hv:bootBuiltins x=some (.type T)) (ha:PA X (e::es) t) (hn:x ≠ "__name__" := by decide) (hdb:(x == ("__debug__" : Str))=false:=by decide)
  (he:starEach (e::es) X.env=(false,eval e X.env)::starEach es X.env:=by rfl) (hpl:(backTo pos (starEach es X.env)).any (·.1)=false:=by rfl):PE X (.Call (.Name x p) (e::es) [] pos) (tCB r t):=by
 intro pins s σ H Q I h
 refine wpAny_Call_Name_kw (ld_blt I hg hm hv ?_ hn hdb)
 exact PyProof.Rows.callWith_type1 (thn (ha pos pins s σ H _ I h) fun us s1 zz41=>by obtain ⟨vs,H1,I1,r1,q1⟩:=zz41; exact hc pins s1 σ H1 vs us Q I1 r1 q1) he hpl
end
end L2
namespace HT
open PySem PyProof.Rows
def lexLt:List Int->List Int->Bool
 | [],[]=>false
 | [],_::_=>true
 | _::_,[]=>false
 | x::xs,y::ys=>if x=y then lexLt xs ys else decide (x<y)
section
open PySem.SeqAt
open PySem.AutoSeq1 (wpAny_loadPart')
open PySem.MeetsSeq PySem.MeetsSeq2 PySem.MeetsSeq3
end
section
variable {prog:Program} {w:World} {A:Around} {E:Value->Shared->Prop} {s:Shared}
def sIx (n d:Nat):Option Int->Nat
 | none=>d
 | some v=>if v<0 then (v+(n:Int)).toNat else min v.toNat n
theorem sIx_nat (n d k:Nat):sIx n d (some (k:Int))=min k n:=by
 show (if (k:Int)<0 then ((k:Int)+(n:Int)).toNat else min (k:Int).toNat n)=min k n
 rw [if_neg (by omega),Int.toNat_natCast]
end
end HT
namespace L2
open PySem PySem.Spec PyProof.Rows
abbrev TO:=St->Hp->(Option Int->Hp->Prop)->Prop
def PO (X:Cx) (e:Option Expr) (t:TO):Prop:=
 ∀ (pins:List (Addr×Obj)) (s:Shared) (σ:St) (H:Hp) (Q:Option Int->Hp->Prop),Inv X pins σ H s->t σ H Q ->
  wpAny (model X.prog X.w) X.A (evalPart e X.env) (fun u s'=>∃ o H',Inv X pins σ H' s'/\IsPart u o/\Q o H') X.xe s
def tNoPart:TO:=fun _ H Q=>Q none H
def tPart (t:TE):TO:=fun σ H Q=>t σ H fun x H1=>∃ i,x=.int i/\Q (some i) H1
section
variable {X:Cx} {e:Expr} {te:TE} {lo hi:Option Expr} {tl th:TO} {pos p2:Pos}
theorem po_none:PO X none tNoPart:=by
 intro pins s σ H Q I h
 rw [evalPart_none]
 exact wpAny_pure ⟨none,H,I,.none,h⟩
theorem po_some (h:PE X e te):PO X (some e) (tPart te):=by
 intro pins s σ H Q I hw
 rw [evalPart_some]
 refine thn (h pins s σ H _ I hw) fun u s1 zz42=>?_
 obtain ⟨x,H1,I1,r1,q1⟩:=zz42
 obtain ⟨i,rfl,q⟩:=q1
 obtain ⟨t,rfl⟩:=r1
 exact ⟨some i,H1,I1,.int i t,q⟩
def SlR (X:Cx) (r:V->Option Int->Option Int->Hp->VK->Prop):Prop:=
 ∀ (pins:List (Addr×Obj)) (s:Shared) (σ:St) (H:Hp) (x:V) (v vl vu:Value) (lo hi:Option Int) (sl:Addr) (Q:VK),Inv X pins σ H s->RelV x v->s.heap.IsSliceOf sl vl vu .none->IsPart vl lo->IsPart vu hi->r x lo hi H Q ->
  ∃ T id,typeLookup (.type T) "__getitem__" = pure (some (.builtin id))/\s.TypeIs v T/\wpAny (model X.prog X.w) X.A (getItem v (.ref sl)) (EP X pins σ Q) X.xe s
def tSl (r:V->Option Int->Option Int->Hp->VK->Prop) (te:TE) (tl th:TO):TE:=fun σ H Q=>te σ H fun x H1=>tl σ H1 fun l H2=>th σ H2 fun u H3=>r x l u H3 Q
theorem pe_slice {r:V->Option Int->Option Int->Hp->VK->Prop} (hr:SlR X r) (he:PE X e te) (hl:PO X lo tl) (hu:PO X hi th):PE X (.Subscript e (.Slice lo hi none p2) pos) (tSl r te tl th):=by
 intro pins s σ H Q I h
 refine Subscript_ (thn (he pins s σ H _ I h) fun v s1 zz43=>?_)
 obtain ⟨x,H1,I1,r1,q1⟩:=zz43
 refine wpAny_Slice (thn (hl pins s1 σ H1 _ I1 q1) fun vl s2 ⟨l,H2,I2,pl,q2⟩=>thn (hu pins s2 σ H2 _ I2 q2) fun vu s3 zz45=>?_)
 obtain ⟨u,H3,I3,pu,q3⟩:=zz45
 rw [evalPart_none]
 refine wpAny_pure ?_
 have I4:Inv X pins σ H3 { s3 with heap:=s3.heap.push { cls:=.type "slice",data:=.fields #[vl,vu,.none] } }:=I3.kept (t':=s3.toks) fun b ob q=>Heap.get?_push_of_some _ q
 obtain ⟨T,id,hT,ht,hg⟩:=hr pins { s3 with heap:=s3.heap.push { cls:=.type "slice",data:=.fields #[vl,vu,.none] } } σ H3 x v vl vu l u s3.heap.objs.size Q I4 r1 (Heap.IsSliceOf.new ..) pl pu q3
 show wpAny (model X.prog X.w) X.A (subscriptTail e (.Slice lo hi none p2) v (.ref s3.heap.objs.size)) (EP X pins σ Q) X.xe { s3 with heap:=s3.heap.push { cls:=.type "slice",data:=.fields #[vl,vu,.none] } }
 exact tail_any (ops:=[.ref s3.heap.objs.size,v]) ht hT hg (by with_unfolding_all rfl)
def cutV (xs:List V) (lo hi:Option Int):List V:=(xs.drop (HT.sIx xs.length 0 lo)).take (HT.sIx xs.length xs.length hi-HT.sIx xs.length 0 lo)
theorem cutV_length (xs:List V) (lo hi:Option Int):(cutV xs lo hi).length<=xs.length:=by
 unfold cutV
 rw [List.length_take,List.length_drop]
 omega
end
end L2
namespace L2
open PySem PySem.Spec PyProof.Rows
def ixN (n:Nat) (i:Int):Option Nat:=if 0<=i then (if i<n then some i.toNat else none) else if -(n:Int)<=i then some (i+n).toNat else none
def atI {α:Type} (xs:List α) (i:Int):Option α:=(ixN xs.length i).bind fun j=>xs[j]?
theorem ixN_seq {n:Nat} {i:Int} {j:Nat} (h:ixN n i=some j):seqIndex? i n=some j/\j<n /\ -(n:Int)<=i/\i<n:=by
 unfold ixN at h
 by_cases h0:0<=i
 ·rw [if_pos h0] at h
  by_cases h1:i<n
  ·rw [if_pos h1] at h
   have e:i.toNat=j:=Option.some.inj h
   exact ⟨by rw [seqIndex_of h0 h1,e],by omega,by omega,h1⟩
  ·rw [if_neg h1] at h; cases h
 ·rw [if_neg h0] at h
  by_cases h1:-(n:Int)<=i
  ·rw [if_pos h1] at h
   have e:(i+n).toNat=j:=Option.some.inj h
   exact ⟨by rw [seqIndex_neg (by omega) h1,e],by omega,h1,by omega⟩
  ·rw [if_neg h1] at h; cases h
theorem atI_get {α:Type} {xs:List α} {i:Int} {v:α} (h:atI xs i=some v):∃ j,seqIndex? i xs.length=some j/\xs[j]?=some v/\j<xs.length /\ -(xs.length:Int)<=i/\i<xs.length:=by
 unfold atI at h
 cases e:ixN xs.length i with
 | none=>rw [e] at h; cases h
 | some j=>
  rw [e] at h
  obtain ⟨h1,h2,h3,h4⟩:=ixN_seq e
  exact ⟨j,h1,h,h2,h3,h4⟩
def PlainIx (b:Expr):Prop:=∀ o i,subscripted b false o i=operate [o,i] (getItem o i)
def IxR (X:Cx) (r:R2):Prop:=
 ∀ (value slice:Expr) (pins:List (Addr×Obj)) (s:Shared) (σ:St) (H:Hp) (x y:V) (v u:Value) (Q:VK),Inv X pins σ H s->RelV x v->RelV y u->r x y H Q ->
  subscripted slice false v u=operate [v,u] (getItem v u)->wpAny (model X.prog X.w) X.A (subscriptTail value slice v u) (EP X pins σ Q) X.xe s
def MtR (X:Cx) (id:String) (r:V->List V->Hp->VK->Prop):Prop:=
 ∀ (pins:List (Addr×Obj)) (s:Shared) (σ:St) (H:Hp) (x:V) (xs:List V) (v:Value) (us:List Value) (Q:VK),Inv X pins σ H s->RelV x v->Vals xs us->r x xs H Q ->
  wpAny (model X.prog X.w) X.A (call (.builtin id) (v::us)) (EP X pins σ Q) X.xe s
section
variable {X:Cx} {a b:Expr} {ta tb:TE} {pos:Pos}
theorem IxR.or {r r':R2} (h:IxR X r) (h':IxR X r'):IxR X (fun x y H Q=>r x y H Q\/r' x y H Q):=by
 intro value slice pins s σ H x y v u Q I rx ry q hs
 rcases q with q | q
 ·exact h value slice pins s σ H x y v u Q I rx ry q hs
 ·exact h' value slice pins s σ H x y v u Q I rx ry q hs
theorem pe_ix {r:R2} (hr:IxR X r) (ha:PE X a ta) (hb:PE X b tb) (hs:PlainIx b):PE X (.Subscript a b pos) (tOp r ta tb):=by
 intro pins s σ H Q I h
 exact Subscript_ (binT ha hb I h fun v u s2 x y H2 I2 rx ry q=>hr a b pins s2 σ H2 x y v u Q I2 rx ry q (hs _ _))
def rIxL (K:Frag):R2:=fun x y H Q=>∃ p xs i v,x=.ref p/\y=.int i/\SqL K H p xs/\atI xs i=some v/\Q v H
def rIxT (K:Frag):R2:=fun x y H Q=>∃ p xs i v,x=.ref p/\y=.int i/\SqT K H p xs/\atI xs i=some v/\Q v H
def rIxS:R2:=fun x y H Q=>∃ z i c,x=.str z/\y=.int i/\z.length<=sizeLine/\atI z.cps.toList i=some c/\Q (.str ⟨#[c]⟩) H
theorem ix_list:IxR X (rIxL X.K):=by
 intro value slice pins s σ H x y v u Q I rx ry h hs
 obtain ⟨p,xs,i,z,rfl,rfl,hq,he,q⟩:=h
 cases rx
 obtain ⟨t,rfl⟩:=ry
 obtain ⟨its,r,pl,hz⟩:=I.list hq
 obtain ⟨j,h1,h2,h3,h4,h5⟩:=atI_get he
 obtain ⟨w,ew,rw'⟩:=r.get h2
 have hl:=r.length
 have hn:=line63
 have fin:EP X pins σ Q w s:=⟨z,H,I,rw',q⟩
 by_cases h0:0<=i
 ·have hj:i.toNat=j:=by
   rw [seqIndex_of h0 h5] at h1
   exact Option.some.inj h1
  exact item_listR pl.isList h0 (by omega) (by rw [hj]; simpa using ew) fin hs
 ·have hj:(i+(its.toArray.size:Int)).toNat=j:=by
   rw [seqIndex_neg (by omega) h4] at h1
   rw [List.size_toArray,<- hl]
   exact Option.some.inj h1
  exact subscriptTail_builtinR (x:=w) pl.isList.typeIs slot_list_getitem.lookup
   (wpAny_getItem_list_neg (Q:=fun r s'=>r=w/\EP X pins σ Q r s') pl.isList (by omega) (by rw [List.size_toArray] <;> omega) (by omega) (by rw [hj]; simpa using ew) ⟨rfl,fin⟩) hs
theorem ix_tup:IxR X (rIxT X.K):=by
 intro value slice pins s σ H x y v u Q I rx ry h hs
 obtain ⟨p,xs,i,z,rfl,rfl,hq,he,q⟩:=h
 cases rx
 obtain ⟨t,rfl⟩:=ry
 obtain ⟨its,r,pl,hz⟩:=I.tuple hq
 obtain ⟨j,h1,h2,h3,h4,h5⟩:=atI_get he
 obtain ⟨w,ew,rw'⟩:=r.get h2
 have hl:=r.length
 have hn:=line63
 have fin:EP X pins σ Q w s:=⟨z,H,I,rw',q⟩
 exact subscriptTail_builtinR (x:=w) pl.typeIs slot_tuple_getitem.lookup
  (getItem_tuple (j:=j) (Q:=fun r s'=>r=w/\EP X pins σ Q r s') pl (by omega) (by omega) (by rw [List.size_toArray,<- hl]; exact h1) (by simpa using ew) ⟨rfl,fin⟩) hs
theorem ix_str:IxR X rIxS:=by
 intro value slice pins s σ H x y v u Q I rx ry h hs
 obtain ⟨z,i,c,rfl,rfl,hz,he,q⟩:=h
 obtain ⟨t,rfl⟩:=rx
 obtain ⟨t',rfl⟩:=ry
 obtain ⟨j,h1,h2,h3,h4,h5⟩:=atI_get he
 have hl:z.cps.toList.length=z.length:=by simp [Str.length]
 rw [hl] at h1 h4 h5
 have hn:=line63
 exact tail_any (typeIs_str s z t) slot_str_getitem.lookup (getItem_str (c:=c) (by
  have e1:decide (i < -(2^63:Int))=false:=decide_eq_false (by omega)
  have e2:decide (i≥2^63)=false:=decide_eq_false (by omega)
  rw [e1,e2,Bool.or_false]) (by rw [h1]; simpa using h2) ⟨.str ⟨#[c]⟩,H,I.tok _,⟨_,rfl⟩,q⟩) hs
def rIx (K:Frag):R2:=fun x y H Q=>rIxL K x y H Q\/rIxT K x y H Q\/rIxS x y H Q
theorem ix_seq:IxR X (rIx X.K):=ix_list.or (ix_tup.or ix_str)
theorem mapSeq_set (its:List Value) (n j:Nat) (u:Value):Obj.mapSeq (·.setIfInBounds j u) { cls:=.type "list",data:=.seq its.toArray n }={ cls:=.type "list",data:=.seq (its.set j u).toArray n }:=by
 simp [Obj.mapSeq]
theorem Inv.lst {pins:List (Addr×Obj)} {σ:St} {H:Hp} {s:Shared} {p:Addr} {xs:List V} (I:Inv X pins σ H s) (h:H p=some (.lst xs)) :
  ∃ (its:List Value) (n:Nat),Vals xs its/\s.heap.get? p=some { cls:=.type "list",data:=.seq its.toArray n }/\xs.length<=sizeLine:=by
 obtain ⟨z,its,n,r,e⟩:=I.hok p _ h
 exact ⟨its,n,r,e,z⟩
theorem Inv.lstUpd {pins:List (Addr×Obj)} {σ:St} {H:Hp} {s:Shared} {p:Addr} {xs ys:List V} {its its':List Value} {n n':Nat} {f:Obj->Obj} (I:Inv X pins σ H s) (h:H p=some (.lst xs))
  (ho:s.heap.get? p=some { cls:=.type "list",data:=.seq its.toArray n }) (hf:f { cls:=.type "list",data:=.seq its.toArray n }={ cls:=.type "list",data:=.seq its'.toArray n' }) (r:Vals ys its') (hz:ys.length<=sizeLine) (t:Nat) :
  Inv X pins σ (upd H p (.lst ys)) { s with heap:=s.heap.update p f,toks:=t }:=by
 have e:(s.heap.update p f).get? p=some { cls:=.type "list",data:=.seq its'.toArray n' }:=by
  rw [Heap.get?_update_self f ho (by rw [hf] <;> rfl),hf]
 refine I.write (x:=p) (e:=p) (by rw [h]; trivial) (.inl rfl) (fun b u hb q=>(Heap.get?_update_other _ _ (Ne.symm hb)).trans q) ⟨_,e⟩ ?_
 exact ⟨hz,its',n',r,e⟩
def rSetL:V->V->V->Hp->(Hp->Prop)->Prop:=fun o i v H Q=>∃ p xs k j,o=.ref p/\i=.int k/\H p=some (.lst xs)/\ixN xs.length k=some j/\Q (upd H p (.lst (xs.set j v)))
theorem set_list:PSet X rSetL:=by
 intro pins s σ H o i v ov iv u Q I ro ri rv h
 obtain ⟨p,xs,k,j,rfl,rfl,hp,hj,q⟩:=h
 cases ro
 obtain ⟨t,rfl⟩:=ri
 obtain ⟨its,n,r,ho,hz⟩:=I.lst hp
 obtain ⟨h1,h2,h3,h4⟩:=ixN_seq hj
 have hl:=r.length
 have hn:=line63
 have I':Inv X pins σ (upd H p (.lst (xs.set j v))) { s with heap:=s.heap.update p (Obj.mapSeq (·.setIfInBounds j u)) }:=
  I.lstUpd hp ho (mapSeq_set its n j u) (r.set rv j) (by rw [List.length_set]; exact hz) s.toks
 by_cases h0:0<=k
 ·have hk:k.toNat=j:=by
   rw [seqIndex_of h0 h4] at h1
   exact Option.some.inj h1
  exact PySem.W.ki_setAt ho h0 (by omega) (by rw [List.size_toArray,<- hl]; exact h4) (by rw [hk]; exact ⟨_,I',q⟩)
 ·have hk:(k+(its.toArray.size:Int)).toNat=j:=by
   rw [seqIndex_neg (by omega) h3] at h1
   rw [List.size_toArray,<- hl]
   exact Option.some.inj h1
  exact PySem.W.ki_setBack ho (by omega) (by rw [List.size_toArray,<- hl]; exact h3) (by omega) (by rw [hk]; exact ⟨_,I',q⟩)
theorem slice_bounds (lo hi:Option Int) (n:Nat):(sliceBounds lo hi none n).1=((HT.sIx n 0 lo:Nat):Int)/\(sliceBounds lo hi none n).2.1=((HT.sIx n n hi:Nat):Int)/\(sliceBounds lo hi none n).2.2=1:=by
 refine ⟨?_,?_,rfl⟩
 ·cases lo with
  | none=>simp [sliceBounds,HT.sIx]
  | some i=>
   simp only [sliceBounds,HT.sIx,Option.getD_none,show (1:Int)>0 by decide,if_true]
   by_cases h:i<0
   ·simp only [h,if_true] <;> omega
   ·simp only [h,if_false] <;> omega
 ·cases hi with
  | none=>simp [sliceBounds,HT.sIx]
  | some i=>
   simp only [sliceBounds,HT.sIx,Option.getD_none,show (1:Int)>0 by decide,if_true]
   by_cases h:i<0
   ·simp only [h,if_true] <;> omega
   ·simp only [h,if_false] <;> omega
theorem slicePick_cut (its:List Value) (lo hi:Option Int):slicePick its.toArray lo hi none=((its.drop (HT.sIx its.length 0 lo)).take (HT.sIx its.length its.length hi-HT.sIx its.length 0 lo)).toArray:=by
 obtain ⟨h1,h2,h3⟩:=slice_bounds lo hi its.toArray.size
 unfold slicePick
 rw [h1,h2,h3]
 simp only [sliceRange_one,pick_run,List.size_toArray] <;> rfl
def rSlL (K:Frag):V->Option Int->Option Int->Hp->VK->Prop:=fun x lo hi H Q=>∃ a xs,x=.ref a/\SqL K H a xs/\∀ p,H p=none->Q (.ref p) (upd H p (.lst (cutV xs lo hi)))
theorem sl_list:SlR X (rSlL X.K):=by
 intro pins s σ H x v vl vu lo hi sl Q I rx hs pl pu h
 obtain ⟨a,xs,rfl,hx,q⟩:=h
 cases rx
 obtain ⟨its,r,ht,hz⟩:=I.list hx
 have hlen:=r.length
 refine ⟨"list",_,slot_list_getitem.lookup,ht.isList.typeIs,?_⟩
 refine wpAny_getItem_list_slice ht.isList hs pl pu .none (by simp) ?_ (by rw [List.size_toArray] <;> omega)
 rw [slicePick_cut,<- hlen]
 refine ⟨.ref s.heap.objs.size,_,I.laid (t':=s.toks) (o:=.lst (cutV xs lo hi)) (fun b ob q=>Heap.get?_push_of_some _ q) (Nat.le_refl _) ?_,rfl,q _ (I.hok.fresh (Nat.le_refl _))⟩
 exact ⟨Nat.le_trans (cutV_length xs lo hi) hz,_,0,(r.drop (HT.sIx xs.length 0 lo)).take (HT.sIx xs.length xs.length hi-HT.sIx xs.length 0 lo),Heap.get?_push_size _ rfl⟩
theorem call_len_seq:CallR X (.builtin "len") (fun xs H Q=>∃ p ys,xs = [.ref p]/\(SqL X.K H p ys\/SqT X.K H p ys)/\Q (.int ys.length) H):=by
 intro pins s σ H xs us Q I r h
 obtain ⟨p,ys,rfl,hq,q⟩:=h
 obtain ⟨u,rfl,rx⟩:=vals1 r
 cases rx
 have hn:=line63
 rcases hq with hq | hq
 ·obtain ⟨its,r',pl,hz⟩:=I.list hq
  have hlen:=r'.length
  exact Calls.call_len_list pl.isList (by simp only [List.size_toArray] <;> omega) ⟨.int ys.length,H,I.tok _,⟨s.toks+1,by rw [List.size_toArray,hlen]⟩,q⟩
 ·obtain ⟨its,r',pl,hz⟩:=I.tuple hq
  have hlen:=r'.length
  exact len_tuple pl (by simp only [List.size_toArray] <;> omega) ⟨.int ys.length,H,I.tok _,⟨s.toks+1,by rw [List.size_toArray,hlen]⟩,q⟩
theorem call_list_of:CallR X (.type "list") (fun xs H Q=>∃ p ys,xs = [.ref p]/\(SqL X.K H p ys\/SqT X.K H p ys)/\∀ l,H l=none->Q (.ref l) (upd H l (.lst ys))):=by
 intro pins s σ H xs us Q I r h
 obtain ⟨p,ys,rfl,hq,q⟩:=h
 obtain ⟨u,rfl,rx⟩:=vals1 r
 cases rx
 have fin:∀ (its:List Value),Vals ys its->ys.length<=sizeLine->∀ (h':Heap) (c':Nat),(∀ b o',s.heap.get? b=some o'->h'.get? b=some o') ->
   h'.get? s.heap.objs.size=some { cls:=.type "list",dict:=none,data:=.seq its.toArray c',slots:=#[] }->EP X pins σ Q (.ref s.heap.objs.size) { s with heap:=h' }:=fun its r' hz h' c' kp e=>
  ⟨.ref s.heap.objs.size,_,I.laid (t':=s.toks) kp (Nat.le_refl _) (show ObjOk X.prog X.w _ h' _ (.lst ys) from ⟨hz,its,c',r',e⟩),rfl,q _ (I.hok.fresh (Nat.le_refl _))⟩
 rcases hq with hq | hq
 ·obtain ⟨its,r',pl,hz⟩:=I.list hq
  have hlen:=r'.length
  obtain ⟨o,ho,hc,n,hd⟩:=pl.isList
  exact call_list_seq p (.inl rfl) ho hc hd (fun h' c' kp e=>fin its r' hz h' c' kp e) (by simp only [List.size_toArray] <;> omega)
 ·obtain ⟨its,r',pl,hz⟩:=I.tuple hq
  have hlen:=r'.length
  obtain ⟨o,ho,hc,n,hd⟩:=pl
  exact call_list_seq p (.inr rfl) ho hc hd (fun h' c' kp e=>fin its r' hz h' c' kp e) (by simp only [List.size_toArray] <;> omega)
theorem call_tuple_of:CallR X (.type "tuple") (fun xs H Q=>∃ p ys,xs = [.ref p]/\((SqL X.K H p ys/\∀ l,H l=none->Q (.ref l) (upd H l (.tup ys)))\/(SqT X.K H p ys/\Q (.ref p) H))):=by
 intro pins s σ H xs us Q I r h
 obtain ⟨p,ys,rfl,h⟩:=h
 obtain ⟨u,rfl,rx⟩:=vals1 r
 cases rx
 rcases h with ⟨hq,q⟩ | ⟨hq,q⟩
 ·obtain ⟨its,r',pl,hz⟩:=I.list hq
  have hlen:=r'.length
  refine call_tuple_list pl.isList (fun h' kp=>?_) (by simp only [List.size_toArray] <;> omega)
  have I1:Inv X pins σ H { s with heap:=h' }:=I.kept (t':=s.toks) kp
  have I2:Inv X pins σ (upd H h'.objs.size (.tup ys)) { s with heap:=h'.push { cls:=.type "tuple",data:=.seq its.toArray } }:=
   I1.laid (t':=s.toks) (fun b o e=>Heap.get?_push_of_some _ e) (Nat.le_refl _) (show ObjOk X.prog X.w _ _ _ (.tup ys) from ⟨hz,its,r',IsTup.new _ _⟩)
  exact ⟨.ref h'.objs.size,_,I2,rfl,q _ (I1.hok.fresh (Nat.le_refl _))⟩
 ·obtain ⟨its,r',pl,hz⟩:=I.tuple hq
  exact call_tuple_same pl ⟨.ref p,H,I,rfl,q⟩
def tyV (K:Frag) (T:String) (x:V) (H:Hp):Prop:=match x with
 | .str _=>T = "str"
 | .int _=>T = "int"
 | .ref p=>(T = "list" /\ ∃ xs,SqL K H p xs)\/(T = "tuple" /\ ∃ o,K.lookup p=some o/\o.cls=.type "tuple" /\ o.dict=none) \/
   (T = "dict" /\ ((∃ kvs,H p=some (.dK kvs))\/∃ kvs,H p=some (.dT kvs)))\/(T = "set" /\ ∃ S n,H p=some (.set S n))
 | _=>False
theorem tyV_is {pins:List (Addr×Obj)} {σ:St} {H:Hp} {s:Shared} {T:String} {x:V} {v:Value} (I:Inv X pins σ H s) (r:RelV x v) (ty:tyV X.K T x H) :
  s.TypeIs v T/\∀ a,v=.ref a->∃ ob,s.heap.get? a=some ob/\ob.dict=none:=by
 cases x with
 | str z=>
  obtain ⟨t,rfl⟩:=r
  cases (show T = "str" from ty)
  exact ⟨typeIs_str s z t,fun _ e=>nomatch e⟩
 | int i=>
  obtain ⟨t,rfl⟩:=r
  cases (show T = "int" from ty)
  exact ⟨typeIs_int s i t,fun _ e=>nomatch e⟩
 | ref p=>
  cases r
  rcases ty with ⟨rfl,xs,hq⟩ | ⟨rfl,o,hk,hc,hd⟩ | ⟨rfl,hk⟩ | ⟨rfl,S,n,hk⟩
  ·obtain ⟨its,_,pl,_⟩:=I.list hq
   refine ⟨pl.isList.typeIs,fun a e=>?_⟩
   cases e
   obtain ⟨o,n,e,c,hd,_⟩:=pl
   exact ⟨o,e,hd⟩
  ·refine ⟨⟨o,I.kIn p o hk,hc⟩,fun a e=>?_⟩
   cases e
   exact ⟨o,I.kIn _ o hk,hd⟩
  ·have z:∃ o,s.heap.get? p=some o/\o.ExactDict:=by
    rcases hk with ⟨kvs,hk⟩ | ⟨kvs,hk⟩
    ·obtain ⟨_,_,_,_,o,_,_,e,ex,_⟩:=I.hok p _ hk
     exact ⟨o,e,ex⟩
    ·obtain ⟨_,_,_,_,o,_,_,e,ex,_⟩:=I.hok p _ hk
     exact ⟨o,e,ex⟩
   obtain ⟨o,e,ex⟩:=z
   refine ⟨⟨o,e,ex.1⟩,fun a e2=>?_⟩
   cases e2
   exact ⟨o,e,ex.2.1⟩
  ·obtain ⟨o,_,_,_,e,ex,_⟩:=I.hok p _ hk
   refine ⟨⟨o,e,ex.1⟩,fun a e2=>?_⟩
   cases e2
   exact ⟨o,e,ex.2.1⟩
 | _=>exact False.elim ty
variable {o e:Expr} {es:List Expr} {to:TE} {t:TA} {name:Str} {apos cpos:Pos} {T id:String} {r:V->List V->Hp->VK->Prop}
end
end L2
namespace L2
open PySem PySem.Spec PyProof.Rows
def MtM (X:Cx) (id:String) (r:V->List V->Hp->VK->Prop):Prop:=
 ∀ (pins:List (Addr×Obj)) (s:Shared) (σ:St) (H:Hp) (x:V) (xs:List V) (v:Value) (us:List Value) (Q:VK),Inv X pins σ H s->RelV x v->Vals xs us->r x xs H Q ->
  wpAny (model X.prog X.w) X.A (call (.builtin id) (v::us)) (EP X pins σ Q) X.xe s
theorem Vals.one:∀ {x:V} {us:List Value},Vals [x] us->∃ u,us = [u]/\RelV x u:=by
 intro x us r
 cases r with
 | cons r t=>cases t; exact ⟨_,rfl,r⟩
section
variable {X:Cx} {pins:List (Addr×Obj)} {σ:St} {H:Hp} {s:Shared} {l b:Addr} {xs ys zs:List V}
theorem Inv.lset {its its':List Value} {n:Nat} {f:Array Value->Array Value} {t':Nat} (I:Inv X pins σ H s) (hH:H l=some (.lst xs))
  (e:s.heap.get? l=some { cls:=.type "list",data:=.seq its.toArray n }) (hf:f its.toArray=its'.toArray) (hv:Vals ys its') (hz:ys.length<=sizeLine) :
  Inv X pins σ (upd H l (.lst ys)) { s with heap:=s.heap.update l (Obj.mapSeq f),toks:=t' }:=by
 have q:=PySem.IsL.update e f
 rw [hf] at q
 refine I.write (x:=l) (e:=l) (by rw [hH]; exact trivial) (.inl rfl) (fun b' u hb hu=>(Heap.get?_update_other s.heap (Obj.mapSeq f) (Ne.symm hb)).trans hu) ⟨_,q⟩ ?_
 exact ⟨hz,its',_,hv,q⟩
theorem Inv.lnew {its:List Value} {t':Nat} (I:Inv X pins σ H s) (hv:Vals ys its) (hz:ys.length<=sizeLine) :
  Inv X pins σ (upd H s.heap.objs.size (.lst ys)) { s with heap:=s.heap.push { cls:=.type "list",data:=.seq its.toArray },toks:=t' }:=
 I.laid (fun _ _ q=>Heap.get?_push_of_some _ q) (Nat.le_refl _) ⟨hz,its,0,hv,Heap.get?_push_size _ rfl⟩
theorem Inv.fresh (I:Inv X pins σ H s):H s.heap.objs.size=none:=I.hok.fresh (Nat.le_refl _)
theorem Inv.lstM (I:Inv X pins σ H s) (hH:H l=some (.lst xs)):xs.length<=sizeLine/\∃ (its:List Value) (n:Nat),Vals xs its/\xs.length=its.length/\s.heap.get? l=some { cls:=.type "list",data:=.seq its.toArray n }:=by
 obtain ⟨z,its,n,r,e⟩:=I.hok l _ hH
 exact ⟨z,its,n,r,r.length,e⟩
end
section
variable {X:Cx}
def rAppend:V->List V->Hp->VK->Prop:=fun x vs H Q=>∃ l xs y,x=.ref l/\vs = [y]/\H l=some (.lst xs)/\xs.length<sizeLine/\Q .non (upd H l (.lst (xs ++ [y])))
theorem mt_append:MtM X "list.append" rAppend:=by
 intro pins s σ H x vs v us Q I rx rv h
 obtain ⟨l,xs,y,rfl,rfl,hH,hz,q⟩:=h
 cases rx
 obtain ⟨u,rfl,ru⟩:=rv.one
 obtain ⟨z,its,n,r,hl,e⟩:=I.lstM hH
 refine call_meets F.slot_list_append ⟨_,e,rfl⟩ F.entry_list_append (F.args_list_append_2 _ _) (PySem.list_append l its.toArray n u (by rw [List.size_toArray]; omega)) ⟨e,?_⟩
 refine ⟨.non,_,I.lset (its':=its ++ [u]) hH e (by simp) (r.append (.cons ru .nil)) ?_,rfl,q⟩
 rw [List.length_append,List.length_singleton]
 omega
def rCat:R2:=fun x y H Q=>∃ l b xs zs,x=.ref l/\y=.ref b/\H l=some (.lst xs)/\H b=some (.lst zs)/\xs.length+zs.length<=sizeLine/\∀ p,H p=none->Q (.ref p) (upd H p (.lst (xs++zs)))
theorem op_cat:OpR X (binaryOp .Add) rCat:=by
 intro pins s σ H x y v u Q I rx ry h
 obtain ⟨l,b,xs,zs,rfl,rfl,hH,hB,hz,q⟩:=h
 cases rx
 cases ry
 obtain ⟨z,its,n,r,hl,e⟩:=I.lstM hH
 obtain ⟨z2,its2,n2,r2,hl2,e2⟩:=I.lstM hB
 refine PySem.P.add_list e e2 ?_ (by rw [List.size_toArray,List.size_toArray]; omega)
 have ea:its.toArray++its2.toArray=(its++its2).toArray:=by simp
 rw [ea]
 exact ⟨.ref _,_,I.lnew (t':=s.toks) (r.append r2) (by rw [List.length_append]; omega),rfl,q _ I.fresh⟩
end
section
variable {prog:Program} {w:World} {A:Around} {E:Value->Shared->Prop} {s:Shared}
end
section
variable {X:Cx}
end
end L2
namespace Att
open PySem PySem.W PySem.Calls PyProof.Rows
theorem ints_of_wellAll {P:Params} {h:Heap}:∀ (ns:List Int) (vs:List Value),WellAll P h vs (ns.map WData.int)->IntsAre vs ns:=by
 intro ns
 induction ns with
 | nil=>
  intro vs w
  rw [List.map_nil] at w
  cases w
  exact .nil
 | cons n ns ih=>
  intro vs w
  rw [List.map_cons] at w
  cases w with
  | cons a b=>
   cases a
   exact .cons _ _ (ih _ b)
theorem script_of {l:OpenLaw} {n:Nat} (hn:l.most=some n) {P:Params} {h:Heap} {args:List WData} {vals:List Value}
  (hpre:l.row.toRowW.claim.pre args=true) (hwl:WellAll P h vals args) :
  ∃ a vs ns,vals = [Value.ref a]/\args = [WData.list (ns.map WData.int)]/\h.get? a=some { cls:=.type "list",data:=.seq vs.toArray }/\IntsAre vs ns/\ns.length<=n:=by
 have hsh:WShape.hasAll [] args [.list .int]=true:=(pre_splitW hpre).1
 have hc:l.pre.holds [] { args:=args }=true:=(pre_splitW hpre).2
 obtain ⟨d,r,rfl,h1,h2⟩:=hasAllW_cons hsh
 obtain rfl:=hasAllW_nil h2
 obtain ⟨xs,rfl,h3⟩:=hasW_list h1
 obtain ⟨ns,rfl⟩:=items_int h3
 have hlen:ns.length<=n:=by
  unfold OpenLaw.pre at hc
  have h4:(WTm.not (.lt (.lit (.int (n:Int))) (.len (.arg 0)))).holds [] { args:=[.list (ns.map .int)] }=true:=by
   have h4:=(holds_andW hc).1
   rw [hn] at h4
   exact h4
  have h5:=condW_of h4 (w_not (w_lt w_lit (w_len_list (w_arg rfl))))
  rw [List.length_map] at h5
  refine Nat.le_of_not_lt fun q=>?_
  have q':(n:Int)<((ns.length:Nat):Int):=by omega
  first
   | (rw [decide_eq_true q'] at h5; exact absurd h5 (by decide))
   | (simp at h5; omega)
 cases hwl with
 | cons w1 w2=>
  cases w2
  cases w1 with
  | list ho hall=>exact ⟨_,_,ns,rfl,rfl,ho,ints_of_wellAll ns _ hall,hlen⟩
theorem post_true (l:OpenLaw) (args:List WData):l.row.toRowW.claim.post args (.bool true) args=true:=
 postW_of (r:=l.row.toRowW) (X:=(true == true))
  (show WShape.has [] (.bool true) .bool=true by first | rfl | decide | simp [WShape.has,WShape.arms,WShape.armsAll])
  (show (WTm.eq .res (.lit (.bool true))).value [] { args:=args,res:=some (.bool true),after:=args }=some (.bool (true == true)) from w_eq_bool (w_res rfl) w_lit) rfl
theorem attach_call {l:OpenLaw} {n:Nat} {q:Program} {loose:List Str} {XP:(Str->Option Value)->Heap->Prop} {YP:World->Heap->Prop} {d:DefRec}
  (hn:l.most=some n) (hdf:d.params.defaults = [])
  (call:∀ (w:World) (s₀ s₁:Shared) (mg mb:Str->Option Value) (fa:Addr) (o:Obj) (pm cd doc:Value) (a:Addr) (vs:List Value) (ns:List Int),
   Ground q loose [] XP w s₀ mg mb s₁.heap->YP w s₁.heap ->
   s₁.heap.get? fa=some o->o.data=.func (docDef d.name d.params d.body d.scope pm cd doc)->s₁.heap.CodeRec cd d.name->mg d.name=some (.ref fa) ->
   s₁.heap.get? a=some { cls:=.type "list",data:=.seq vs.toArray }->IntsAre vs ns->ns.length<=n->s₁.gens=#[] ->
   codeAny (model l.prog w) callerA (.call (.ref fa) ⟨[.ref a],[]⟩) (fun r s'=>r=.ok (.ret (.bool true))/\OldK s₁.heap s'.heap/\s'.os=s₁.os/\AllBare s'.gens) s₁) :
  WalkO q loose XP YP l.row.toRowW d [] (fun f vs=>PySem.call f vs):=by
 intro w s₀ s₁ mg mb G Y fa o pm cd doc dV kV ho hd hcd hD hmg hg args vals as hpre hlay hrd hwl hlo
 obtain rfl:dV=.none:=Dflts.none hD hdf
 obtain rfl:kV=.none:=Dflts.noKw hD
 obtain ⟨a,vs,ns,rfl,rfl,hobj,hints,hlen⟩:=script_of hn hpre hwl
 refine enter_call (codeAny_mono (call w s₀ s₁ mg mb fa o pm cd doc a vs ns G Y ho (fd_plain hd) hcd hmg hobj hints hlen hg) fun r s' hq=>?_)
 obtain ⟨rfl,h2,h3,h4⟩:=hq
 exact ⟨.inl ⟨.bool true,.bool true,[],rfl,fun _=>rfl,.bool true,post_true l _,fun _=>⟨List.Pairwise.nil,fun _ hm=>(nomatch hm)⟩⟩,h2,h3,h4⟩
section
variable {prog:Program} {w:World} {A:Around} {E:Value->Shared->Prop} {s:Shared} {K:Frag}
end
end Att
namespace L2
open PySem PySem.Spec PyProof.Rows
theorem vals_ints:∀ {vs:List Value} {ns:List Int},IntsAre vs ns->Vals (ns.map V.int) vs:=by
 intro vs ns h
 induction h with
 | nil=>exact .nil
 | cons n t h ih=>exact .cons ⟨t,rfl⟩ ih
def Only (H:Hp):Prop:=∀ b,H b=none\/∃ o xs,H b=some (.frz o (.lst xs))
theorem law_call {P:Program} {w:World} {K:Frag} {mg mb:Str->Option Value} {CX:CXT} {k:Nat} {fa a:Addr} {fd:FuncData} {x:Str} {sp:Sp} {s₁:Shared} {vs:List Value} {ns:List Int}
  (KX:K.In s₁.heap) (hns:s₁.heap.Ns mainGlobals mg) (hb:s₁.heap.Ns builtinsNs mb) (hbb:∀ x:Str,x ≠ "__name__" -> mb x=bootBuiltins x) (hlim:s₁.heap.NoLimit) (hg:s₁.gens=#[])
  (ha:s₁.heap.get? a=some { cls:=.type "list",data:=.seq vs.toArray }) (hi:IntsAre vs ns) (hl:ns.length<=sizeLine) (hr:Room k callerA)
  (F:∀ base:Heap,K.In base->base.Ns mainGlobals mg->FnOk P w K mg base CX k fa fd [x] sp) (hbind:∀ (s:Shared) (u:Value),BindsTo s fd ⟨[u],[]⟩ [(x,u)])
  (hsp:∀ H:Hp,Only H->SqL K H a (ns.map V.int)->sp [.ref a] H (fun v _=>v=.bl true) fun _ _ _=>False)
  (hCX:∀ H e s',CX [] H s₁ (fun _ _ _=>False) e s'->False) :
  codeAny (model P w) callerA (.call (.ref fa) ⟨[.ref a],[]⟩) (fun r s'=>r=.ok (.ret (.bool true))/\OldK s₁.heap s'.heap/\s'.os=s₁.os/\AllBare s'.gens) s₁:=by
 have rv:=vals_ints hi
 have lenV:=hi.length
 -- from an abstract heap in which nothing but the script may be tracked
 have core:∀ H:Hp,Only H->SqL K H a (ns.map V.int)->HOk P w H s₁.heap->(∀ b,H b≠none->b=a)->(H a≠none->K.lookup a=none) ->
   codeAny (model P w) callerA (.call (.ref fa) ⟨[.ref a],[]⟩) (fun r s'=>r=.ok (.ret (.bool true))/\OldK s₁.heap s'.heap/\s'.os=s₁.os/\AllBare s'.gens) s₁:=by
  intro H hO hS hok hA hK
  have base_of:∀ {b:Addr} {o:Obj},s₁.heap.get? b=some o->H b=none->(hidT s₁.heap H).get? b=some o:=fun e n=>hidT_get e n
  have noA:∀ {b:Addr} {o:Obj} {es:Array DictEntry} {ep:Nat},s₁.heap.get? b=some o->o.data=.dict es ep->H b=none:=fun {b o es ep} e d=>by
   cases q:H b with
   | none=>rfl
   | some u=>
    have e':b=a:=hA b (by rw [q]; simp)
    subst e'
    rw [ha] at e; cases e
    have d':Data.seq vs.toArray _=Data.dict es ep:=d
    cases d'
  have nsK:∀ {b:Addr} {m:Str->Option Value},s₁.heap.Ns b m->(hidT s₁.heap H).Ns b m:=fun {b m} zz46=>by obtain ⟨o,es,ep,e,d,r⟩:=zz46; exact ⟨o,es,ep,base_of e (noA e d),d,r⟩
  have hKb:K.In (hidT s₁.heap H):=fun b o e=>base_of (KX b o e) (by
   cases q:H b with
   | none=>rfl
   | some u=>
    have e':b=a:=hA b (by rw [q]; simp)
    subst e'
    rw [hK (by rw [q]; simp)] at e; cases e)
  have hM:Mod K mg (hidT s₁.heap H):=⟨hKb,nsK hns,⟨mb,nsK hb,hbb⟩,let ⟨mc,h1,h2⟩:=hlim; ⟨mc,nsK h1,h2⟩⟩
  have e0:Env0 P w K mg (hidT s₁.heap H) callerA [] s₁ H:=⟨rfl,hM,fun b o e=>of_hidT e,Nat.le_of_eq (hidT_size _ _),trivial,fun b hb=>absurd (show b∈([]:List Addr) from hb) (by simp),hok,.of_eq hg⟩
  refine codeAny_mono ((F _ hKb (nsK hns)).run callerA [] s₁ H ⟨[.ref a],[]⟩ [.ref a] [.ref a] _ _ hr e0 (hbind s₁ (.ref a)) (.cons rfl .nil) (hsp H hO hS)) fun r s' h=>?_
  cases r with
  | error e=>exact (hCX H e s' h).elim
  | ok fl=>
   cases fl with
   | next=>exact False.elim h
   | brk=>exact False.elim h
   | cont=>exact False.elim h
   | ret u=>
    obtain ⟨v,H',os,bare,un,hok',r',q⟩:=h
    have q':v=.bl true:=q
    subst q'
    obtain rfl:u=Value.bool true:=r'
    refine ⟨rfl,OldK.of_keep fun b o e=>?_,os,bare⟩
    cases q:H b with
    | none=>exact un.keep b o e q (by intro z; exact absurd (show b∈([]:List Addr) from z) (by simp)) (by simp)
    | some u=>
     rcases hO b with z | ⟨ob,xs,z⟩
     ·rw [q] at z; cases z
     ·have z2:=un.frzs b ob _ z
      obtain ⟨e1,_⟩:=hok b _ z
      obtain ⟨e2,_⟩:=hok' b _ z2
      rw [e] at e1; cases e1
      exact e2
 cases hk:K.lookup a with
 | some o=>
  -- the script is one of the module's own objects
  have e:=KX a o hk
  rw [ha] at e
  cases e
  refine core (fun _=>none) (fun _=>.inl rfl) (.inr ⟨_,vs.toArray,_,hk,rfl,rfl,rfl,by rw [List.size_toArray,lenV]; exact hl,by simpa using rv⟩) (fun b u z=>by have z':(none:Option HO)=some u:=z; cases z') (fun b z=>absurd rfl z) fun z=>absurd rfl z
 | none=>
  refine core (fun b=>if b=a then some (.frz { cls:=.type "list",data:=.seq vs.toArray } (.lst (ns.map V.int))) else none) (fun b=>?_) (.inl (.inr ⟨{ cls:=.type "list",data:=.seq vs.toArray },if_pos rfl⟩)) (fun b u z=>?_) (fun b z=>?_) fun _=>hk
  ·by_cases hb:b=a
   ·exact .inr ⟨_,_,if_pos hb⟩
   ·exact .inl (if_neg hb)
  ·by_cases hb:b=a
   ·have z':=(if_pos hb).symm.trans z
    cases z'
    subst hb
    exact ⟨ha,by rw [List.length_map]; exact hl,vs,_,rv,ha⟩
   ·have z':=(if_neg hb).symm.trans z
    cases z'
  ·by_cases hb:b=a
   ·exact hb
   ·exact absurd (if_neg hb) z
end L2
namespace L2
open PySem PySem.Spec PyProof.Rows
theorem walk_of {l:PySem.W.OpenLaw} {n k:Nat} {q:Program} {loose:List Str} {XP:(Str->Option Value)->Heap->Prop} {YP:World->Heap->Prop} {d:DefRec} {K:Params->Frag} {CX:World->CXT} {sp:World->Sp} {x:Str}
  (hn:l.most=some n) (hn2:n<=sizeLine) (hdf:d.params.defaults = []) (hr:Room k callerA)
  (hY:∀ (w:World) (h:Heap),YP w h->(K w.params).In h)
  (F:∀ (w:World) (mg:Str->Option Value) (fa:Addr) (h:Heap),(K w.params).In h->h.Ns mainGlobals mg->mg d.name=some (.ref fa) ->
   ∃ fd:FuncData,(∀ (s:Shared) (u:Value),BindsTo s fd ⟨[u],[]⟩ [(x,u)]) /\
    ∀ base:Heap,(K w.params).In base->base.Ns mainGlobals mg->FnOk l.prog w (K w.params) mg base (CX w) k fa fd [x] (sp w))
  (hsp:∀ (w:World) (H:Hp) (a:Addr) (ns:List Int),ns.length<=n->Only H->SqL (K w.params) H a (ns.map V.int)->sp w [.ref a] H (fun v _=>v=.bl true) fun _ _ _=>False)
  (hCX:∀ (w:World) (H:Hp) (s:Shared) (e:Value) (s':Shared),CX w [] H s (fun _ _ _=>False) e s'->False) :
  PySem.W.WalkO q loose XP YP l.row.toRowW d [] (fun f vs=>PySem.call f vs):=by
 refine Att.attach_call hn hdf fun w s₀ s₁ mg mb fa o pm cd doc a vs ns G Y ho hd hcd hmg hobj hints hlen hg=>?_
 have KX:=hY w _ Y
 obtain ⟨fd,hb,hF⟩:=F w mg fa _ KX G.T.g hmg
 exact law_call KX G.T.g G.T.b G.T.builtins G.T.nolimit hg hobj hints (Nat.le_trans hlen hn2) hr hF hb (fun H hO hS=>hsp w H a ns hlen hO hS) fun H e s'=>hCX w H s₁ e s'
theorem walk_ofK {l:PySem.W.OpenLaw} {n k:Nat} {q:Program} {loose:List Str} {XP:(Str->Option Value)->Heap->Prop} {YP:World->Heap->Prop} {d:DefRec} {K:Params->Frag} {CX:CXT} {sp:Frag->Sp} {x:Str}
  (hn:l.most=some n) (hn2:n<=sizeLine) (hdf:d.params.defaults = []) (hr:Room k callerA)
  (hY:∀ (w:World) (h:Heap),YP w h->(K w.params).In h)
  (F:∀ (w:World) (mg:Str->Option Value) (fa:Addr) (h:Heap),(K w.params).In h->h.Ns mainGlobals mg->mg d.name=some (.ref fa) ->
   ∃ fd:FuncData,(∀ (s:Shared) (u:Value),BindsTo s fd ⟨[u],[]⟩ [(x,u)]) /\
    ∀ base:Heap,(K w.params).In base->base.Ns mainGlobals mg->FnOk l.prog w (K w.params) mg base CX k fa fd [x] (sp (K w.params)))
  (hsp:∀ (K:Frag) (H:Hp) (a:Addr) (ns:List Int),ns.length<=n->Only H->SqL K H a (ns.map V.int)->sp K [.ref a] H (fun v _=>v=.bl true) fun _ _ _=>False)
  (hCX:∀ (H:Hp) (s:Shared) (e:Value) (s':Shared),CX [] H s (fun _ _ _=>False) e s'->False) :
  PySem.W.WalkO q loose XP YP l.row.toRowW d [] (fun f vs=>PySem.call f vs):=
 walk_of (K:=K) (CX:=fun _=>CX) (sp:=fun w=>sp (K w.params)) hn hn2 hdf hr hY F (fun w H a ns h1 h2 h3=>hsp (K w.params) H a ns h1 h2 h3) fun _ H s e s'=>hCX H s e s'
end L2
namespace L2
open PySem PySem.Spec PyProof.Rows
def defArgs (s:Stmt):Arguments:=match s with
 | .FunctionDef _ a _ _ _ _ _ _ _ _=>a
 | _=>{ posonlyargs:=[],args:=[],vararg:=none,kwonlyargs:=[],kw_defaults:=[],kwarg:=none,defaults:=[] }
def defBody (s:Stmt):List Stmt:=match s with
 | .FunctionDef _ _ b _ _ _ _ _ _ _=>b
 | _=>[]
def defScope (s:Stmt):Scope:=match s with
 | .FunctionDef _ _ _ _ _ _ sc _ _ _=>sc
 | _=>{ kind:=.function,names:=[],isGenerator:=false,isCoroutine:=false }
abbrev CX0:CXT:=fun _ _ _ _ _ _=>False
abbrev E0:XK:=fun _ _ _=>False
theorem pass0 {X:Cx}:Passes CX0 X E0:=fun _ _ _ _ _ _ _ h=>h.elim
structure Fun (K:Frag) (x qual:Str) (st:Stmt) (f:Addr) (fd:FuncData):Prop where
 ex:∃ (oc:Value) (od:Option Addr) (kV doc pm:Value) (an:Option Addr) (cdv ct:Value) (osl:Array (Option Value)),
  fd=PySem.W.fnOf x qual (defArgs st) (defBody st) (defScope st) .none kV doc pm an cdv ct/\K.lookup f=some ⟨oc,od,.func fd,osl⟩/\PySem.W.codeIn K cdv qual=true
 kp:PySem.W.keepIn K (.ref f)=true
section
variable {P:Program} {w:World} {K:Frag} {mg:Str->Option Value} {base:Heap}
theorem Fun.ok {x qual:Str} {st:Stmt} {f:Addr} {fd:FuncData} {N ps:List Str} {k:Nat} {sp:Sp} (F:Fun K x qual st f fd) (S:FnScope N ps (defScope st)) (len:∀ vs H Q E,sp vs H Q E->vs.length=ps.length)
  (hbody:∀ (cdv:Value) (A:Around) (outer:List Env) (s:Shared) (H:Hp) (vs:List V) (Q:VK) (E:XK),Room k (A.deeper (envOfC qual (defScope st) s.heap.objs.size f cdv))->sp vs H Q E ->
   ∃ t,PSs (cxOf CX0 P w K mg base N qual (defScope st) f cdv A outer s H E).nox (defBody st) t/\t { nx:=fun _ H'=>Q .non H',rt:=Q } (start N vs) H):FnOk P w K mg base CX0 (k+1) f fd ps sp:=by
 obtain ⟨oc,od,kV,doc,pm,an,cdv,ct,osl,rfl,lk,hcd⟩:=F.ex
 refine fn_of lk hcd S len fun A outer s H vs Q E hr hsp=>?_
 obtain ⟨t,h,q⟩:=hbody cdv A outer s H vs Q E hr hsp
 exact ⟨t,h.nox,q⟩
theorem Fun.binds {x qual:Str} {st:Stmt} {f:Addr} {fd:FuncData} {ps:List Str} (F:Fun K x qual st f fd)
  (h:∀ (kV doc pm:Value) (an:Option Addr) (cdv ct:Value) (us:List Value),us.length=ps.length->bindArgs (PySem.W.fnOf x qual (defArgs st) (defBody st) (defScope st) .none kV doc pm an cdv ct) ⟨us,[]⟩=pure (ps.zip us)):Binds K fd ps []:=by
 obtain ⟨oc,od,kV,doc,pm,an,cdv,ct,osl,rfl,lk,hcd⟩:=F.ex
 exact .all (h kV doc pm an cdv ct)
theorem fun_mk {x qual:Str} {st:Stmt} {f:Addr} {oc:Value} {od an:Option Addr} {osl:Array (Option Value)} {kV doc pm cdv ct:Value} (l:K.lookup f=some ⟨oc,od,.func (PySem.W.fnOf x qual (defArgs st) (defBody st) (defScope st) .none kV doc pm an cdv ct),osl⟩)
  (c:PySem.W.codeIn K cdv qual=true) (k:PySem.W.keepIn K (.ref f)=true):Fun K x qual st f (PySem.W.fnOf x qual (defArgs st) (defBody st) (defScope st) .none kV doc pm an cdv ct):=⟨⟨oc,od,kV,doc,pm,an,cdv,ct,osl,rfl,l,c⟩,k⟩
end
theorem small1000 {n:Nat} (h:n<=1000):n<sizeLine:=Nat.lt_of_le_of_lt h (by decide)
section
variable {X:Cx}
theorem pv (i:Nat) {x:Str} {pos:Pos} (hN:X.N[i]?=some x:=by rfl) (hv:Vis X.env.scope x:=by first | exact Or.inl rfl | exact Or.inr (Or.inl rfl) | exact Or.inr (Or.inr rfl)) (hd:(x == ("__debug__" : Str))=false:=by decide)
  (hcd:(x == ("__classdict__" : Str))=false:=by decide):PE X (.Name x pos) (tVar i):=pe_var hN hv hd hcd
end
def Same (H H':Hp):Prop:=∀ b o,H b=some o->H' b=some o
theorem Same.refl (H:Hp):Same H H:=fun _ _ h=>h
theorem Same.trans {H H1 H2:Hp} (a:Same H H1) (b:Same H1 H2):Same H H2:=fun c o h=>b c o (a c o h)
theorem Same.free {H H':Hp} (e:Same H H') {l:Addr} (h:H' l=Option.none):H l=Option.none:=by
 cases q:H l with
 | none=>rfl
 | some o=>
  rw [e l o q] at h
  cases h
theorem Same.seq {K:Frag} {H H':Hp} {a:Addr} {xs:List V} (e:Same H H') (h:SqL K H a xs):SqL K H' a xs:=by
 rcases h with (h | ⟨o,h⟩) | h
 ·exact .inl (.inl (e _ _ h))
 ·exact .inl (.inr ⟨o,e _ _ h⟩)
 ·exact .inr h
end L2
namespace L2
open PySem PySem.Spec PyProof.Rows
def Dk (h h':Heap):Prop:=∀ b o,h.get? b=some o->∃ o',h'.get? b=some o'/\o'.cls=o.cls/\o'.dict=o.dict
theorem Dk.refl (h:Heap):Dk h h:=fun b o e=>⟨o,e,rfl,rfl⟩
theorem Dk.trans {h h1 h2:Heap} (a:Dk h h1) (b:Dk h1 h2):Dk h h2:=fun c o e=>by
 obtain ⟨o1,e1,c1,d1⟩:=a c o e
 obtain ⟨o2,e2,c2,d2⟩:=b c o1 e1
 exact ⟨o2,e2,c2.trans c1,d2.trans d1⟩
structure KD {α:Type} (t:Sem α):Prop where
 out:∀ (M:Model) (Γ:PySem.Ctx) (P:α->Pos->Shared->Prop) (Ee:Value->Pos->Shared->Prop) (p:Pos) (s:Shared),
  Sem.wp M Γ t P Ee p s->Sem.wp M Γ t (fun a p' s'=>P a p' s'/\Dk s.heap s'.heap) Ee p s
theorem KD.pure {α:Type} (a:α):KD (pure a:Sem α):=⟨fun M Γ P Ee p s h=>⟨h,Dk.refl _⟩⟩
theorem KD.uns {α:Type} (w:String):KD (unsupported w:Sem α):=⟨fun M Γ P Ee p s h=>h⟩
theorem KD.bind {α β:Type} {m:Sem α} {f:α->Sem β} (hm:KD m) (hf:∀ a,KD (f a)):KD (m>>=f):=⟨fun M Γ P Ee p s h=>by
 have h':Sem.wp M Γ (m.bind f) P Ee p s:=h
 rw [Sem.wp_bind] at h'
 show Sem.wp M Γ (m.bind f) _ Ee p s
 rw [Sem.wp_bind]
 refine Sem.wp_mono M Γ m ?_ ?_ p s (hm.out M Γ _ Ee p s h')
 ·intro a p' s' ⟨q,d⟩
  exact Sem.wp_mono M Γ (f a) (fun b p2 s2 zz47=>by obtain ⟨q2,d2⟩:=zz47; exact ⟨q2,d.trans d2⟩) (fun _ _ _ x=>x) p' s' ((hf a).out M Γ _ Ee p' s' q)
 ·exact fun _ _ _ x=>x⟩
theorem KD.load (a:Addr):KD (load a):=⟨fun M Γ P Ee p s h=>by
 obtain ⟨o,e,q⟩:=h
 exact ⟨o,e,q,Dk.refl _⟩⟩
theorem KD.stack:KD stack:=⟨fun M Γ P Ee p s h=>⟨h,Dk.refl _⟩⟩
theorem Dk.push {h:Heap} {o:Obj}:Dk h (h.push o):=fun b u e=>⟨u,Heap.get?_push_of_some _ e,rfl,rfl⟩
theorem KD.alloc (o:Obj):KD (alloc o):=⟨fun M Γ P Ee p s h=>⟨h,Dk.push⟩⟩
theorem KD.ite {α:Type} {c:Prop} [Decidable c] {a b:Sem α} (ha:KD a) (hb:KD b):KD (if c then a else b):=by
 by_cases h:c
 ·rw [if_pos h]; exact ha
 ·rw [if_neg h]; exact hb
theorem isFreed_get {h:Heap} {a:Addr} {o:Obj} (e:h.get? a=some o):o.isFreed=false:=by
 obtain ⟨c,d,dt,sl⟩:=o
 unfold Heap.get? at e
 split at e
 ·cases e
 ·rename_i hn
  cases dt with
  | freed=>exact absurd e (fun q=>hn _ _ _ q)
  | _=>rfl
theorem Dk.update {h:Heap} {a:Addr} {f:Obj->Obj} (hc:∀ o,(f o).cls=o.cls) (hd:∀ o,(f o).dict=o.dict) (hf:∀ o,o.isFreed=false->(f o).isFreed=false):Dk h (h.update a f):=by
 intro b o e
 by_cases hb:b=a
 ·subst hb
  exact ⟨f o,Heap.get?_update_self f e (hf o (isFreed_get e)),hc o,hd o⟩
 ·exact ⟨o,by rw [Heap.get?_update_ne h b a f hb]; exact e,rfl,rfl⟩
theorem KD.update (a:Addr) {f:Obj->Obj} (hc:∀ o,(f o).cls=o.cls) (hd:∀ o,(f o).dict=o.dict) (hf:∀ o,o.isFreed=false->(f o).isFreed=false):KD (update a f):=
 ⟨fun M Γ P Ee p s h=>⟨h.1,h.2,Dk.update hc hd hf⟩⟩
theorem KD.fieldsOf (v:Value):KD (fieldsOf v):=by
 unfold PySem.fieldsOf
 split
 ·exact KD.bind (KD.load _) fun o=>by split <;> first | exact KD.pure _ | exact KD.uns _
 ·exact KD.uns _
theorem KD.field (v:Value) (i:Nat):KD (field v i):=by
 unfold PySem.field
 exact KD.bind (KD.fieldsOf v) fun o=>by split <;> first | exact KD.pure _ | exact KD.uns _
theorem mapF_cls (f:Array Value->Array Value) (o:Obj):(Obj.mapFields f o).cls=o.cls:=by
 obtain ⟨c,d,dt,sl⟩:=o; cases dt <;> rfl
theorem mapF_dict (f:Array Value->Array Value) (o:Obj):(Obj.mapFields f o).dict=o.dict:=by
 obtain ⟨c,d,dt,sl⟩:=o; cases dt <;> rfl
theorem mapF_freed (f:Array Value->Array Value) (o:Obj) (h:o.isFreed=false):(Obj.mapFields f o).isFreed=false:=by
 obtain ⟨c,d,dt,sl⟩:=o; cases dt <;> first | rfl | exact h
theorem KD.setField (v:Value) (i:Nat) (x:Value):KD (setField v i x):=by
 unfold PySem.setField
 split
 ·unfold PySem.updateField
  refine KD.bind (KD.load _) fun o=>?_
  split
  ·exact KD.ite (KD.update _ (mapF_cls _) (mapF_dict _) (mapF_freed _)) (KD.uns _)
  ·exact KD.uns _
 ·exact KD.uns _
theorem KD.setFlight (v:Value) (f:Option Addr):KD (setFlight v f):=by
 unfold PySem.setFlight
 exact KD.bind (KD.field _ _) fun o=>KD.ite (KD.setField _ _ _) (KD.pure _)
theorem KD.newEntry (a b c d e:Value) (l:List Value):KD (EntryCells.newEntry a b c d e l):=by
 unfold EntryCells.newEntry newFields newObj
 refine KD.ite (KD.bind (KD.uns _) fun _=>?_) ?_
 all_goals exact KD.bind (KD.alloc _) fun _=>KD.pure _
theorem KD.behind (env:Env) (l:List Env):KD (behindIsImport env l):=by
 unfold behindIsImport
 exact KD.ite (KD.pure _) (KD.ite (KD.pure _) (KD.bind (KD.field _ _) fun _=>KD.pure _))
theorem KD.under:KD underTheClaimsCaller:=KD.bind KD.stack fun _=>KD.pure _
theorem KD.keptBack (env:Env) (b:Bool) (l:List Env):KD (keptBack env b l):=by
 unfold PySem.keptBack
 split
 ·exact KD.ite (KD.pure _) (KD.bind KD.under fun _=>KD.pure _)
 ·exact KD.pure _
theorem KD.ready:∀ l:List Env,KD (readyFrames l)
 | []=>KD.pure _
 | env::l=>by
  rw [readyFrames.eq_2]
  split
  ·refine KD.bind (KD.load _) fun o=>KD.ite (KD.pure _) (KD.bind (KD.behind _ _) fun _=>KD.bind (KD.keptBack _ _ _) fun _=>KD.bind (KD.update _ (fun _=>rfl) (fun _=>rfl) fun o h=>?_) fun _=>KD.ready l)
   obtain ⟨c,d,dt,sl⟩:=o
   cases dt <;> first | rfl | exact h
  ·exact KD.uns _
theorem KD.frameOf (env:Env):KD (PySem.frameOf env):=by
 unfold PySem.frameOf
 refine KD.bind (KD.bind KD.stack fun _=>KD.pure _) fun l=>KD.bind ?_ fun o=>?_
 ·unfold frameObject
  split
  ·exact KD.pure _
  ·exact KD.bind (KD.ready _) fun _=>KD.pure _
 ·split <;> first | exact KD.pure _ | exact KD.uns _
theorem KD.entryPlace (f:Addr) (b:Bool):KD (entryPlaceOf f b):=by
 unfold entryPlaceOf
 refine KD.bind KD.stack fun o=>?_
 split <;> exact KD.pure _
theorem KD.noteFrame (e:Value) (env:Env):KD (noteFrame e env):=by
 unfold PySem.noteFrame
 split
 ·refine KD.bind (KD.field _ _) fun hd=>?_
  refine KD.ite (KD.bind (KD.field _ _) fun x=>KD.ite (KD.pure _) (KD.bind (KD.setField _ _ _) fun _=>?_)) ?_
  all_goals exact KD.bind (KD.frameOf _) fun _=>KD.bind (KD.entryPlace _ _) fun _=>KD.bind (KD.newEntry _ _ _ _ _ _) fun _=>KD.setField _ _ _
 ·exact KD.uns _
theorem KD.leaving (env:Env) (e:Value):KD (leaving env e):=KD.bind (KD.noteFrame e env) fun _=>KD.setFlight _ _
theorem KD.any {α:Type} {M:Model} {A:Around} {t:Sem α} {Q:α->Shared->Prop} {E:Value->Shared->Prop} {s:Shared} (k:KD t) (h:wpAny M A t Q E s):wpAny M A t (fun a s'=>Q a s'/\Dk s.heap s'.heap) E s:=
 fun Γ p hΓ=>k.out M Γ _ _ p s (h Γ p hΓ)
def cut (h:Heap) (fs:List Addr):Heap:={ h with objs:=h.objs.mapIdx fun i o=>if i∈fs then { o with data:=.freed } else o }
theorem cut_in {h:Heap} {fs:List Addr} {b:Addr} (hb:b∈fs):(cut h fs).get? b=none:=by
 unfold cut Heap.get?
 simp only [Array.getElem?_mapIdx]
 cases e:h.objs[b]? with
 | none=>rfl
 | some o=>simp [hb]
theorem cut_out {h:Heap} {fs:List Addr} {b:Addr} (hb:b∉fs):(cut h fs).get? b=h.get? b:=by
 unfold cut Heap.get?
 simp only [Array.getElem?_mapIdx]
 cases e:h.objs[b]? with
 | none=>rfl
 | some o=>simp [hb]
theorem cut_stays {h:Heap} {fs:List Addr}:(cut h fs).StaysIn h:=fun b o e=>by
 by_cases hb:b∈fs
 ·rw [cut_in hb] at e; cases e
 ·rw [cut_out hb] at e; exact e
theorem FunFrames.rebase {h base B:Heap}:∀ {l:List Env},(∀ L∈frs l,B.get? L=none)->h.FunFrames base l->h.FunFrames B l
 | [],_,_=>trivial
 | env::l,k,⟨hk,⟨L,o,hf,_,ho,hd⟩,r⟩=>by
  refine ⟨hk,⟨L,o,hf,k L ?_,ho,hd⟩,FunFrames.rebase (fun L' hL=>k L' ?_) r⟩
  ·unfold frs; rw [List.filterMap_cons,hf]; exact List.mem_cons_self
  ·unfold frs at hL ⊢; rw [List.filterMap_cons,hf]; exact List.mem_cons_of_mem _ hL
theorem HOk.fly {P:Program} {w:World} {H:Hp} {h h' B:Heap} (x:HOk P w H h) (st:B.StaysIn h) (st':B.StaysIn h') (inB:∀ b o,H b=some o->∃ ob,B.get? b=some ob):HOk P w H h':=fun a o e=>
 (x a o e).stay (fun b u hb q=>by
  have y:∃ ob,H b=some ob:=hb.elim (fun z=>z ▸ ⟨o,e⟩) fun z=>⟨_,z⟩
  obtain ⟨ob,z⟩:=y
  obtain ⟨ou,y⟩:=inB b ob z
  have t:=st b ou y
  rw [q] at t; cases t
  exact st' b _ y) (fun _ q=>q) fun _ _ q=>q
theorem Un.fly {fs:List Addr} {H H':Hp} {h0 h h' B:Heap} (u:Un fs [] H H' h0 h) (st:B.StaysIn h) (st':B.StaysIn h') (up:h.UpToSlots h')
  (all:∀ b o,h0.get? b=some o->b∉fs->∃ o',B.get? b=some o') (fr:∀ b∈fs,∃ o,h.get? b=some o/\∀ vs:Array Value,o.data≠.fields vs):Un fs [] H H' h0 h' where
 keep b o q n hb hx:=by
  have t:=u.keep b o q n hb hx
  obtain ⟨o',y⟩:=all b o q hb
  have z:=st b o' y
  rw [t] at z; cases z
  exact st' b _ y
 slot b o q n hb hx:=by
  obtain ⟨sl,e⟩:=u.slot b o q n hb hx
  obtain ⟨o2,e2,nd⟩:=fr b hb
  rw [e] at e2; cases e2
  obtain ⟨sl',e'⟩:=up b _ e nd
  exact ⟨sl',e'⟩
 free:=u.free
 there b o q hx:=by
  by_cases hb:b∈fs
  ·obtain ⟨o2,e2,nd⟩:=fr b hb
   obtain ⟨sl',e'⟩:=up b _ e2 nd
   exact ⟨_,e'⟩
  ·obtain ⟨o',y⟩:=all b o q hb
   exact ⟨_,st' b _ y⟩
 tups:=u.tups
 frzs:=u.frzs
 tbls:=u.tbls
theorem ObjOk.got {P:Program} {w:World} {H:Hp} {h:Heap} {a:Addr} {o:HO} (x:ObjOk P w H h a o):∃ ob,h.get? a=some ob:=by
 cases o with
 | lst xs=>obtain ⟨_,_,_,_,e⟩:=x; exact ⟨_,e⟩
 | tup xs=>obtain ⟨_,_,_,ob,e,_⟩:=x; exact ⟨_,e⟩
 | dK kvs=>obtain ⟨_,_,_,_,o,_,_,e,_⟩:=x; exact ⟨_,e⟩
 | dT kvs=>obtain ⟨_,_,_,_,o,_,_,e,_⟩:=x; exact ⟨_,e⟩
 | set S n=>obtain ⟨o,_,_,_,e,_⟩:=x; exact ⟨_,e⟩
 | ins C dx fs=>obtain ⟨_,_,_,e,_⟩:=x; exact ⟨_,e⟩
 | own y=>obtain ⟨_,e⟩:=x; exact ⟨_,e⟩
 | xd fs=>obtain ⟨_,⟨_,_,_,e,_⟩,_⟩:=x; exact ⟨_,e⟩
 | rng lo hi=>obtain ⟨_,_,_,e⟩:=x; exact ⟨_,e⟩
 | frz ob u=>obtain ⟨e,_⟩:=x; exact ⟨_,e⟩
 | tbl ps=>exact ⟨_,show h.get? a=some _ from x⟩
 | met f y=>exact ⟨_,show h.get? a=some _ from x⟩
 | ext φ=>exact x.2.1
structure Flies (P:Program) (w:World) (outer:List Env) (H:Hp) (s:Shared) (a:Addr) (B:Heap) (H':Hp) (cls:Value) (od:Option Addr) (s':Shared):Prop where
 fl:∃ a0,B.FlyingW outer a cls a0 s'.heap
 dict:∃ o,s'.heap.get? a=some o/\o.dict=od
 os:s'.os=s.os
 bare:AllBare s'.gens
 un:Un (frs outer) [] H H' s.heap s'.heap
 hok:HOk P w H' s'.heap
 inB:∀ b o,H' b=some o->∃ ob,B.get? b=some ob
 all:∀ b o,s.heap.get? b=some o->b∉frs outer->∃ o',B.get? b=some o'
def CXW (P:Program) (w:World):CXT:=fun outer H s E e s'=>∃ a B H' cls od,e=.ref a/\Flies P w outer H s a B H' cls od s'/\E cls od H'
section
variable {P:Program} {w:World} {K:Frag} {mg:Str->Option Value} {base:Heap} {N:List Str} {qual:Str} {scope:Scope} {f:Addr} {cd:Value} {A:Around} {outer:List Env} {s:Shared} {H:Hp} {E:XK}
 {pins:List (Addr×Obj)} {σ:St} {H':Hp} {s2:Shared} {a:Addr}
theorem fr_of {h B:Heap} {l:List Env} (F:h.FunFrames B l):∀ b∈frs l,∃ o,h.get? b=some o/\∀ vs:Array Value,o.data≠.fields vs:=fun b hb=>(F.mem hb).2
theorem notin_frs {b:Addr} {o:Obj} (e:s.heap.get? b=some o) (hb:b∉frs outer):b∉frs (envOfC qual scope s.heap.objs.size f cd::outer):=by
 have:frs (envOfC qual scope s.heap.objs.size f cd::outer)=s.heap.objs.size::frs outer:=rfl
 rw [this]
 intro z
 rcases List.mem_cons.mp z with z | z
 ·exact absurd (Heap.lt_size e) (by rw [z]; exact Nat.lt_irrefl _)
 ·exact hb z
theorem fly_out {B:Heap} {cls a0:Value} {od:Option Addr} (I:Inv (cxOf (CXW P w) P w K mg base N qual scope f cd A outer s H E) pins σ H' s2) (st:B.StaysIn s2.heap)
  (dict:∃ o,s2.heap.get? a=some o/\o.dict=od) (inB:∀ b o,H' b=some o->∃ ob,B.get? b=some ob) (all:∀ b o,s.heap.get? b=some o->b∉frs outer->∃ o',B.get? b=some o')
  {h':Heap} (fl:B.FlyingW outer a cls a0 h') (up:s2.heap.UpToSlots h') (d:Dk s2.heap h') (hE:E cls od H'):CXW P w outer H s E (.ref a) { s2 with heap:=h' }:=by
 refine ⟨a,B,H',cls,od,rfl,⟨⟨a0,fl⟩,?_,I.os,I.bare,?_,HOk.fly I.hok st fl.1 inB,inB,all⟩,hE⟩
 ·obtain ⟨o,e,q⟩:=dict
  obtain ⟨o',e',_,q'⟩:=d a o e
  exact ⟨o',e',q'.trans q⟩
 ·exact Un.fly I.base st fl.1 up all (fr_of I.funs)
theorem passW:Passes (CXW P w) (cxOf (CXW P w) P w K mg base N qual scope f cd A outer s H E) E:=by
 rintro pins σ H1 s1 e s2 I ⟨a,B,H',cls,od,rfl,F,hE⟩
 have I2:=I.call' F.os F.un F.hok F.bare (fun b z=>absurd z (by simp))
 obtain ⟨a0,fl⟩:=F.fl
 refine wpAny_mono (KD.any (KD.leaving _ _) (wpAny_leaves_onW (Q:=fun _ s''=>∃ h',s''={ s2 with heap:=h' }/\B.FlyingW outer a cls a0 h'/\s2.heap.UpToSlots h') I.ok.frames rfl fl fun h' f u=>⟨h',rfl,f,u⟩)) (fun _ s'' zz48=>?_) fun _ _ x=>x
 obtain ⟨⟨h',e,f,u⟩,d⟩:=zz48
 subst e
 refine fly_out I2 fl.1 F.dict F.inB (fun b o q hb=>?_) f u d hE
 obtain ⟨o1,q1⟩:=I.base.there b o q (by simp [cxOf])
 exact F.all b o1 q1 (notin_frs q hb)
theorem leave_first {oe:Obj} {vs:Array Value} {a0:Value} (I:Inv (cxOf (CXW P w) P w K mg base N qual scope f cd A outer s H E) pins σ H' s2) (he:s2.heap.get? a=some oe) (ha:s.heap.get? a=none) (hH:H' a=none)
  (hna:a∉frs (envOfC qual scope s.heap.objs.size f cd::outer)) (hd:oe.data=.fields vs) (h1:vs[1]?=some .none) (h0:vs[0]?=some a0) (hE:E oe.cls oe.dict H') :
  (cxOf (CXW P w) P w K mg base N qual scope f cd A outer s H E).xe (.ref a) s2:=by
 have hB:∀ {b:Addr},b∉frs (envOfC qual scope s.heap.objs.size f cd::outer)->b≠a->(cut s2.heap (a::frs (envOfC qual scope s.heap.objs.size f cd::outer))).get? b=s2.heap.get? b:=fun h1 h2=>
  cut_out fun z=>(List.mem_cons.mp z).elim h2 h1
 have ff:s2.heap.FunFrames (cut s2.heap (a::frs (envOfC qual scope s.heap.objs.size f cd::outer))) (envOfC qual scope s.heap.objs.size f cd::outer):=
  FunFrames.rebase (fun L hL=>cut_in (List.mem_cons_of_mem _ hL)) I.stack
 refine wpAny_mono (KD.any (KD.leaving _ _) (wpAny_leaving_firstW (Q:=fun _ s''=>∃ h',s''={ s2 with heap:=h' }/\(cut s2.heap (a::frs (envOfC qual scope s.heap.objs.size f cd::outer))).LeftW (envOfC qual scope s.heap.objs.size f cd::outer) a oe.cls a0 s2.heap h') I.ok.frames ff rfl he cut_stays (cut_in List.mem_cons_self) hd h1 h0 fun h' l=>⟨h',rfl,l⟩)) (fun _ s'' zz49=>?_) fun _ _ x=>x
 obtain ⟨⟨h',e,l⟩,d⟩:=zz49
 subst e
 obtain ⟨l1,l2,l3,l4⟩:=l
 refine fly_out I cut_stays ⟨oe,he,rfl⟩ (fun b o q=>?_) (fun b o q hb=>?_) (a0:=a0) ⟨l1,cut_in List.mem_cons_self,l2.2.2,l3⟩ l4 d hE
 ·have hb:b∉frs (envOfC qual scope s.heap.objs.size f cd::outer):=fun z=>by
   have:=I.stkFree b z; rw [q] at this; cases this
  have hne:b≠a:=fun z=>by rw [z,hH] at q; cases q
  obtain ⟨ob,eb⟩:=(I.hok b o q).got
  exact ⟨ob,by rw [hB hb hne]; exact eb⟩
 ·have hne:b≠a:=fun z=>by rw [z,ha] at q; cases q
  obtain ⟨o1,q1⟩:=I.base.there b o q (by simp [cxOf])
  exact ⟨o1,by rw [hB (notin_frs q hb) hne]; exact q1⟩
end
end L2
namespace L2
open PySem PySem.Spec PyProof.Rows
section
variable {prog:Program} {w:World} {A:Around} {E:Value->Shared->Prop} {s:Shared} {K:Frag} {x C:Addr} {ox:Obj} {od:Option Obj} {name:Str} {tk:Tok} {fill expr:Bool} {v:Value} {Q:Value->Shared->Prop}
theorem exc_inst {M:Model} {h:Heap} {T:Value} {b:Bool} (KX:K.In h) (I:PySem.W.InstAt h x ox C od) (hs:PySem.W.mroIn K C T=some b):PySem.W.Looks M h (isInstance (.ref x) T) b:=by
 intro A Q E s hh q
 unfold isInstance
 exact wpAny_bind (I.type A _ E s hh (PySem.W.looks_mroIn KX hs A _ E s hh q))
theorem kind_ga:builtinKind "BaseException.__getattribute__" = some Manifest.AttrKind.slot:=by decide +kernel
theorem split_ga:splitId "BaseException.__getattribute__" = some ("BaseException", "__getattribute__"):=by decide +kernel
theorem exc_classBy (KX:K.In s.heap) (I:PySem.W.InstAt s.heap x ox C od) (hga:PySem.W.findIn K (.ref C) (Str.ofString "__getattribute__")=some (some (.builtin "BaseException.__getattribute__")))
  (hh:PySem.W.findIn K (.ref C) (Str.ofString "__getattr__")=some none) (hs:PySem.W.mroIn K C (.type "BaseException")=some true) (ho:PySem.W.mroIn K C (.type "object")=some true) (S:Slot "ValueError" (Str.ofString "__getattribute__") "BaseException.__getattribute__")
  (hf:PySem.W.findObj K C od (Str.ofString "__class__")=some (.bind (.builtin "getset_descriptor.__get__") (.builtin "object.__class__"))) (q:Q (.ref C) s) :
  wpAny (model prog w) A (getAttrBy (.ref x) (.str (Str.ofString "__class__") tk) fill expr) Q E s:=by
 unfold getAttrBy
 refine wpAny_holding (wpAny_bind (I.type A _ E s (fun _ _ e=>e) (wpAny_bind (PySem.W.looks_findIn KX hga A _ E s (fun _ _ e=>e) ?_))))
 show wpAny _ _ (getAttrByItsOwn _ _ _ _ _ _) _ _ _
 unfold getAttrByItsOwn
 refine wpAny_bind (PySem.W.looks_hook (mc:=.ref C) KX (r:=none) ((if_pos (show onTheHeap (.ref C)=true from rfl)).trans hh) A _ E s (fun _ _ e=>e) (wpAny_bind (wpAny_attempt (wpAny_holding ?_))))
 unfold callGetattribute
 have e1:(expr&&onTheHeap (Value.builtin "BaseException.__getattribute__"))=false:=by cases expr <;> rfl
 rw [e1]
 show wpAny _ _ (boundAndCalled _ _ _) _ _ _
 unfold boundAndCalled
 rw [S.bind]
 refine wpAny_bind (wpAny_pure ?_)
 refine wpAny_call (codeAny_call_builtin S.plain F.entry_bexc_ga ?_)
 change wpAny (model prog w) A.in1 (checkBuiltinCall "BaseException.__getattribute__" ⟨[.ref x,.str (Str.ofString "__class__") tk],[]⟩) _ _ s
 refine PySem.W.check_slot (i := "BaseException.__getattribute__") (self:=.ref x) (rest:=[.str (Str.ofString "__class__") tk]) (kw:=[]) (owner := "BaseException") (n := "__getattribute__") kind_ga split_ga (exc_inst KX I hs) (F.args_bexc_ga _ _) ?_
 unfold Builtin.«object.__getattribute__»
 refine wpAny_bind (wpAny_pure ?_)
 refine wpAny_bind (wpAny_pure ?_)
 refine wpAny_bind (I.type _ _ _ s (fun _ _ e=>e) (wpAny_bind (PySem.W.looks_find KX I hf _ _ _ s (fun _ _ e=>e) ?_)))
 show wpAny _ _ (Builtin.ObjectAttr.bindTo _ _ _ _) _ _ _
 unfold Builtin.ObjectAttr.bindTo
 refine wpAny_bind (wpAny_holding (wpAny_call (PySem.W.class_get KX I ho ?_)))
 refine wpAny_pure ?_
 show wpAny _ _ (handedOut (.ref C)) _ _ _
 exact wpAny_pure q
theorem exc_kitx (hga:PySem.W.findIn K (.ref C) (Str.ofString "__getattribute__")=some (some (.builtin "BaseException.__getattribute__")))
  (hh:PySem.W.findIn K (.ref C) (Str.ofString "__getattr__")=some none) (hs:PySem.W.mroIn K C (.type "BaseException")=some true) (ho:PySem.W.mroIn K C (.type "object")=some true)
  (hf:PySem.W.findObj K C od (Str.ofString "__class__")=some (.bind (.builtin "getset_descriptor.__get__") (.builtin "object.__class__"))) (hc:PySem.W.kitCls K (.ref C) (.ref C)=some true) :
  PySem.W.KitX K (.ref x) (.ref C) fun h=>PySem.W.InstAt h x ox C od where
 ty M h KX I:=I.type
 it M h KX I:=(PySem.W.kit_cls KX hc).2.1
 ne h tp dd its n sl KX e:=by
  by_cases q:C=tp
  ·subst q
   exfalso
   unfold PySem.W.mroIn PySem.W.clsIn at ho
   split at ho
   ·rename_i e2
    have z:=KX _ _ e2
    rw [e] at z; cases z
   ·cases ho
  ·simp [q]
 ca {prog w A E Q s} KX I q:=by
  unfold getAttr?
  refine wpAny_bind (wpAny_mkText ?_)
  unfold getAttrBy?
  exact wpAny_bind (wpAny_attempt (exc_classBy (s:={ s with toks:=s.toks+1 }) KX I hga hh hs ho F.attr_ValueError.ga hf (wpAny_pure q)))
end
end L2
namespace L2
open PySem PySem.Spec PyProof.Rows
section
variable {prog:Program} {w:World} {A:Around} {E:Value->Shared->Prop} {s:Shared} {K:Frag} {x C:Addr} {ox:Obj} {name:Str} {tk:Tok} {v:Value} {Q:Unit->Shared->Prop}
end
end L2
namespace L2
open PySem PySem.Spec PyProof.Rows
section
variable {prog:Program} {w:World} {A:Around} {s:Shared} {K:Frag} {C f:Addr} {R:Result->Shared->Prop} {nm q:Str} {N:Addr} {bs bm bmB:List Value} {hdct:Bool} {sn:List Str} {sub:List Value} {ab:Bool} {col:Option Bool} {dd:Option Addr} {k0 k1 k2 k3 k5:Option Value}
 {B Bn newId nid initId inN:String} {bmN:List Value} {rest:List Value}
end
end L2
namespace L2
open PySem PySem.Spec PyProof.Rows
section
variable {prog:Program} {w:World} {A:Around} {E:Value->Shared->Prop} {s:Shared} {K:Frag} {env:Env} {x:Expr} {pos:Pos} {Q:Flow->Shared->Prop}
def Ready (K:Frag) (E:Value->Shared->Prop) (v:Value) (s:Shared):Prop:=
 ∃ (e:Addr) (oe:Obj) (vs:Array Value) (C:Addr),v=.ref e/\K.In s.heap/\s.heap.get? e=some oe/\oe.cls=.ref C/\oe.data=.fields vs/\vs[1]?=some .none /\
  PySem.W.mroIn K C (.type "BaseException")=some true/\PySem.W.typeIn K (.ref C)=some (.type "type")/\E (.ref e) s
theorem exc_raise (hh:A.handled=none) (hx:wpAny (model prog w) A (eval x env) (Ready K E) E s):wpAny (model prog w) A (exec (.Raise (some x) none pos) env) Q E s:=by
 rw [arm_exec_Raise]
 refine wpAny_bind (wpAny_standAt ?_)
 show wpAny _ _ (raiseStmt env (some (eval x env>>=fun v=>standAt pos>>=fun _=>Pure.pure v)) none) _ _ _
 unfold raiseStmt
 refine wpAny_bind (wpAny_bind (thn hx fun v s1 hv=>wpAny_bind (wpAny_standAt (wpAny_pure ?_))))
 obtain ⟨e,oe,vs,C,rfl,KX,he,hc,hd,h1,hm,ht,hE⟩:=hv
 have nt:∀ (Q:Bool->Shared->Prop),Q false s1->wpAny (model prog w) A (isType (.ref e)) Q E s1:=fun Q q=>by
  unfold isType
  refine wpAny_bind (wpAny_loadPart he (wpAny_pure ?_))
  rw [hd]
  exact q
 have ty:∀ (Q:Value->Shared->Prop),Q (.ref C) s1->wpAny (model prog w) A (typeOf (.ref e)) Q E s1:=fun Q q=>by
  unfold typeOf
  exact wpAny_bind (wpAny_loadPart he (wpAny_pure (by rw [hc]; exact q)))
 refine wpAny_bind (wpAny_pure ?_)
 refine wpAny_bind (wpAny_holding ?_)
 unfold excFromValue
 refine wpAny_bind ?_
 unfold isExcClass
 refine wpAny_bind (nt _ (wpAny_pure ?_))
 refine wpAny_bind ?_
 unfold isInstance
 refine wpAny_bind (ty _ (PySem.W.looks_mroIn KX hm _ _ _ _ (fun _ _ e=>e) (wpAny_pure ?_)))
 refine wpAny_bind (nt _ ?_)
 refine wpAny_bind ?_
 unfold raisedInstance
 refine wpAny_bind (ty _ (wpAny_bind (PySem.W.looks_typeIn KX ht _ _ _ _ (fun _ _ e=>e) (wpAny_pure ?_))))
 refine wpAny_bind ?_
 unfold setFlight
 refine wpAny_bind ?_
 unfold field fieldsOf
 refine wpAny_bind (wpAny_bind (wpAny_load he ?_))
 rw [hd]
 refine wpAny_pure ?_
 rw [h1]
 refine wpAny_pure (wpAny_pure ?_)
 exact wpAny_raiseNew_none hh hE
end
end L2
namespace L2
open PySem PySem.Spec PyProof.Rows
section
variable {X:Cx} {pins:List (Addr×Obj)} {σ σ':St} {H:Hp} {s:Shared}
theorem below_loc {b:Addr} {o:Obj} (I:Inv X pins σ H s) (e:X.s₀.heap.get? b=some o):b≠X.env.locals:=by
 intro z
 have l:=Heap.lt_size e
 have a:=I.ok.above
 rw [<- z] at a
 exact absurd l (Nat.not_lt.mpr a)
theorem Inv.reloc {h':Heap} {tk:Nat} {m':Str->Option Value} (I:Inv X pins σ H s) (hs:Heap.SameBut X.env.locals s.heap h') (hn:h'.Ns X.env.locals m') (hl:σ'.length=σ.length)
  (lk:∀ (i:Nat) (x:Str) (v:V),X.N[i]?=some x->σ'[i]?=some (some v)->Vis X.env.scope x->∃ u,RelV v u/\Look X.env h' m' x u):Inv X pins σ' H { s with heap:=h',toks:=tk } where
 ok:=I.ok
 os:=I.os
 bare:=I.bare
 base:={
  keep:=fun b o e n p q=>(hs.2 b (below_loc I e)).trans (I.base.keep b o e n p q)
  slot:=fun b o e n p q=>by
   obtain ⟨sl,y⟩:=I.base.slot b o e n p q
   exact ⟨sl,(hs.2 b (below_loc I e)).trans y⟩
  free:=I.base.free
  there:=fun b o e q=>by
   obtain ⟨o',y⟩:=I.base.there b o e q
   exact ⟨o',(hs.2 b (below_loc I e)).trans y⟩
  tups:=I.base.tups
  frzs:=I.base.frzs
  tbls:=I.base.tbls }
 loc:=⟨m',hn,lk⟩
 cell:=fun x c e=>by
  obtain ⟨v,z⟩:=I.cell x c e
  exact ⟨v,z.sameBut hs (I.cne x c e)⟩
 free:=I.free
 freeC:=I.freeC
 pin:=fun p hp=>by
  obtain ⟨a,b,c,d⟩:=I.pin p hp
  exact ⟨(hs.2 p.1 c).trans a,b,c,d⟩
 hok:=fun b ob e=>by
  have key:∀ c,(∃ q,H c=some q)->c≠X.env.locals:=fun c zz50 z=>by obtain ⟨q,hq⟩:=zz50; rw [z,I.free] at hq; cases hq
  exact (I.hok b ob e).stay (fun c u hc q=>(hs.2 c (key c (hc.elim (fun z=>⟨ob,z ▸ e⟩) fun z=>⟨_,z⟩))).trans q) (fun _ q=>q) fun _ _ q=>q
 len:=hl.trans I.len
theorem gone_ok {M:Model} {A:Around} {E:Value->Shared->Prop} {i:Nat} {x:Str} {pos:Pos} {Q:Unit->Shared->Prop} (I:Inv X pins σ H s) (hN:X.N.Nodup) (hi:X.N[i]?=some x) (hk:X.env.kindOf x=some .local)
  (hq:∀ s',Inv X pins (σ.set i none) H s'->Q () s'):wpAny M A (do bindName X.env x Value.none; unbindBehindTheSuite X.env x pos) Q E s:=by
 have hcls:(X.env.scope.kind == .class||(X.env.scope.kind == .module&&X.env.locals != X.env.globals))=false:=by rw [I.ok.kind]; rfl
 have hiσ:i<σ.length:=by rw [I.len]; exact (List.getElem?_eq_some_iff.mp hi).1
 unfold bindName
 refine wpAny_bind (wpAny_bind (wpAny_holding (wpAny_point (wpAny_bind (store_ok (v:=.non) I hN hi (.inl hk) rfl (fun s1 I1=>?_) (.inr hk))))))
 refine wpAny_point ?_
 unfold unbindBehindTheSuite
 obtain ⟨m,hn,lk⟩:=I1.loc
 obtain ⟨u,ru,l⟩:=lk i x .non hi (List.getElem?_set_self hiσ) (.inl hk)
 have hm:m x=some u:=by
  rcases l with ⟨_,e⟩ | ⟨k,_⟩
  ·exact e
  ·rcases k with k | k <;> (rw [hk] at k; cases k)
 refine wpAny_onRaise (wpAny_unbindName_local hk hn hm hcls fun h' z hn' hs=>hq _ (Inv.reloc (tk:=s1.toks) I1 hs hn' (by simp) fun j y v e1 e2 e3=>?_))
 by_cases hj:j=i
 ·subst hj
  rw [List.getElem?_set_self hiσ] at e2
  cases e2
 ·rw [List.getElem?_set_ne (Ne.symm hj)] at e2
  obtain ⟨u',r',q⟩:=lk j y v e1 (by rw [List.getElem?_set_ne (Ne.symm hj)]; exact e2) e3
  refine ⟨u',r',?_⟩
  rcases q with ⟨k,e⟩ | ⟨k,c,e,z⟩
  ·refine .inl ⟨k,?_⟩
   have:y≠x:=fun e=>hj (nodup_ix hN e1 (e ▸ hi))
   simp [this,e]
  ·exact .inr ⟨k,c,e,z.sameBut hs (I1.cne y c e)⟩
end
end L2
namespace L2
open PySem PySem.Spec PyProof.Rows
section
variable {X:Cx} {pins:List (Addr×Obj)} {σ:St} {H H':Hp} {s s1:Shared}
theorem Ns.slots {h h':Heap} {a:Addr} {m:Str->Option Value} (n:h.Ns a m) (up:h.UpToSlots h'):h'.Ns a m:=by
 obtain ⟨o,es,ep,e,d,r⟩:=n
 obtain ⟨sl,e'⟩:=up a o e (fun vs z=>by rw [d] at z; cases z)
 exact ⟨_,es,ep,e',d,r⟩
theorem IsCell.slots {h h':Heap} {a:Addr} {v:Option Value} (n:h.IsCell a v) (up:h.UpToSlots h'):h'.IsCell a v:=by
 obtain ⟨o,e,d⟩:=n
 obtain ⟨sl,e'⟩:=up a o e (fun vs z=>by rw [d] at z; cases z)
 exact ⟨_,e',d⟩
theorem Inv.land {B h':Heap} {tk:Nat} (hex:X.ex = []) (hst:X.stack=X.env::X.outer) (hfr:X.env.frame=some X.env.locals) (I1:Inv X pins σ H s1) (I:Inv X pins σ H' s) (st:B.StaysIn s.heap) (st':B.StaysIn h') (up:s.heap.UpToSlots h')
  (inB:∀ b o,H' b=some o->∃ ob,B.get? b=some ob) (all:∀ b o,s1.heap.get? b=some o->b∉frs X.stack->∃ o',B.get? b=some o'):Inv X pins σ H' { s with heap:=h',toks:=tk }:=by
 have hfs:∀ b,b∉X.fs->b≠X.env.locals->b∉frs X.stack:=fun b h1 h2 z=>by
  rw [hst] at z
  unfold frs at z
  rw [List.filterMap_cons,hfr] at z
  rcases List.mem_cons.mp z with z | z
  ·exact h2 z
  ·exact h1 z
 have u:=I.base
 rw [hex] at u
 refine ⟨I.ok,I.os,I.bare,?_,?_,fun x c e=>?_,I.free,I.freeC,fun p hp=>?_,HOk.fly I.hok st st' inB,I.len⟩
 ·rw [hex]
  refine Un.fly u st st' up (fun b o q hb=>?_) (fr_of I.funs)
  obtain ⟨o1,q1⟩:=I1.base.there b o q (by rw [hex]; simp)
  exact all b o1 q1 (hfs b hb (below_loc I q))
 ·obtain ⟨m,n,l⟩:=I.loc
  refine ⟨m,Ns.slots n up,fun i x v e1 e2 e3=>?_⟩
  obtain ⟨w,r,q⟩:=l i x v e1 e2 e3
  refine ⟨w,r,?_⟩
  rcases q with q | ⟨k,c,e,z⟩
  ·exact .inl q
  ·exact .inr ⟨k,c,e,IsCell.slots z up⟩
 ·obtain ⟨v,z⟩:=I.cell x c e
  exact ⟨v,IsCell.slots z up⟩
 ·obtain ⟨a,b,c,d,f⟩:=I.pin p hp
  obtain ⟨a1,_⟩:=I1.pin p hp
  obtain ⟨o',y⟩:=all p.1 p.2 a1 (hfs p.1 d c)
  have z:=st _ _ y
  rw [a] at z; cases z
  exact ⟨st' _ _ y,b,c,d,f⟩
abbrev Cx.marked (X:Cx) (e:Value) (E:Value->Shared->Prop):Cx:={ X with A:=X.A.mark (some e),calm:=false,xe:=E }
theorem Inv.marked {e:Value} {E:Value->Shared->Prop} (I:Inv X pins σ H s):Inv (X.marked e E) pins σ H s:=
 ⟨⟨I.ok.mod,I.ok.kind,I.ok.glob,I.ok.blt,I.ok.above,I.ok.inj,I.ok.has,I.ok.cab,(fun z=>nomatch z),I.ok.frames,I.ok.stk,I.ok.exf,I.ok.bs,I.ok.bsz,I.ok.noex,I.ok.exfs,I.ok.funs,I.ok.frf⟩,
  I.os,I.bare,I.base,I.loc,I.cell,I.free,I.freeC,I.pin,I.hok,I.len⟩
theorem Inv.unmarked {e:Value} {E:Value->Shared->Prop} (ok:X.Ok) (I:Inv (X.marked e E) pins σ H s):Inv X pins σ H s:=
 ⟨ok,I.os,I.bare,I.base,I.loc,I.cell,I.free,I.freeC,I.pin,I.hok,I.len⟩
theorem Inv.track {a:Addr} {o:Obj} {vs:Array Value} (I:Inv X pins σ H s) (ha:s.heap.get? a=some o) (hd:o.data=.fields vs) (hH:H a=none) (n0:X.s₀.heap.get? a=none) (np:∀ p∈X.pn++pins,p.1≠a) :
  Inv X pins σ (upd H a (.ext fun h=>h.get? a=some o)) s:=by
 have hne:∀ b u,H b=some u->b≠a:=fun b u e z=>by rw [z,hH] at e; cases e
 have hk:∀ b u,H b=some u->upd H a (.ext fun h=>h.get? a=some o) b=some u:=fun b u e=>by rw [upd_ne (hne b u e)]; exact e
 have hl:X.env.locals≠a:=fun z=>by
  obtain ⟨m,⟨o',es,ep,e,d,_⟩,_⟩:=I.loc
  rw [z,ha] at e; cases e; rw [hd] at d; cases d
 refine ⟨I.ok,I.os,I.bare,⟨I.base.keep,I.base.slot,fun b ob e n hx=>?_,I.base.there,fun b xs e=>hk _ _ (I.base.tups b xs e),fun b ob u e=>hk _ _ (I.base.frzs b ob u e),fun b ps e=>?_⟩,I.loc,I.cell,?_,fun x c e=>?_,fun p hp=>?_,fun b ob e=>?_,I.len⟩
 ·have:b≠a:=fun z=>by rw [z,n0] at e; cases e
  rw [upd_ne this]; exact I.base.free b ob e n hx
 ·obtain ⟨more,q⟩:=I.base.tbls b ps e
  exact ⟨more,hk _ _ q⟩
 ·rw [upd_ne hl]; exact I.free
 ·have:c≠a:=fun z=>by
   obtain ⟨v,o',e1,d⟩:=I.cell x c e
   rw [z,ha] at e1; cases e1; rw [hd] at d; cases d
  rw [upd_ne this]; exact I.freeC x c e
 ·obtain ⟨p1,p2,p3⟩:=I.pin p hp
  exact ⟨p1,by rw [upd_ne (np p hp)]; exact p2,p3⟩
 ·by_cases hb:b=a
  ·subst hb
   rw [upd_same] at e
   cases e
   exact ⟨ha,⟨o,ha⟩,fun h1 h2 q k=>k o q⟩
  ·rw [upd_ne hb] at e
   refine (I.hok b ob e).stay (fun c u hc q=>q) (fun c q=>hk _ _ q) fun c xs q=>hk _ _ q
end
end L2
namespace L2
open PySem PySem.Spec PyProof.Rows
section
variable {X:Cx} {pins:List (Addr×Obj)} {σ:St} {H H':Hp} {s s1:Shared} {a:Addr} {B:Heap} {cls:Value} {od:Option Addr}
structure Here (X:Cx) (pins:List (Addr×Obj)) (σ:St) (H':Hp) (a:Addr) (B:Heap) (cls:Value) (od:Option Addr) (s:Shared):Prop where
 inv:Inv X pins σ H' s
 dict:∃ o,s.heap.get? a=some o/\o.dict=od
theorem Here.step {h':Heap} {tk:Nat} (hex:X.ex = []) (hst:X.stack=X.env::X.outer) (hfr:X.env.frame=some X.env.locals) (I1:Inv X pins σ H s1) (inB:∀ b o,H' b=some o->∃ ob,B.get? b=some ob)
  (all:∀ b o,s1.heap.get? b=some o->b∉frs X.stack->∃ o',B.get? b=some o') (h:Here X pins σ H' a B cls od s) (st:B.StaysIn s.heap) (st':B.StaysIn h') (up:s.heap.UpToSlots h') (d:Dk s.heap h'):Here X pins σ H' a B cls od { s with heap:=h',toks:=tk }:=by
 refine ⟨Inv.land hex hst hfr I1 h.inv st st' up inB all,?_⟩
 obtain ⟨o,e,q⟩:=h.dict
 obtain ⟨o',e',_,q'⟩:=d a o e
 exact ⟨o',e',q'.trans q⟩
theorem KD.post {α:Type} {M:Model} {A:Around} {t:Sem α} {P:Heap->Prop} {E:Value->Shared->Prop} {s:Shared} {Q:α->Shared->Prop} {r:α} (k:KD t)
  (h:wpAny M A t (fun v s'=>v=r/\∃ h',s'={ s with heap:=h' }/\P h') E s) (q:∀ h',P h'->Dk s.heap h'->Q r { s with heap:=h' }):wpAny M A t Q E s:=
 wpAny_mono (k.any h) (fun v s' zz51=>by obtain ⟨⟨e,h',e2,p⟩,d⟩:=zz51; subst e; subst e2; exact q h' p d) fun _ _ x=>x
theorem catch_ok {D:Ends} {cn n:Str} {C Dc:Addr} {jn:Nat} {np hpos:Pos} {b0:Stmt} {suite:List Stmt} {tb:TS} (hex:X.ex = []) (hst:X.stack=X.env::X.outer) (hfr:X.env.frame=some X.env.locals) (hN:X.N.Nodup)
  (hg:Gl X cn) (hm:X.mg cn=some (.ref C)) (hdb:(cn == ("__debug__" : Str))=false) (hc:cls=.ref Dc) (hx:PySem.W.exmOne X.K (.ref Dc) (.ref C)=some true) (hi:X.N[jn]?=some n) (hk:X.env.kindOf n=some .local)
  (hb:∀ e E,PSs (X.marked e E) (b0::suite) tb) (I1:Inv X pins σ H s1) (F:Flies X.prog X.w X.stack H s1 a B H' cls od s)
  (ht:∀ o:Obj,o.cls=cls->o.dict=od->(∃ vs:Array Value,o.data=.fields vs)->tb { nx:=fun σ' H'=>D.nx (σ'.set jn none) H',rt:=D.rt,bk:=fun σ' H'=>D.bk (σ'.set jn none) H',ct:=fun σ' H'=>D.ct (σ'.set jn none) H' }
   (σ.set jn (some (.ref a))) (upd H' a (.ext fun h=>h.get? a=some o))) :
  wpAny (model X.prog X.w) X.A (noteFrame (.ref a) X.env) (fun _ s2=>wpAny (model X.prog X.w) X.A (setFlight (.ref a) none) (fun _ s3=>wpAny (model X.prog X.w) X.A
   (handleBy (.ref a) X.env [.ExceptHandler (some (.Name cn np)) (some n) (b0::suite) hpos]) (SP X pins D) X.xe s3) X.xe s2) X.xe s:=by
 have I:=I1.call' F.os F.un F.hok F.bare (fun b z=>absurd z (by simp))
 obtain ⟨a0,fl⟩:=F.fl
 have h0:Here X pins σ H' a B cls od s:=⟨I,F.dict⟩
 have hfm:X.A.frames=some (X.env::X.outer):=hst ▸ I.ok.frames
 rw [hst] at fl
 have Ba:B.get? a=none:=fl.2.1
 refine KD.post (r:=()) (KD.noteFrame _ _) (P:=fun h'=>B.HeldW (X.env::X.outer) a cls a0 X.env.locals h'/\s.heap.UpToSlots h') (wpAny_looks_onW hfm hfr fl fun h' f u=>⟨rfl,h',rfl,f,u⟩) fun h1 zz52 d1=>?_
 obtain ⟨f1,u1⟩:=zz52
 have g1:=Here.step (tk:=s.toks) hex hst hfr I1 F.inB F.all h0 fl.1 f1.1 u1 d1
 refine KD.post (r:=()) (KD.setFlight _ _) (P:=fun h'=>B.FlyingW (X.env::X.outer) a cls a0 h'/\h1.UpToSlots h') (wpAny_landsW f1 fun h' f u=>⟨rfl,h',rfl,f,u⟩) fun h2 zz53 d2=>?_
 obtain ⟨f2,u2⟩:=zz53
 have g2:=Here.step (tk:=s.toks) hex hst hfr I1 F.inB F.all g1 f1.1 f2.1 u2 d2
 refine wpAny_handleBy_cons (codeAny_handlers_test ?_) (by simp [byPass])
 have obj:∀ {h:Heap},B.FlyingW (X.env::X.outer) a cls a0 h->∃ o vs,h.get? a=some o/\o.cls=cls/\o.data=.fields vs:=fun f=>by
  obtain ⟨_,_,_,oe,vs,_,_,_,e,⟨c,_⟩,d,_⟩:=f
  exact ⟨oe,vs,e,c,d⟩
 obtain ⟨o2,v2,e2,c2,t2⟩:=obj f2
 refine ld_glob (X:=X.marked (.ref a) X.xe) g2.inv.marked hg hm ?_ hdb
 have ty:PySem.W.Looks (model X.prog X.w) h2 (typeOf (.ref a)) (.ref Dc):=fun A Q E s hh q=>by
  unfold typeOf
  exact wpAny_bind (wpAny_loadPart (hh _ _ e2) (wpAny_pure (by rw [c2,hc]; exact q)))
 refine PySem.W.exm_one g2.inv.kIn ty hx _ _ _ _ (fun _ _ e=>e) ?_
 show codeAny _ _ (Code.handlers _ _ _) _ _
 refine codeAny_handlers_suite_as (KD.post (r:=()) (KD.setFlight _ _) (P:=fun h'=>B.FlyingW (X.env::X.outer) a cls a0 h'/\h2.UpToSlots h') (lands_againW f2 fun h' f u=>⟨rfl,h',rfl,f,u⟩) fun h3 zz54 d3=>?_)
 obtain ⟨f3,u3⟩:=zz54
 have g3:=Here.step (tk:=s.toks) hex hst hfr I1 F.inB F.all g2 f2.1 f3.1 u3 d3
 obtain ⟨o3,v3,e3,c3,t3⟩:=obj f3
 have hd3:o3.dict=od:=by
  obtain ⟨o,e,q⟩:=g3.dict
  rw [e3] at e; cases e; exact q
 have hna:a∉frs X.stack:=fun z=>by
  have ff:h3.FunFrames B (X.env::X.outer):=f3.2.2.1
  rw [hst] at z
  obtain ⟨_,o,e,nd⟩:=ff.mem z
  rw [e3] at e; cases e; exact nd v3 t3
 have hs1:s1.heap.get? a=none:=by
  cases q:s1.heap.get? a with
  | none=>rfl
  | some o=>
   obtain ⟨o',y⟩:=F.all a o q hna
   rw [Ba] at y; cases y
 have hHa:H' a=none:=by
  cases q:H' a with
  | none=>rfl
  | some o=>
   obtain ⟨o',y⟩:=F.inB a o q
   rw [Ba] at y; cases y
 have n0:X.s₀.heap.get? a=none:=by
  cases q:X.s₀.heap.get? a with
  | none=>rfl
  | some o=>
   obtain ⟨o',y⟩:=I1.base.there a o q (by rw [hex]; simp)
   rw [hs1] at y; cases y
 have np:∀ p∈X.pn++pins,p.1≠a:=fun p hp z=>by
  have:=(I1.pin p hp).1
  rw [z,hs1] at this; cases this
 have It:=Inv.track g3.inv e3 t3 hHa n0 np
 refine store_ok (v:=.ref a) It hN hi (.inl hk) rfl (fun s4 I4=>?_) (.inr hk)
 refine thn (hb _ _ pins s4 _ _ _ I4.marked (ht o3 c3 hd3 ⟨v3,t3⟩)) fun f s5 hf=>?_
 cases f with
 | next=>
  obtain ⟨σ5,H5,I5,q⟩:=hf
  exact gone_ok (I5.unmarked I.ok) hN hi hk fun s6 I6=>⟨_,_,I6,q⟩
 | brk=>
  obtain ⟨σ5,H5,I5,q⟩:=hf
  exact gone_ok (I5.unmarked I.ok) hN hi hk fun s6 I6=>⟨_,_,I6,q⟩
 | cont=>
  obtain ⟨σ5,H5,I5,q⟩:=hf
  exact gone_ok (I5.unmarked I.ok) hN hi hk fun s6 I6=>⟨_,_,I6,q⟩
 | ret u=>
  obtain ⟨v,σ5,H5,I5,r,q⟩:=hf
  exact gone_ok (I5.unmarked I.ok) hN hi hk fun s6 I6=>⟨v,_,_,I6,r,q⟩
end
end L2
namespace L2
open PySem PySem.Spec PyProof.Rows
section
variable {X:Cx} {k:Nat} {f:Addr} {fd:FuncData} {ps:List Str} {sp:Sp} {fn cn n y:Str} {fp cp ap np hpos yp pos:Pos} {e:Expr} {es:List Expr} {t:TA} {C:Addr} {i jn:Nat} {b0:Stmt} {suite:List Stmt} {tb:TS}
theorem eval_callX {pins:List (Addr×Obj)} {s:Shared} {σ:St} {H:Hp} {Q:VK} {E:XK} {E':Value->Shared->Prop} (F:FnOk X.prog X.w X.K X.mg X.base (CXW X.prog X.w) k f fd ps sp) (hr:Room k X.A) (hg:Gl X fn) (hm:X.mg fn=some (.ref f))
  (hkp:PySem.W.keepIn X.K (.ref f)=true) (hb:Binds X.K fd ps []) (ha:PA X.nox (e::es) t) (I:Inv X pins σ H s) (h:t σ H fun vs H1=>sp vs H1 Q E)
  (hE:∀ H1 s1 ev s',Inv X pins σ H1 s1->CXW X.prog X.w X.stack H1 s1 E ev s'->E' ev s') (hdb:(fn == ("__debug__" : Str))=false) (he:starEach (e::es) X.env=(false,eval e X.env)::starEach es X.env)
  (hpl:(backTo cp (starEach es X.env)).any (·.1)=false):wpAny (model X.prog X.w) X.A (eval (.Call (.Name fn fp) (e::es) [] cp) X.env) (EP X pins σ Q) E' s:=by
 refine wpAny_Call_Name_kw (ld_glob I hg hm ?_ hdb)
 refine PySem.W.callWith_K (h₀:=X.base) I.ok.mod.kin hkp (wpAny_mono (ha cp pins s σ H _ (I.wish _) h) (fun us s1 zz55=>?_) fun _ _ z=>False.elim z) he hpl
 obtain ⟨vs,H1,J,r,q⟩:=zz55
 have I1:=J.unwish
 refine ⟨I1.kIn,?_⟩
 have hl:(us ++ []).length=ps.length:=by rw [List.append_nil,<- r.length]; exact F.len _ _ _ _ q
 have hbd:=hb s1 us I1.kIn hl
 rw [List.append_nil] at hbd
 refine wpAny_call (codeAny_mono (F.run X.A X.stack s1 H1 ⟨us,[]⟩ us vs Q E hr I1.env0 hbd r q) fun r s' hq=>?_)
 cases r with
 | error ev=>exact hE H1 s1 ev s' I1 hq
 | ok fl=>
  cases fl with
  | ret u=>exact I1.after hq
  | next=>exact False.elim hq
  | brk=>exact False.elim hq
  | cont=>exact False.elim hq
def tCatch (X:Cx) (C:Addr) (jn:Nat) (tb:TS) (D:Ends) (σ:St):XK:=fun cls od H'=>∃ Dc,cls=.ref Dc/\PySem.W.exmOne X.K (.ref Dc) (.ref C)=some true /\
 ∀ (a:Addr) (o:Obj),H' a=none->o.cls=cls->o.dict=od->(∃ vs:Array Value,o.data=.fields vs) ->
  tb { nx:=fun σ' H'=>D.nx (σ'.set jn none) H',rt:=D.rt,bk:=fun σ' H'=>D.bk (σ'.set jn none) H',ct:=fun σ' H'=>D.ct (σ'.set jn none) H' } (σ.set jn (some (.ref a))) (upd H' a (.ext fun h=>h.get? a=some o))
end
end L2
namespace L2
open PySem PySem.Spec PyProof.Rows
section
variable {X:Cx} {pins:List (Addr×Obj)} {σ:St} {H:Hp} {s:Shared}
end
end L2
namespace L2
open PySem PySem.Spec PyProof.Rows
section
variable {X:Cx}
end
end L2
namespace L2
open PySem PySem.Spec PyProof.Rows
section
variable {X:Cx} {pins:List (Addr×Obj)} {σ:St} {H:Hp} {s:Shared}
end
end L2
namespace L2
open PySem PySem.Spec PyProof.Rows
abbrev vErr:List Value:=[Value.type "ValueError",Value.type "Exception",Value.type "BaseException",Value.type "object"]
section
variable {P:Program} {w:World} {K:Frag} {mg:Str->Option Value} {base:Heap} {N:List Str} {qual:Str} {scope:Scope} {f0:Addr} {cd:Value} {A:Around} {outer:List Env} {s0:Shared} {H0:Hp} {E:XK}
 {k:Nat} {C f:Addr} {fd:FuncData} {ps:List Str} {sp:Sp} {cn:Str} {np cp pos:Pos} {e:Expr} {es:List Expr} {t:TA}
end
end L2
namespace L2
open PySem PySem.Spec PyProof.Rows
section
variable {P:Program} {w:World} {K:Frag} {mg:Str->Option Value} {base:Heap} {k:Nat} {f:Addr} {fd:FuncData} {ps N:List Str} {sp:Sp} {CX:CXT}
theorem Fun.okX {x qual:Str} {st:Stmt} (F:Fun K x qual st f fd) (S:FnScope N ps (defScope st)) (len:∀ vs H Q E,sp vs H Q E->vs.length=ps.length)
  (hbody:∀ (cdv:Value) (A:Around) (outer:List Env) (s:Shared) (H:Hp) (vs:List V) (Q:VK) (E:XK),Room k (A.deeper (envOfC qual (defScope st) s.heap.objs.size f cdv))->sp vs H Q E ->
   ∃ t,PSs (cxOf (CXW P w) P w K mg base N qual (defScope st) f cdv A outer s H E) (defBody st) t/\t { nx:=fun _ H'=>Q .non H',rt:=Q } (start N vs) H):FnOk P w K mg base (CXW P w) (k+1) f fd ps sp:=by
 obtain ⟨oc,od,kV,doc,pm,an,cdv,ct,osl,rfl,lk,hcd⟩:=F.ex
 exact fn_of lk hcd S len fun A outer s H vs Q E hr hsp=>hbody cdv A outer s H vs Q E hr hsp
end
end L2
namespace L2
open PySem PySem.Spec PyProof.Rows
structure XGet (K:Frag) (C:Addr) (name:Str):Prop where
 ga:PySem.W.findIn K (.ref C) (Str.ofString "__getattribute__")=some (some (.builtin "BaseException.__getattribute__"))
 gh:PySem.W.findIn K (.ref C) (Str.ofString "__getattr__")=some none
 be:PySem.W.mroIn K C (.type "BaseException")=some true
 no:PySem.W.findIn K (.ref C) name=some none
 cd:∃ cd,PySem.W.clsIn K C=some cd/\cd.hasDict=true
section
variable {X:Cx} {o:Expr} {ta:TE} {name:Str} {pos:Pos}
end
end L2
namespace L2
open PySem PySem.Spec PyProof.Rows
structure XIs (K:Frag) (C:Addr):Prop where
 ga:PySem.W.findIn K (.ref C) (Str.ofString "__getattribute__")=some (some (.builtin "BaseException.__getattribute__"))
 gh:PySem.W.findIn K (.ref C) (Str.ofString "__getattr__")=some none
 be:PySem.W.mroIn K C (.type "BaseException")=some true
 ob:PySem.W.mroIn K C (.type "object")=some true
 cl:PySem.W.findIn K (.ref C) (Str.ofString "__class__")=some (some (.builtin "object.__class__"))
 gt:PySem.W.specialIn K (.builtin "object.__class__") (Str.ofString "__get__")=some (some (.builtin "getset_descriptor.__get__"))
 tk:PySem.W.takesIn K (.builtin "object.__class__")=some true
 kc:PySem.W.kitCls K (.ref C) (.ref C)=some true
theorem XIs.find {K:Frag} {C:Addr} (g:XIs K C) (od:Option Obj):PySem.W.findObj K C od (Str.ofString "__class__")=some (.bind (.builtin "getset_descriptor.__get__") (.builtin "object.__class__")):=by
 have hc:∃ cd,PySem.W.clsIn K C=some cd:=by
  have h:=g.ob
  unfold PySem.W.mroIn at h
  cases q:PySem.W.clsIn K C with
  | none=>rw [q] at h; cases h
  | some cd=>exact ⟨cd,rfl⟩
 obtain ⟨cd,hc⟩:=hc
 unfold PySem.W.findObj
 rw [hc,g.cl]
 simp [g.gt,g.tk]
section
variable {X:Cx} {pins:List (Addr×Obj)} {σ:St} {H:Hp} {s:Shared} {A:Around} {E:Value->Shared->Prop} {Q:Value->Shared->Prop} {c:Value} {b:Bool} {a C:Addr} {ox:Obj} {vs:Array Value}
theorem xis_ok (I:Inv X pins σ H s) (ea:H a=some (.ext fun h=>h.get? a=some ox)) (hc:ox.cls=.ref C) (hd:ox.data=.fields vs) (hx:∀ d,ox.dict=some d->∃ fs,H d=some (.xd fs)) (g:XIs X.K C) (e:PySem.W.kitOne X.K (.ref C) c=some b)
  (h:∀ tk,Q (.bool b) { s with toks:=tk }):wpAny (model X.prog X.w) A (call (.builtin "isinstance") [.ref a,c]) Q E s:=by
 have nc:PySem.W.notCls ox=true:=by obtain ⟨p1,p2,p3,p4⟩:=ox; cases hd; rfl
 have J:∃ od,PySem.W.InstAt s.heap a ox C od:=by
  cases q:ox.dict with
  | none=>exact ⟨none,(I.hok a _ ea).1,hc,nc,by rw [q]; trivial⟩
  | some d=>
   obtain ⟨fs,hf⟩:=hx d q
   obtain ⟨o,eo⟩:=(I.hok d _ hf).got
   exact ⟨some o,(I.hok a _ ea).1,hc,nc,by rw [q]; exact eo⟩
 obtain ⟨od,J⟩:=J
 exact PySem.W.kia_one (exc_kitx g.ga g.gh g.be g.ob (g.find od) g.kc) I.kIn J e (fun z=>nomatch z) h
end
end L2
namespace L2
open PySem PySem.Spec PyProof.Rows
structure XMk0 (K:Frag) (C:Addr):Prop where
 obj:∃ (nm q:Str) (N:Addr) (bs bm:List Value) (hdct:Bool) (sn:List Str) (sub:List Value) (ab:Bool) (col:Option Bool) (dd:Option Addr) (k0 k1 k2 k3 k5:Option Value),
  K.lookup C=some (excClassObj nm q C N bs bm hdct sn sub ab col dd k0 k1 k2 k3 k5 "ValueError.__new__")/\(∀ h:Heap,K.In h->OwnTail h vErr bm)/\∀ h:Heap,K.In h->∃ mN,h.Ns N mN/\mN (Str.ofString "__init__")=none
 ty:PySem.W.typeIn K (.ref C)=some (.type "type")
 be:PySem.W.mroIn K C (.type "BaseException")=some true
 kp:PySem.W.keepIn K (.ref C)=true
section
variable {P:Program} {w:World} {K:Frag} {mg:Str->Option Value} {base:Heap} {N:List Str} {qual:Str} {scope:Scope} {f0:Addr} {cd:Value} {A:Around} {outer:List Env} {s0:Shared} {H0:Hp} {E:XK}
 {C:Addr} {cn:Str} {np cp pos:Pos} {e:Expr} {es:List Expr} {t:TA}
def tXRaise0 (C:Addr) (E:XK) (t:TA):TS:=fun _ σ H=>t σ H fun vs H1=>vs.length<=1000/\E (.ref C) none H1
theorem ps_xraise0 (M:XMk0 K C) (hg:Gl (cxOf (CXW P w) P w K mg base N qual scope f0 cd A outer s0 H0 E) cn) (hm:mg cn=some (.ref C))
  (ha:PA (cxOf (CXW P w) P w K mg base N qual scope f0 cd A outer s0 H0 E) (e::es) t) (hdb:(cn == ("__debug__" : Str))=false) (he:starEach (e::es) (envOfC qual scope s0.heap.objs.size f0 cd)=(false,eval e (envOfC qual scope s0.heap.objs.size f0 cd))::starEach es (envOfC qual scope s0.heap.objs.size f0 cd))
  (hpl:(backTo cp (starEach es (envOfC qual scope s0.heap.objs.size f0 cd))).any (·.1)=false) :
  PS (cxOf (CXW P w) P w K mg base N qual scope f0 cd A outer s0 H0 E) (.Raise (some (.Call (.Name cn np) (e::es) [] cp)) none pos) (tXRaise0 C E t):=by
 intro pins s σ H D I h
 refine exc_raise (K:=K) (I.ok.hd rfl) (wpAny_Call_Name_kw (ld_glob I hg hm ?_ hdb))
 refine PySem.W.callWith_K (h₀:=base) I.ok.mod.kin M.kp (thn (ha cp pins s σ H _ I h) fun us s1 ⟨vs,H1,I1,r,hl,q⟩=>⟨I1.kIn,?_⟩) he hpl
 obtain ⟨nm,q0,N0,bs,bm,hdct,sn,sub,ab,col,dd,k0,k1,k2,k3,k5,lk,ot,ns⟩:=M.obj
 obtain ⟨mN,n1,n2⟩:=ns _ I1.kIn
 refine wpAny_call_exc_subU PySem.F.excBase_ValueError rfl PySem.F.excBase_ValueError (ot _ I1.kIn) (I1.kIn _ _ lk) n1 n2 (fun h' a mk=>?_) (Nat.le_of_lt (small1000 (r.length ▸ hl)))
 obtain ⟨tt,et,_,_⟩:=mk.there
 have J:=I1.kept (t':=s1.toks) mk.keeps
 have Ha:H1 a=none:=by
  cases z:H1 a with
  | none=>rfl
  | some o=>
   obtain ⟨ob,eo⟩:=(I1.hok a o z).got
   rw [mk.new] at eo; cases eo
 have n0:s0.heap.get? a=none:=by
  cases z:s0.heap.get? a with
  | none=>rfl
  | some o=>
   obtain ⟨ob,eo⟩:=I1.base.there a o z (by simp [cxOf])
   rw [mk.new] at eo; cases eo
 refine ⟨a,_,_,C,rfl,J.kIn,et,rfl,rfl,rfl,M.be,M.ty,?_⟩
 refine leave_first J et n0 Ha (fun z=>?_) rfl rfl rfl q
 obtain ⟨_,o,eo,_⟩:=I1.stack.mem z
 rw [mk.new] at eo; cases eo
end
end L2
namespace L2
open PySem
structure Nx {α:Type} (t:Sem α):Prop where
 out:∀ (M:Model) (Γ:PySem.Ctx) (P:α->Pos->Shared->Prop) (Ee Ef:Value->Pos->Shared->Prop) (p:Pos) (s:Shared),Sem.wp M Γ t P Ee p s->Sem.wp M Γ t P Ef p s
theorem Nx.pure {α:Type} (a:α):Nx (pure a:Sem α):=⟨fun M Γ P Ee Ef p s h=>h⟩
theorem Nx.uns {α:Type} (w:String):Nx (unsupported w:Sem α):=⟨fun M Γ P Ee Ef p s h=>h⟩
theorem Nx.bind {α β:Type} {m:Sem α} {f:α->Sem β} (hm:Nx m) (hf:∀ a,Nx (f a)):Nx (m>>=f):=⟨fun M Γ P Ee Ef p s h=>by
 have h':Sem.wp M Γ (m.bind f) P Ee p s:=h
 rw [Sem.wp_bind] at h'
 show Sem.wp M Γ (m.bind f) _ Ef p s
 rw [Sem.wp_bind]
 exact hm.out M Γ _ Ee Ef p s (Sem.wp_mono M Γ m (fun a p' s' q=>(hf a).out M Γ P Ee Ef p' s' q) (fun _ _ _ x=>x) p s h')⟩
theorem Nx.load (a:Addr):Nx (load a):=⟨fun M Γ P Ee Ef p s h=>by
 obtain ⟨o,e,q⟩:=h
 exact ⟨o,e,q⟩⟩
theorem Nx.stack:Nx stack:=⟨fun M Γ P Ee Ef p s h=>h⟩
theorem Nx.update (a:Addr) (f:Obj->Obj):Nx (update a f):=⟨fun M Γ P Ee Ef p s h=>⟨h.1,h.2⟩⟩
theorem Nx.ite {α:Type} {c:Prop} [Decidable c] {a b:Sem α} (ha:Nx a) (hb:Nx b):Nx (if c then a else b):=by
 by_cases h:c
 ·rw [if_pos h]; exact ha
 ·rw [if_neg h]; exact hb
theorem Nx.field (v:Value) (i:Nat):Nx (field v i):=by
 unfold PySem.field PySem.fieldsOf
 refine Nx.bind ?_ fun o=>by split <;> first | exact Nx.pure _ | exact Nx.uns _
 split
 ·exact Nx.bind (Nx.load _) fun o=>by split <;> first | exact Nx.pure _ | exact Nx.uns _
 ·exact Nx.uns _
theorem Nx.setField (v:Value) (i:Nat) (x:Value):Nx (setField v i x):=by
 unfold PySem.setField
 split
 ·unfold PySem.updateField
  refine Nx.bind (Nx.load _) fun o=>?_
  split
  ·exact Nx.ite (Nx.update _ _) (Nx.uns _)
  ·exact Nx.uns _
 ·exact Nx.uns _
theorem Nx.behind (env:Env) (l:List Env):Nx (behindIsImport env l):=by
 unfold behindIsImport
 exact Nx.ite (Nx.pure _) (Nx.ite (Nx.pure _) (Nx.bind (Nx.field _ _) fun _=>Nx.pure _))
theorem Nx.under:Nx underTheClaimsCaller:=Nx.bind Nx.stack fun _=>Nx.pure _
theorem Nx.keptBack (env:Env) (b:Bool) (l:List Env):Nx (keptBack env b l):=by
 unfold PySem.keptBack
 split
 ·exact Nx.ite (Nx.pure _) (Nx.bind Nx.under fun _=>Nx.pure _)
 ·exact Nx.pure _
theorem Nx.ready:∀ l:List Env,Nx (readyFrames l)
 | []=>Nx.pure _
 | env::l=>by
  rw [readyFrames.eq_2]
  split
  ·exact Nx.bind (Nx.load _) fun o=>Nx.ite (Nx.pure _) (Nx.bind (Nx.behind _ _) fun _=>Nx.bind (Nx.keptBack _ _ _) fun _=>Nx.bind (Nx.update _ _) fun _=>Nx.ready l)
  ·exact Nx.uns _
theorem Nx.frameOf (env:Env):Nx (PySem.frameOf env):=by
 unfold PySem.frameOf
 refine Nx.bind (Nx.bind Nx.stack fun _=>Nx.pure _) fun l=>Nx.bind ?_ fun o=>?_
 ·unfold frameObject
  split
  ·exact Nx.pure _
  ·exact Nx.bind (Nx.ready _) fun _=>Nx.pure _
 ·split <;> first | exact Nx.pure _ | exact Nx.uns _
theorem Nx.entryPlace (f:Addr) (b:Bool):Nx (entryPlaceOf f b):=by
 unfold entryPlaceOf
 refine Nx.bind Nx.stack fun o=>?_
 split <;> exact Nx.pure _
structure Po {α:Type} (t:Sem α) (pre:Shared->Prop) (post:α->Shared->Prop):Prop where
 out:∀ (M:Model) (Γ:PySem.Ctx) (P:α->Pos->Shared->Prop) (Ee Ef:Value->Pos->Shared->Prop) (p:Pos) (s:Shared),
  pre s->Sem.wp M Γ t P Ee p s->Sem.wp M Γ t (fun a p' s'=>P a p' s'/\post a s') Ef p s
theorem Po.pure {α:Type} {a:α} {pre:Shared->Prop} {post:α->Shared->Prop} (h:∀ s,pre s->post a s):Po (pure a:Sem α) pre post:=⟨fun M Γ P Ee Ef p s c q=>⟨q,h s c⟩⟩
theorem Po.uns {α:Type} {w:String} {pre:Shared->Prop} {post:α->Shared->Prop}:Po (unsupported w:Sem α) pre post:=⟨fun M Γ P Ee Ef p s c q=>q⟩
theorem Po.bind {α β:Type} {m:Sem α} {f:α->Sem β} {pre:Shared->Prop} {mid:α->Shared->Prop} {post:β->Shared->Prop} (hm:Po m pre mid) (hf:∀ a,Po (f a) (mid a) post):Po (m>>=f) pre post:=⟨fun M Γ P Ee Ef p s c h=>by
 have h':Sem.wp M Γ (m.bind f) P Ee p s:=h
 rw [Sem.wp_bind] at h'
 show Sem.wp M Γ (m.bind f) _ Ef p s
 rw [Sem.wp_bind]
 exact Sem.wp_mono M Γ m (fun a p' s' zz57=>by obtain ⟨q,d⟩:=zz57; exact (hf a).out M Γ P Ee Ef p' s' d q) (fun _ _ _ x=>x) p s (hm.out M Γ _ Ee Ef p s c h')⟩
theorem Po.any {α:Type} {t:Sem α} {pre:Shared->Prop} (n:Nx t):Po t pre fun _ _=>True:=⟨fun M Γ P Ee Ef p s _ h=>Sem.wp_mono M Γ t (fun _ _ _ q=>⟨q,trivial⟩) (fun _ _ _ x=>x) p s (n.out M Γ P Ee Ef p s h)⟩
theorem Po.ite {α:Type} {c:Prop} [Decidable c] {a b:Sem α} {pre:Shared->Prop} {post:α->Shared->Prop} (ha:c->Po a pre post) (hb:¬ c->Po b pre post):Po (if c then a else b) pre post:=by
 by_cases h:c
 ·rw [if_pos h]; exact ha h
 ·rw [if_neg h]; exact hb h
theorem Po.load {a:Addr} {pre:Shared->Prop}:Po (load a) pre fun o s=>pre s/\s.heap.get? a=some o:=⟨fun M Γ P Ee Ef p s c h=>by
 obtain ⟨o,e,q⟩:=h
 exact ⟨o,e,q,c,e⟩⟩
def FldAt (v:Value) (i:Nat) (x:Value) (h:Heap):Prop:=∃ (a:Addr) (o:Obj) (vs:Array Value),v=.ref a/\h.get? a=some o/\o.data=.fields vs/\vs[i]?=some x
theorem Po.field {v:Value} {i:Nat} {pre:Shared->Prop}:Po (field v i) pre fun x s=>pre s/\FldAt v i x s.heap:=by
 unfold PySem.field PySem.fieldsOf
 refine Po.bind (mid:=fun vs s=>pre s/\∃ (a:Addr) (o:Obj),v=.ref a/\s.heap.get? a=some o/\o.data=.fields vs) ?_ fun vs=>?_
 ·split
  ·refine Po.bind Po.load fun o=>?_
   split
   ·rename_i a _ vs e; exact Po.pure fun s zz58=>by obtain ⟨c,q⟩:=zz58; exact ⟨c,a,o,rfl,q,e⟩
   ·exact Po.uns
  ·exact Po.uns
 ·split
  ·rename_i x e; exact Po.pure fun s zz59=>by obtain ⟨c,a,o,q1,q2,q3⟩:=zz59; exact ⟨c,a,o,vs,q1,q2,q3,e⟩
  ·exact Po.uns
theorem Po.setField {v:Value} {i:Nat} {x:Value} {pre:Shared->Prop}:Po (setField v i x) pre fun _ s'=>∃ (s:Shared) (a:Addr) (o:Obj) (vs:Array Value),pre s/\v=.ref a/\s.heap.get? a=some o/\o.data=.fields vs/\i<vs.size/\s'={ s with heap:=s.heap.update a (Obj.mapFields (·.setIfInBounds i x)) }:=by
 unfold PySem.setField
 split
 ·unfold PySem.updateField
  refine Po.bind Po.load fun o=>?_
  split
  ·rename_i _ a _ vs e
   refine Po.ite (fun h=>⟨fun M Γ P Ee Ef p s c q=>⟨q.1,q.2,s,a,o,vs,c.1,rfl,c.2,e,h,rfl⟩⟩) fun _=>Po.uns
  ·exact Po.uns
 ·exact Po.uns
def Marked (e:Value) (f:Addr) (h:Heap):Prop:=∃ t,FldAt e 1 t h/\FldAt t 3 (rawInt f) h/\t≠.none
theorem FldAt.upd {v:Value} {i:Nat} {x:Value} {h:Heap} {a:Addr} {j:Nat} {y:Value} (g:FldAt v i x h) (hn:j≠i):FldAt v i x (h.update a (Obj.mapFields (·.setIfInBounds j y))):=by
 obtain ⟨b,o,vs,e1,e2,e3,e4⟩:=g
 by_cases hb:b=a
 ·subst hb
  obtain ⟨c,d,dt,sl⟩:=o
  cases e3
  exact ⟨b,_,vs.setIfInBounds j y,e1,Heap.get?_update_self _ e2 rfl,rfl,by rw [Array.getElem?_setIfInBounds_ne hn]; exact e4⟩
 ·exact ⟨b,o,vs,e1,by rw [Heap.get?_update_ne h b a _ hb]; exact e2,e3,e4⟩
theorem FldAt.put {a:Addr} {o:Obj} {vs:Array Value} {i:Nat} {x:Value} {h:Heap} (e:h.get? a=some o) (d:o.data=.fields vs) (hi:i<vs.size):FldAt (.ref a) i x (h.update a (Obj.mapFields (·.setIfInBounds i x))):=by
 obtain ⟨c,dd,dt,sl⟩:=o
 cases d
 exact ⟨a,_,vs.setIfInBounds i x,rfl,Heap.get?_update_self _ e rfl,rfl,by simp [hi]⟩
theorem Po.newEntry {a b c d e:Value} {l:List Value} {pre:Shared->Prop}:Po (EntryCells.newEntry a b c d e l) pre fun v s=>FldAt v 3 d s.heap/\v≠.none:=by
 unfold EntryCells.newEntry newFields newObj
 refine Po.ite (fun _=>Po.bind (mid:=fun _ _=>True) (Po.any (Nx.uns _)) fun _=>?_) fun _=>?_
 all_goals exact Po.bind (mid:=fun t s=>FldAt (.ref t) 3 d s.heap) ⟨fun M Γ P Ee Ef p s c q=>⟨q,_,_,_,rfl,Heap.get?_push_size s.heap rfl,rfl,by simp⟩⟩ fun t=>Po.pure fun s q=>⟨q,by intro z; cases z⟩
theorem Po.noteFrame {e:Value} {env:Env} {pre:Shared->Prop}:Po (noteFrame e env) pre fun _ s=>∃ f,env.frame=some f/\Marked e f s.heap:=by
 unfold PySem.noteFrame
 split
 ·rename_i f hf
  refine Po.bind Po.field fun hd=>?_
  have fin:∀ {pre:Shared->Prop} {b:Bool},Po (do let fr <- frameOf env; let pl <- entryPlaceOf f b; let t <- EntryCells.newEntry hd fr .none (rawInt f) .none pl; PySem.setField e 1 t) pre fun _ s=>∃ f,env.frame=some f/\Marked e f s.heap:=fun {pre b}=>by
   refine Po.bind (mid:=fun _ _=>True) (Po.any (Nx.frameOf _)) fun fr=>Po.bind (mid:=fun _ _=>True) (Po.any (Nx.entryPlace _ _)) fun pl=>Po.bind Po.newEntry fun t=>?_
   have q:=Po.setField (v:=e) (i:=1) (x:=t) (pre:=fun s=>FldAt t 3 (rawInt f) s.heap/\t≠.none)
   refine ⟨fun M Γ P Ee Ef p s c w=>Sem.wp_mono M Γ _ (fun a p' s' ⟨z,s0,ad,o,vs,⟨c1,c2⟩,e1,e2,e3,e4,e5⟩=>⟨z,f,hf,t,?_,?_,c2⟩) (fun _ _ _ x=>x) p s (q.out M Γ P Ee Ef p s c w)⟩
   ·subst e1; subst e5; exact FldAt.put e2 e3 e4
   ·subst e5; exact c1.upd (by decide)
  refine Po.ite (fun hh=>Po.bind Po.field fun x=>Po.ite (fun hx=>Po.pure fun s ⟨⟨_,q1⟩,q2⟩=>⟨f,hf,hd,q1,?_,?_⟩) fun _=>Po.bind (mid:=fun _ _=>True) (Po.any (Nx.setField _ _ _)) fun _=>fin) fun _=>fin
  ·have:x=rawInt f:=by simpa using hx
   rw [this] at q2; exact q2
  ·simpa using hh
 ·exact Po.uns
theorem upd_id {h:Heap} {a:Addr} {o:Obj} {g:Obj->Obj} (e:h.get? a=some o) (hg:g o=o):h.update a g=h:=by
 obtain ⟨objs,l⟩:=h
 have e1:objs[a]?=some o:=by
  unfold Heap.get? at e
  split at e
  ·cases e
  ·exact e
 show Heap.mk (objs.modify a g) l=⟨objs,l⟩
 congr 1
 apply Array.ext_getElem?
 intro i
 rw [Array.getElem?_modify]
 split
 ·subst_vars; rw [e1]; simp [hg]
 ·rfl
theorem mapF_same {o:Obj} {vs:Array Value} {i:Nat} {x:Value} (d:o.data=.fields vs) (hx:vs[i]?=some x):Obj.mapFields (·.setIfInBounds i x) o=o:=by
 obtain ⟨c,dd,dt,sl⟩:=o
 cases d
 show Obj.mk c dd (.fields (vs.setIfInBounds i x)) sl=_
 have:vs.setIfInBounds i x=vs:=by
  apply Array.ext_getElem?
  intro j
  by_cases hj:i=j
  ·subst hj
   rw [Array.getElem?_setIfInBounds_self,hx]
   have:i<vs.size:=by
    by_cases z:i<vs.size
    ·exact z
    ·rw [Array.getElem?_eq_none (by omega)] at hx; cases hx
   simp [this]
  ·rw [Array.getElem?_setIfInBounds_ne hj]
 rw [this]
theorem lt_of_get {vs:Array Value} {i:Nat} {x:Value} (hx:vs[i]?=some x):i<vs.size:=by
 by_cases z:i<vs.size
 ·exact z
 ·rw [Array.getElem?_eq_none (by omega)] at hx; cases hx
theorem flight_in {M:Model} {A:Around} {e:Value} {f:Addr} {fr:Option Addr} {s:Shared} {t:Addr} {ot:Obj} {ws:Array Value} {Q:Unit->Shared->Prop} {E:Value->Shared->Prop} (h1:FldAt e 1 (.ref t) s.heap) (h2:s.heap.get? t=some ot) (h3:ot.data=.fields ws) (h4:ws[3]?=some (rawInt f))
  (q:Q () { s with heap:=s.heap.update t (Obj.mapFields (·.setIfInBounds 3 (fr.elim .none fun f=>rawInt f))) }):wpAny M A (setFlight e fr) Q E s:=by
 obtain ⟨a,o,vs,rfl,e2,e3,e4⟩:=h1
 unfold PySem.setFlight
 refine wpAny_bind (wpAny_field e2 e3 e4 ?_)
 rw [if_pos (by rfl)]
 exact wpAny_setField h2 h3 (lt_of_get h4) q
structure Free {α:Type} (t:Sem α):Prop where
 out:∀ (M:Model) (Γ Γ':PySem.Ctx) (P P':α->Pos->Shared->Prop) (E E':Value->Pos->Shared->Prop) (p p':Pos) (s:Shared),(∀ a p p' s,P a p s->P' a p' s)->(∀ a p p' s,E a p s->E' a p' s)->Sem.wp M Γ t P E p s->Sem.wp M Γ' t P' E' p' s
theorem Free.pure {α:Type} (a:α):Free (pure a:Sem α):=⟨fun M Γ Γ' P P' E E' p p' s h _ q=>h _ p p' _ q⟩
theorem Free.uns {α:Type} (w:String):Free (unsupported w:Sem α):=⟨fun M Γ Γ' P P' E E' p p' s h _ q=>q⟩
theorem Free.bind {α β:Type} {m:Sem α} {f:α->Sem β} (hm:Free m) (hf:∀ a,Free (f a)):Free (m>>=f):=⟨fun M Γ Γ' P P' E E' p p' s h hE q=>by
 have q':Sem.wp M Γ (m.bind f) P E p s:=q
 rw [Sem.wp_bind] at q'
 show Sem.wp M Γ' (m.bind f) P' E' p' s
 rw [Sem.wp_bind]
 exact hm.out M Γ Γ' _ _ E E' p p' s (fun a p1 p2 s1 w=>(hf a).out M Γ Γ' P P' E E' p1 p2 s1 h hE w) hE q'⟩
theorem Free.load (a:Addr):Free (load a):=⟨fun M Γ Γ' P P' E E' p p' s h _ q=>by
 obtain ⟨o,e,q⟩:=q
 exact ⟨o,e,h _ p p' _ q⟩⟩
theorem Free.update (a:Addr) (f:Obj->Obj):Free (update a f):=⟨fun M Γ Γ' P P' E E' p p' s h _ q=>⟨q.1,h _ p p' _ q.2⟩⟩
theorem Free.ite {α:Type} {c:Prop} [Decidable c] {a b:Sem α} (ha:Free a) (hb:Free b):Free (if c then a else b):=by
 by_cases h:c
 ·rw [if_pos h]; exact ha
 ·rw [if_neg h]; exact hb
theorem Free.field (v:Value) (i:Nat):Free (field v i):=by
 unfold PySem.field PySem.fieldsOf
 refine Free.bind ?_ fun o=>by split <;> first | exact Free.pure _ | exact Free.uns _
 split
 ·exact Free.bind (Free.load _) fun o=>by split <;> first | exact Free.pure _ | exact Free.uns _
 ·exact Free.uns _
theorem Free.setField (v:Value) (i:Nat) (x:Value):Free (setField v i x):=by
 unfold PySem.setField
 split
 ·unfold PySem.updateField
  refine Free.bind (Free.load _) fun o=>?_
  split
  ·exact Free.ite (Free.update _ _) (Free.uns _)
  ·exact Free.uns _
 ·exact Free.uns _
theorem Free.setFlight (v:Value) (f:Option Addr):Free (setFlight v f):=by
 unfold PySem.setFlight
 exact Free.bind (Free.field _ _) fun o=>Free.ite (Free.setField _ _ _) (Free.pure _)
theorem passOwnX {M:Model} {A:Around} {env:Env} {Q:Value->Shared->Prop}:PassesOwn M A env (fun e s'=>wpAny M A (leaving env e) (fun _ s''=>Q e s'') (fun e' s''=>Q e' s'') s'):=by
 intro e s' h Γ p hΓ
 have h1:Sem.wp M Γ ((noteFrame e env).bind fun _=>setFlight e none) (fun _ _ s=>Q e s) (fun x _ s=>Q x s) p s':=h Γ p hΓ
 rw [Sem.wp_bind] at h1
 refine Sem.wp_mono M Γ _ (fun a p1 s1 zz62=>?_) (fun _ _ _ x=>False.elim x) p s' ((Po.noteFrame (e:=e) (env:=env) (pre:=fun _=>True)).out M Γ _ _ (fun _ _ _=>False) p s' trivial h1)
 obtain ⟨q,f,hf,t,m1,m2,m3⟩:=zz62
 obtain ⟨t0,ot,ws,rfl,g2,g3,g4⟩:=m2
 obtain ⟨ae,oe,vs,rfl,k2,k3,k4⟩:=m1
 have e0:s1.heap.update t0 (Obj.mapFields (·.setIfInBounds 3 ((some f).elim .none fun f=>rawInt f)))=s1.heap:=upd_id g2 (mapF_same g3 g4)
 refine wpAny_bind (wpAny_field k2 k3 k4 ?_)
 rw [if_neg (by intro z; cases z)]
 rw [hf]
 refine flight_in ⟨ae,oe,vs,rfl,k2,k3,k4⟩ g2 g3 g4 ?_
 rw [e0]
 intro Γ2 p2 hΓ2
 show Sem.wp M Γ2 ((noteFrame (.ref ae) env).bind fun _=>setFlight (.ref ae) none) (fun _ _ s=>Q (.ref ae) s) (fun x _ s=>Q x s) p2 s1
 rw [Sem.wp_bind]
 have n:wpAny M A (noteFrame (.ref ae) env) (fun _ s2=>s2=s1) (fun _ _=>False) s1:=by
  unfold PySem.noteFrame
  rw [hf]
  refine wpAny_bind (wpAny_field k2 k3 k4 ?_)
  rw [if_pos (by rfl)]
  refine wpAny_bind (wpAny_field g2 g3 g4 ?_)
  rw [if_pos (by simp)]
  exact wpAny_pure rfl
 refine Sem.wp_mono M Γ2 _ (fun _ p3 s3 z=>?_) (fun _ _ _ x=>False.elim x) p2 s1 (n Γ2 p2 hΓ2)
 subst z
 exact (Free.setFlight (.ref ae) none).out M Γ Γ2 _ _ _ _ p1 p3 s3 (fun _ _ _ _ w=>w) (fun _ _ _ _ w=>w) q
end L2
namespace L2
open PySem PySem.Spec PyProof.Rows
section
variable {X:Cx} {k:Nat} {f:Addr} {fd:FuncData} {ps:List Str} {sp:Sp} {fn cn n y:Str} {fp cp ap np hpos yp pos:Pos} {e:Expr} {es:List Expr} {t:TA} {C:Addr} {i jn:Nat} {b0:Stmt} {suite:List Stmt} {tb:TS}
def tTryX (X:Cx) (sp:Sp) (C:Addr) (jn:Nat) (t:TA) (tb:TS):TS:=fun D σ H=>t σ H fun vs H1=>sp vs H1 (fun _ H2=>D.nx σ H2) (tCatch X C jn tb D σ)
theorem ps_tryx (hex:X.ex = []) (hst:X.stack=X.env::X.outer) (hfr:X.env.frame=some X.env.locals) (hN:X.N.Nodup) (F:FnOk X.prog X.w X.K X.mg X.base (CXW X.prog X.w) k f fd ps sp) (hr:Room k X.A) (hg:Gl X fn) (hm:X.mg fn=some (.ref f))
  (hkp:PySem.W.keepIn X.K (.ref f)=true) (hb:Binds X.K fd ps []) (ha:PA X.nox (e::es) t) (hdb:(fn == ("__debug__" : Str))=false) (he:starEach (e::es) X.env=(false,eval e X.env)::starEach es X.env)
  (hpl:(backTo cp (starEach es X.env)).any (·.1)=false) (hsw:swapsWith (.Call (.Name fn fp) (e::es) [] cp) none ap.line X.env=Pure.pure false)
  (hcg:Gl X cn) (hcm:X.mg cn=some (.ref C)) (hcd:(cn == ("__debug__" : Str))=false) (hn:X.N[jn]?=some n) (hnk:X.env.kindOf n=some .local) (hsu:∀ e E,PSs (X.marked e E) (b0::suite) tb) :
  PS X (.Try [.Expr (.Call (.Name fn fp) (e::es) [] cp) ap] [.ExceptHandler (some (.Name cn np)) (some n) (b0::suite) hpos] [] [] pos) (tTryX X sp C jn t tb):=by
 intro pins s σ H D I h
 refine wpAny_Try_except (wpAny_execs_cons (wpAny_Expr_any (wpAny_mono (eval_callX F hr hg hm hkp hb ha I h (fun H1 s1 ev s' I1 hc=>?_) hdb he hpl) (fun v s1 ⟨z,H1,I1,r1,q1⟩=>?_) fun _ _ x=>x) I.quiet hsw))
 ·obtain ⟨a,B,H',cls,od,rfl,Fl,Dc,hcl,hx,ht⟩:=hc
  have Ha:H' a=none:=by
   obtain ⟨a0,fl⟩:=Fl.fl
   cases q:H' a with
   | none=>rfl
   | some o=>
    obtain ⟨o',z⟩:=Fl.inB a o q
    rw [fl.2.1] at z; cases z
  exact catch_ok hex hst hfr hN hcg hcm hcd hcl hx hn hnk hsu I1 Fl fun o c d v=>ht a o Ha c d v
 ·exact wpAny_execs_nil (wpAny_execs_nil ⟨_,H1,I1,q1⟩)
end
theorem passOwnC {P:Program} {w:World} {K:Frag} {mg:Str->Option Value} {base:Heap} {N:List Str} {qual:Str} {scope:Scope} {f:Addr} {cd:Value} {A:Around} {outer:List Env} {s:Shared} {H:Hp} {E:XK} :
  PassesOwn (model (cxOf (CXW P w) P w K mg base N qual scope f cd A outer s H E).prog (cxOf (CXW P w) P w K mg base N qual scope f cd A outer s H E).w) (cxOf (CXW P w) P w K mg base N qual scope f cd A outer s H E).A (cxOf (CXW P w) P w K mg base N qual scope f cd A outer s H E).env (cxOf (CXW P w) P w K mg base N qual scope f cd A outer s H E).xe:=
 passOwnX (Q:=fun e s''=>CXW P w outer H s E e s'')
theorem passF {CX:CXT} {X:Cx} (h:∀ outer H s e s',CX outer H s (fun _ _ _=>False) e s'->False):Passes CX X (fun _ _ _=>False):=fun _ _ _ _ _ _ _ q=>(h _ _ _ _ _ q).elim
theorem cxwF {P:Program} {w:World}:∀ outer H s e s',CXW P w outer H s (fun _ _ _=>False) e s'->False:=fun _ _ _ _ _ zz64=>by obtain ⟨_,_,_,_,_,_,_,z⟩:=zz64; exact z
theorem xmk0_mk {K:Frag} {C:Addr} {nm q:Str} {N:Addr} {bs bm:List Value} {hdct:Bool} {sn:List Str} {sub:List Value} {ab:Bool} {col:Option Bool} {dd:Option Addr} {k0 k1 k2 k3 k5:Option Value}
  (lk:K.lookup C=some (excClassObj nm q C N bs bm hdct sn sub ab col dd k0 k1 k2 k3 k5 "ValueError.__new__")) (ht:PySem.W.tailIn K vErr bm=true) (hok:PySem.W.nsOkIn K N=true) (hn:PySem.W.nsIn K N "__init__" = some none) (ty:PySem.W.typeIn K (.ref C)=some (.type "type"))
  (be:PySem.W.mroIn K C (.type "BaseException")=some true) (kp:PySem.W.keepIn K (.ref C)=true):XMk0 K C:=
 ⟨⟨nm,q,N,bs,bm,hdct,sn,sub,ab,col,dd,k0,k1,k2,k3,k5,lk,fun h X=>PySem.W.tail_of_in X ht,fun h X=>⟨_,.of_isNs (PySem.W.isNs_of_in X hok),PySem.W.nsMap_none_of_in X hok hn⟩⟩,ty,be,kp⟩
theorem cls_of {K:Frag} {C:Addr} {c:Value} {d:Option Addr} {cd:ClassData} {sl:Array (Option Value)} (lk:K.lookup C=some ⟨c,d,.cls cd,sl⟩):PySem.W.clsIn K C=some cd:=by
 unfold PySem.W.clsIn; rw [lk]
theorem kitCls_ref {K:Frag} {t:Value} {C:Addr} {cd:ClassData} {b:Bool} (h1:PySem.W.clsIn K C=some cd) (h2:PySem.W.typeIn K (.ref C)=some (.type "type")) (h3:PySem.W.subIn K t (.ref C)=some b):PySem.W.kitCls K t (.ref C)=some b:=by
 unfold PySem.W.kitCls
 simp only [h1,h2,Option.isSome_some,Bool.true_and,beq_self_eq_true,if_true]
 exact h3
theorem kitOne_ty {K:Frag} {C:Addr} {T:String} {b:Bool} (hm:PySem.W.kitMeta T=true) (h3:PySem.W.subIn K (.ref C) (.type T)=some b):PySem.W.kitOne K (.ref C) (.type T)=some b:=by
 unfold PySem.W.kitOne
 rw [if_neg (by intro z; cases z)]
 unfold PySem.W.kitCls
 simp only [hm,if_true]
 exact h3
theorem kitOne_self {K:Frag} {C:Addr}:PySem.W.kitOne K (.ref C) (.ref C)=some true:=by
 unfold PySem.W.kitOne
 rw [if_pos (beq_self_eq_true _)]
theorem kitOne_ne {K:Frag} {C D:Addr} {cd:ClassData} {b:Bool} (hn:Nat.beq C D=false) (h1:PySem.W.clsIn K D=some cd) (h2:PySem.W.typeIn K (.ref D)=some (.type "type")) (h3:PySem.W.subIn K (.ref C) (.ref D)=some b):PySem.W.kitOne K (.ref C) (.ref D)=some b:=by
 unfold PySem.W.kitOne
 rw [if_neg]
 ·exact kitCls_ref h1 h2 h3
 ·intro z
  have z:=beq_iff_eq.mp z
  cases z
  rw [Nat.beq_refl] at hn; cases hn
theorem exm_mk {K:Frag} {C D:Addr} {cd:ClassData} (h0:PySem.W.subIn K (.ref D) (.type "BaseException")=some true) (h1:PySem.W.clsIn K D=some cd) (h2:PySem.W.typeIn K (.ref D)=some (.type "type")) (h3:PySem.W.subIn K (.ref C) (.ref D)=some true):PySem.W.exmOne K (.ref C) (.ref D)=some true:=by
 unfold PySem.W.exmOne
 rw [if_pos (by rw [h0]; exact beq_self_eq_true _)]
 exact kitCls_ref h1 h2 h3
end L2
namespace L2
open PySem PySem.Spec PyProof.Rows
section
variable {X:Cx} {k:Nat} {C f:Addr} {fd:FuncData} {ps:List Str} {sp:Sp} {cn:Str} {np cp pos:Pos} {e:Expr} {es:List Expr} {t:TA}
end
end L2
namespace L2
open PySem PySem.Spec PyProof.Rows
section
variable {κ:Type} [DecidableEq κ]
def valV (kvs:List (κ×V)) (k:κ):Option V:=(kvs.find? fun kv=>decide (kv.1=k)).map (·.2)
def putK (kvs:List (κ×V)) (k:κ) (v:V):List (κ×V):=
 if (kvs.any fun kv=>decide (kv.1=k))=true then kvs.map (fun kv=>if kv.1=k then (kv.1,v) else kv) else kvs ++ [(k,v)]
def dropK (kvs:List (κ×V)) (k:κ):List (κ×V):=kvs.filter fun kv=>decide (kv.1≠k)
end
theorem kV_is {P:Program} {w:World} {k:Key} {u:Value} (r:RelV (kV k) u):(mixKind P w).is k u=true:=by
 cases k with
 | inl i=>obtain ⟨t,e⟩:=(show ∃ t,u=Value.int i t from r); subst e; exact mixKind_int P w i t
 | inr x=>obtain ⟨t,e⟩:=(show ∃ t,u=Value.str x t from r); subst e; exact mixKind_str P w x t
abbrev KT (H:Hp):List (List Key×V)->List (List Key×Addr×Value)->Prop:=Paired fun p q=>p.1=q.1/\H q.2.1=some (.tup (p.1.map kV))/\RelV p.2 q.2.2
section
variable {P:Program} {w:World} {H:Hp} {h:Heap} {a:Addr}
end
def DGet (H:Hp) (a:Addr) (y:V) (r:Option V):Prop:=
 (∃ kvs k,Rd H a (.dK kvs)/\y=kV k/\r=valV kvs k)\/∃ kvs k b,Rd H a (.dT kvs)/\y=.ref b/\H b=some (.tup (k.map kV))/\r=valV kvs k
def DPut (H:Hp) (a:Addr) (y v:V) (H':Hp):Prop:=
 (∃ kvs k,H a=some (.dK kvs)/\y=kV k/\kvs.length<sizeLine/\H'=upd H a (.dK (putK kvs k v))) \/
 ∃ kvs k b,H a=some (.dT kvs)/\y=.ref b/\H b=some (.tup (k.map kV))/\kvs.length<sizeLine/\H'=upd H a (.dT (putK kvs k v))
section
variable {X:Cx} {pins:List (Addr×Obj)} {σ:St} {H:Hp} {s:Shared} {a:Addr} {y v:V} {u r:Value} {o:Option V} {A:Around} {E:Value->Shared->Prop}
theorem Inv.big (I:Inv X pins σ H s):sysModules<s.heap.objs.size:=by
 have h:mainGlobals<s.heap.objs.size:=(I.mod.glob.keeps I.bk).lt
 exact Nat.lt_trans (by decide) h
end
section
variable {X:Cx} {pins:List (Addr×Obj)} {σ:St} {H:Hp} {s:Shared} {a:Addr} {kvs:List (Key×V)} {k:Key} {u:Value} {A:Around} {E:Value->Shared->Prop}
end
section
variable {X:Cx} {o i e value:Expr} {pos pos' tpos:Pos} {td ty tv:TE}
end
theorem dk_empty {P:Program} {w:World} {H:Hp} (h:Heap) (hb:sysModules<h.objs.size):ObjOk P w H (h.push { cls:=.type "dict",data:=.dict #[] }) h.objs.size (.dK []):=
 ⟨Nat.zero_le _,beq_eq_false_iff_ne.mpr (Ne.symm (Nat.ne_of_lt hb)),[],.nil,Heap.DictOf.new h⟩
section
variable {X:Cx} {pos:Pos}
end
def tPairs:List (TE×TE)->St->Hp->(List (V×V)->Hp->Prop)->Prop
 | [],_,H,Q=>Q [] H
 | (tk,tv)::r,σ,H,Q=>tk σ H fun x H1=>tv σ H1 fun y H2=>tPairs r σ H2 fun ps H3=>Q ((x,y)::ps) H3
abbrev VV:List (V×V)->List (Value×Value)->Prop:=Paired fun p q=>RelV p.1 q.1/\RelV p.2 q.2
def PPs (X:Cx) (pos:Pos) (keys:List (Option Expr)) (values:List Expr) (trs:List (TE×TE)):Prop:=
 ∀ (pins:List (Addr×Obj)) (s:Shared) (σ:St) (H:Hp) (Q:List (V×V)->Hp->Prop),Inv X pins σ H s->tPairs trs σ H Q ->
  wpAny (model X.prog X.w) X.A (evalPairs (pairTrees keys values X.env pos)) (fun vs s'=>∃ ps H',Inv X pins σ H' s'/\VV ps vs/\Q ps H') X.xe s
theorem pps_nil {X:Cx} {pos:Pos}:PPs X pos [] [] []:=fun pins s σ H Q I h=>pairTrees_nil_walk ⟨[],H,I,.nil,h⟩
theorem pps_cons {X:Cx} {pos:Pos} {k v:Expr} {ks:List (Option Expr)} {vs:List Expr} {tk tv:TE} {trs:List (TE×TE)} (hk:PE X k tk) (hv:PE X v tv) (hr:PPs X pos ks vs trs) :
  PPs X pos (some k::ks) (v::vs) ((tk,tv)::trs):=fun pins s σ H Q I h=>
 pairTrees_cons_walk (thn (hk pins s σ H _ I h) fun u s1 ⟨x,H1,I1,rx,q1⟩=>thn (hv pins s1 σ H1 _ I1 q1) fun w2 s2 ⟨y,H2,I2,ry,q2⟩=>
  thn (hr pins s2 σ H2 _ I2 q2) fun ws s3 zz67=>by obtain ⟨ps,H3,I3,rel,q3⟩:=zz67; exact ⟨(x,y)::ps,H3,I3,.cons ⟨rx,ry⟩ rel,q3⟩)
theorem carries_of {P:Program} {w:World}:∀ {kvs:List (Key×V)} {ws:List (Value×Value)},VV (kvs.map fun kv=>(kV kv.1,kv.2)) ws->∃ rs,Carries (mixKind P w) ws rs/\KV kvs rs
 | [],_,r=>by rw [List.map_nil] at r; cases r; exact ⟨[],True.intro,.nil⟩
 | p::kvs,_,r=>by
  rw [List.map_cons] at r
  cases r with
  | @cons a b as bs h t=>
   obtain ⟨rs,c,q⟩:=carries_of (P:=P) (w:=w) t
   obtain ⟨b1,b2⟩:=b
   exact ⟨(p.1,b2)::rs,⟨kV_is h.1,rfl,c⟩,.cons ⟨rfl,h.2⟩ q⟩
end L2
namespace L2
open PySem
structure Sub where
 t:Bool
 i:Addr
 l:Addr
def Sub.At (u:Sub) (h:Heap) (n:Nat):Prop:=if u.t=true then h.IsTupleIter u.i u.l n else h.IsListIter u.i u.l n
def Sub.Src (u:Sub) (h:Heap) (xs:Array Value):Prop:=if u.t=true then h.IsTuple u.l xs else h.IsList u.l xs
section
variable {prog:Program} {w:World} {A:Around} {E:Value->Shared->Prop} {s:Shared}
def drawn (n:Nat):List (Sub×Array Value)->Nat->Array Value->Array Value
 | [],_,arr=>arr
 | u::r,c,arr=>drawn n r (c+1) (arr.setIfInBounds c (u.2.getD n .none))
def SrcAt (h:Heap) (u:Bool×Addr×Array Value):Prop:=if u.1=true then h.IsTuple u.2.1 u.2.2 else h.IsList u.2.1 u.2.2
end
end L2
namespace L2
open PySem PySem.Spec PyProof.Rows
def Sq (K:Frag) (H:Hp) (t:Bool) (a:Addr) (xs:List V):Prop:=if t=true then SqT K H a xs else SqL K H a xs
section
variable {X:Cx} {pins:List (Addr×Obj)} {σ:St} {H:Hp} {s:Shared}
end
section
variable {X:Cx}
end
end L2
namespace L2
open PySem PySem.Spec PyProof.Rows
theorem relabel_lookup (cs:Scope) (env:Env) (x:Str):(relabel cs env).names.lookup x=(cs.names.lookup x).map fun k=>if (k == .free&&env.scope.kind == .function&&env.kindOf x == some .cell)=true then .cell else k:=by
 unfold relabel
 show List.lookup x (cs.names.map _)=_
 induction cs.names with
 | nil=>rfl
 | cons p r ih=>
  obtain ⟨n,k⟩:=p
  by_cases hx:x=n
  ·subst hx
   rw [List.map_cons]
   simp only [List.lookup_cons]
   split <;> simp_all
  ·have hb:(x == n)=false:=by simpa using hx
   have er:List.lookup x ((n,k)::r)=List.lookup x r:=by rw [List.lookup_cons,hb]
   rw [List.map_cons,er]
   refine Eq.trans ?_ ih
   dsimp only
   by_cases hc:(k == NameKind.free&&env.scope.kind == ScopeKind.function&&env.kindOf n == some NameKind.cell)=true
   ·rw [if_pos hc,List.lookup_cons,hb]
   ·rw [if_neg hc,List.lookup_cons,hb]
theorem closure_of {env : Env} : ∀ (names : List (Str × NameKind)) (cs0 : List (Str × Addr)), (∀ x ∈ names, x.2 = .free -> ∃ c, env.cells.lookup x.1 = some c) -> (∀ x c, cs0.lookup x = some c -> env.cells.lookup x = some c) ->
    ∃ cl, (forIn (m := Sem) names cs0 fun x __s => if (x.snd == NameKind.free) = true then do
              let __do_lift <- cellOf env x.fst
              pure (ForInStep.yield ((x.fst, __do_lift) :: __s))
            else pure (ForInStep.yield __s)) = pure cl /\ (∀ x c, cl.lookup x = some c -> env.cells.lookup x = some c) /\ (∀ x, (x, NameKind.free) ∈ names -> ∃ c, cl.lookup x = some c) /\ ∀ x c, cs0.lookup x = some c -> ∃ c', cl.lookup x = some c' := by
  intro names
  induction names with
  | nil =>
    intro cs0 _ h0
    exact ⟨cs0, by simp only [List.forIn_nil], h0, fun _ h => absurd h List.not_mem_nil, fun _ c h => ⟨c, h⟩⟩
  | cons p r ih =>
    intro cs0 hf h0
    obtain ⟨n, k⟩ := p
    by_cases hk : k = .free
    · subst hk
      obtain ⟨c, hc⟩ := hf (n, .free) List.mem_cons_self rfl
      obtain ⟨cl, e, h1, h2, h3⟩ := ih ((n, c) :: cs0) (fun x hx => hf x (List.mem_cons_of_mem _ hx)) (fun x c' hx => by
        rw [List.lookup_cons] at hx
        split at hx
        · rename_i hb
          have hxn : x = n := by simpa using hb
          cases hx; rw [hxn]; exact hc
        · exact h0 x c' hx)
      have hn : ∃ c', cl.lookup n = some c' := h3 n c (by simp)
      refine ⟨cl, ?_, h1, fun x hx => ?_, fun x c' hx => ?_⟩
      · rw [List.forIn_cons]
        simp only [beq_self_eq_true, if_true, cellOf, hc]
        exact e
      · rcases List.mem_cons.mp hx with q | hx
        · cases q; exact hn
        · exact h2 x hx
      · by_cases hxn : x = n
        · subst hxn; exact hn
        · exact h3 x c' (by
            have hb : (x == n) = false := by simpa using hxn
            rw [List.lookup_cons, hb]; exact hx)
    · have hb : (k == NameKind.free) = false := by simpa using hk
      obtain ⟨cl, e, h1, h2, h3⟩ := ih cs0 (fun x hx => hf x (List.mem_cons_of_mem _ hx)) h0
      refine ⟨cl, ?_, h1, fun x hx => ?_, h3⟩
      · rw [List.forIn_cons]
        simp only [hb, Bool.false_eq_true, if_false]
        exact e
      · rcases List.mem_cons.mp hx with q | hx
        · cases q; exact absurd rfl hk
        · exact h2 x hx
structure CompScope (sc cs:Scope) (N N':List Str):Prop where
 kind:cs.kind=.function
 ncell:∀ x∈cs.names,x.2≠.cell
 loc:∀ x∈cs.names,x.2=.local->cs.names.lookup x.1=some .local
 free:∀ x∈cs.names,x.2=.free->sc.names.lookup x.1=some .cell\/sc.names.lookup x.1=some .free
 nd:N'.Nodup
 len:N.length<=N'.length
 same:∀ i∈List.range N.length,N'[i]?=N[i]?\/∀ x∈N'[i]?,cs.names.lookup x=none
 out:∀ x∈N'.take N.length,cs.names.lookup x≠some .local
abbrev cxComp (X:Cx) (cs:Scope) (cl:List (Str×Addr)) (N':List Str) (ex:List Addr) (s:Shared) (H:Hp):Cx:=
 { X with N:=N',s₀:=s,H₀:=H,env:=compEnvC cs cl s.heap.objs.size X.env,outer:=X.stack,stack:=X.stack,ex:=ex,fn:=fun _=>false,pn:=[],xe:=fun _ _=>False }
def inner (N':List Str) (σ:St):St:=σ++List.replicate (N'.length-σ.length) none
theorem inner_get {N':List Str} {σ:St} {i:Nat} {v:V} (h:(inner N' σ)[i]?=some (some v)):σ[i]?=some (some v):=by
 unfold inner at h
 by_cases hi:i<σ.length
 ·rwa [List.getElem?_append_left hi] at h
 ·rw [List.getElem?_append_right (by omega),List.getElem?_replicate] at h
  split at h <;> cases h
theorem comp_inv {X:Cx} {pins:List (Addr×Obj)} {σ:St} {H:Hp} {s3 s4:Shared} {cs:Scope} {cl:List (Str×Addr)} {N':List Str} {fp:List Addr} {m:Str->Option Value} (S:CompScope X.env.scope cs X.N N') (I:Inv X pins σ H s3)
  (hcl1:∀ x c,cl.lookup x=some c->X.env.cells.lookup x=some c) (hcl2:∀ x,(x,NameKind.free)∈cs.names->∃ c,cl.lookup x=some c) (hf:∀ b∈fp,FpOk X pins H b) (hlt:∀ b∈fp,b<s3.heap.objs.size)
  (kp:∀ b o,s3.heap.get? b=some o->s4.heap.get? b=some o) (hn:s4.heap.Ns s3.heap.objs.size m) (hos:s4.os=s3.os) (hg:s4.gens=s3.gens):Inv (cxComp X cs cl N' fp s3 H) [] (inner N' σ) H s4:=by
 have kcell:∀ {c:Addr} {v:Option Value},s3.heap.IsCell c v->s4.heap.IsCell c v:=fun {c v} z=>by obtain ⟨o,e,d⟩:=z; exact ⟨o,kp c o e,d⟩
 refine ⟨⟨I.ok.mod,S.kind,I.ok.glob,I.ok.blt,Nat.le_refl _,fun x y c h1 h2=>I.ok.inj x y c (hcl1 x c h1) (hcl1 y c h2),fun x hx=>?_,fun x c h _=>absurd (show false=true from h) (by decide),I.ok.hd,I.ok.frames,.inl rfl,fun b hb=>⟨?_,fun x c e=>(hf b hb).2.2.2.2.1 x c (hcl1 x c e)⟩,I.bs,Nat.le_trans I.ok.bsz I.sz,fun b o e hb=>?_,fun b hb hfs=>?_,I.stack,I.stkFree⟩,
  hos,by rw [hg]; exact I.bare,Un.kept kp,⟨m,hn,fun i x v e1 e2 e3=>?_⟩,fun x c e=>?_,I.hok.fresh (Nat.le_refl _),fun x c e=>I.freeC x c (hcl1 x c e),fun p hp=>absurd (show p∈([]:List (Addr×Obj)) from hp) (by simp),I.hok.kept kp,?_⟩
 ·have hx':(relabel cs X.env).names.lookup x=some .cell\/(relabel cs X.env).names.lookup x=some .free:=hx
  rw [relabel_lookup] at hx'
  cases hl:cs.names.lookup x with
  | none=>rw [hl] at hx'; rcases hx' with h | h <;> cases h
  | some k=>
   have hm:=PySem.mem_of_lookup hl
   by_cases hk:k=.free
   ·subst hk; exact hcl2 x hm
   ·exfalso
    have hb:(k == NameKind.free)=false:=by simpa using hk
    rw [hl] at hx'
    simp only [Option.map_some,hb,Bool.false_and,Bool.false_eq_true,if_false] at hx'
    rcases hx' with h | h
    ·cases h; exact S.ncell _ hm rfl
    ·cases h; exact hk rfl
 ·intro q
  have hb':b=s3.heap.objs.size:=q
  exact absurd (hlt b hb) (by rw [hb']; exact Nat.lt_irrefl _)
 ·obtain ⟨f0,f1,f2,f3,f4,f5⟩:=hf b hb
  rcases f3 with z | z
  ·exact I.ok.noex b o e z
  ·exact absurd (Nat.lt_of_lt_of_le (Heap.lt_size (I.ok.bs b o e).1) z) (Nat.lt_irrefl _)
 ·have hfs':b∈frs X.stack:=hfs
  rcases List.mem_cons.mp (I.stkSub b hfs') with z | z
  ·exact (hf b hb).2.1 z
  ·exact (hf b hb).2.2.1 z
 ·have e2':=inner_get e2
  have hi:i<X.N.length:=by rw [<- I.len]; exact (List.getElem?_eq_some_iff.mp e2').1
  have e1':N'[i]?=some x:=e1
  have e3':Vis (relabel cs X.env) x:=e3
  have hv:∃ k,cs.names.lookup x=some k:=by
   unfold Vis at e3'
   rw [relabel_lookup] at e3'
   cases hl:cs.names.lookup x with
   | none=>rw [hl] at e3'; rcases e3' with h | h | h <;> cases h
   | some k=>exact ⟨k,rfl⟩
  obtain ⟨k,hk⟩:=hv
  have hN:X.N[i]?=some x:=by
   rcases S.same i (List.mem_range.mpr hi) with q | q
   ·rw [<- q]; exact e1'
   ·have:=q x (by rw [e1']; rfl)
    rw [hk] at this; cases this
  have hnl:k≠.local:=fun q=>by
   subst q
   exact S.out x (List.mem_of_getElem? (i:=i) (by rw [List.getElem?_take_of_lt hi]; exact e1')) hk
  have hm:=PySem.mem_of_lookup hk
  have hfree:k=.free:=by
   unfold Vis at e3'
   rw [relabel_lookup,hk] at e3'
   by_cases hkf:k=.free
   ·exact hkf
   ·exfalso
    have hb:(k == NameKind.free)=false:=by simpa using hkf
    simp only [Option.map_some,hb,Bool.false_and,Bool.false_eq_true,if_false] at e3'
    rcases e3' with h | h | h
    ·exact hnl (Option.some.inj h)
    ·exact S.ncell _ hm (Option.some.inj h)
    ·exact hkf (Option.some.inj h)
  subst hfree
  obtain ⟨m0,hn0,hl0⟩:=I.loc
  have hvis:Vis X.env.scope x:=by
   rcases S.free _ hm rfl with h | h
   ·exact .inr (.inl h)
   ·exact .inr (.inr h)
  obtain ⟨u,r,l⟩:=hl0 i x v hN e2' hvis
  refine ⟨u,r,.inr ⟨?_,?_⟩⟩
  ·show (relabel cs X.env).names.lookup x=some .cell\/(relabel cs X.env).names.lookup x=some .free
   rw [relabel_lookup,hk]
   show some (if _ then _ else _)=_\/some (if _ then _ else _)=_
   split
   ·exact .inl rfl
   ·exact .inr rfl
  ·obtain ⟨c,hc⟩:=hcl2 x hm
   have hc':=hcl1 x c hc
   rcases l with ⟨q,_⟩ | ⟨_,c',e,z⟩
   ·exfalso
    have q':X.env.scope.names.lookup x=some .local:=q
    rcases S.free _ hm rfl with h | h <;> (rw [q'] at h; cases h)
   ·rw [hc'] at e; cases e
    exact ⟨c,hc,kcell z⟩
 ·obtain ⟨v,z⟩:=I.cell x c (hcl1 x c e)
  exact ⟨v,kcell z⟩
 ·unfold inner
  rw [List.length_append,List.length_replicate,I.len]
  have:=S.len
  show _=N'.length
  omega
def GKeep (n:Nat) (g:TG):Prop:=∀ (v:V) (σ:St) (H:Hp) (Q:St->Hp->Prop),g v σ H Q->g v σ H fun σ2 H2=>Q σ2 H2/\σ2.length=σ.length/\∀ j,j<n->σ2[j]?=σ[j]?
theorem gk_name {n i:Nat} (h:n<=i):GKeep n (gName i):=fun v σ H Q q=>⟨q,by simp,fun j hj=>List.getElem?_set_ne (by omega)⟩
def PIf (X:Cx) (ifs:List Expr) (t:TT):Prop:=
 ∀ (pins:List (Addr×Obj)) (s:Shared) (σ:St) (H:Hp) (Q:Bool->Hp->Prop),Inv X pins σ H s->t σ H Q ->
  wpAny (model X.prog X.w) X.A (forIn ifs true fun c r=>if r=true then do let ok <- isTrue c X.env (eval c X.env); pure (ForInStep.yield ok) else pure (ForInStep.yield r)) (TP X pins σ Q) X.xe s
def tYes:TT:=fun _ H Q=>Q true H
theorem pif_nil {X:Cx}:PIf X [] tYes:=fun _ _ _ H _ I h=>wpAny_tests_nil ⟨H,I,h⟩
def CompW (J:It) (D:Addr) (g:TG) (tc:TT) (te:TE) (σ':St) (H1:Hp) (Q:Hp->Prop):Prop:=
 ∃ W:Nat->Nat->Hp->Prop,(∃ m,W 0 m (upd H1 D (.lst [])))/\∀ i m H2,W i m H2 ->
  (J.stop i H2/\Q H2)\/(J.go i H2/\∀ x H3,J.yld i H2 x H3->g x σ' H3 fun σ4 H4=>tc σ4 H4 fun b H5=>
   if b=true then te σ4 H5 fun y H6=>∃ ys,H6 D=some (.lst ys)/\ys.length<sizeLine/\∃ m',m'<m/\W (i+1) m' (upd H6 D (.lst (ys ++ [y])))
   else ∃ m',m'<m/\W (i+1) m' H5)
def tComp (N':List Str) (wi:TI) (g:TG) (tc:TT) (te:TE):TE:=fun σ H Q=>wi σ H fun J H1=>∀ D,H1 D=none->CompW J D g tc te (inner N' σ) H1 (Q (.ref D))
section
variable {X:Cx} {cs:Scope} {N':List Str} {tg iter elt:Expr} {ifs:List Expr} {wi:TI} {g:TG} {tc:TT} {te:TE} {pos:Pos}
theorem fp_in {cl:List (Str×Addr)} {pins:List (Addr×Obj)} {fp:List Addr} {H3 H':Hp} {s3:Shared} (hcl1:∀ x c,cl.lookup x=some c->X.env.cells.lookup x=some c) (stk:∀ b∈frs X.stack,b∈X.env.locals::X.fs)
  (hf3:∀ b∈fp,FpOk X pins H3 b) (hlt:∀ b∈fp,b<s3.heap.objs.size) (hn:∀ b∈fp,H' b=none):∀ b∈fp,FpOk (cxComp X cs cl N' fp s3 H3) [] H' b:=fun b hb=>by
 obtain ⟨f0,f1,f2,f3,f4,f5⟩:=hf3 b hb
 refine ⟨hn b hb,Nat.ne_of_lt (hlt b hb),fun hfs=>?_,.inl hb,fun x c e=>f4 x c (hcl1 x c e),fun p hp=>absurd (show p∈([]:List (Addr×Obj)) from hp) (by simp)⟩
 have hfs':b∈frs X.stack:=hfs
 rcases List.mem_cons.mp (stk b hfs') with z | z
 ·exact f1 z
 ·exact f2 z
theorem comp_loop {cl:List (Str×Addr)} {pins:List (Addr×Obj)} {σ:St} {R:Result->Shared->Prop} {Q:Hp->Prop} {s3 s4:Shared} {H3:Hp} {it D:Addr} {fp:List Addr} {tn:Nat->Heap->Prop} {J:It} {W:Nat->Nat->Hp->Prop} {m0:Nat}
  (hc:X.calm=true) (hg:PG (cxComp X cs cl N' fp s3 H3) tg g) (hk:GKeep X.N.length g) (ht:PIf (cxComp X cs cl N' fp s3 H3) ifs tc) (he:PE (cxComp X cs cl N' fp s3 H3) elt te)
  (hcl1:∀ x c,cl.lookup x=some c->X.env.cells.lookup x=some c)
  (I3:Inv X pins σ H3 s3) (I4:Inv (cxComp X cs cl N' fp s3 H3) [] (inner N' σ) H3 s4) (T:Turn X.prog X.w X.K tg J fp it tn) (st:tn 0 s4.heap) (hf3:∀ b∈fp,FpOk X pins H3 b) (hlt:∀ b∈fp,b<s3.heap.objs.size)
  (w0:W 0 m0 H3)
  (turn:∀ i m H2,W i m H2->(J.stop i H2/\Q H2)\/(J.go i H2/\∀ x H3,J.yld i H2 x H3->g x (inner N' σ) H3 fun σ4 H4=>tc σ4 H4 fun b H5=>
   if b=true then te σ4 H5 fun y H6=>∃ ys,H6 D=some (.lst ys)/\ys.length<sizeLine/\∃ m',m'<m/\W (i+1) m' (upd H6 D (.lst (ys ++ [y])))
   else ∃ m',m'<m/\W (i+1) m' H5))
  (hR:∀ (H':Hp) (s':Shared),Inv X pins σ H' s'->Q H'->(∃ m,s'.heap.Ns s3.heap.objs.size m)->FpOk X pins H' s3.heap.objs.size->R (.ok .next) s') :
  codeAny (model X.prog X.w) X.A (.compLoop (.ListComp elt [⟨tg,iter,ifs,0⟩] cs pos) 0 (.ref it) (.ref D) (cxComp X cs cl N' fp s3 H3).env) R s4:=by
 have fpx:∀ {H':Hp},(∀ b∈fp,H' b=none)->∀ b∈fp,FpOk (cxComp X cs cl N' fp s3 H3) [] H' b:=fun hn=>fp_in hcl1 I3.stkSub hf3 hlt hn
 have lσ:(inner N' σ).length=N'.length:=I4.len
 refine codeAny_loop rfl (fun n s'=>∃ i H',Inv (cxComp X cs cl N' fp s3 H3) [] (inner N' σ) H' s'/\tn i s'.heap/\(∀ b∈fp,H' b=none)/\W i n H') (fun n s5 hI=>?_) m0 ⟨0,H3,I4,st,fun b hb=>(hf3 b hb).1,w0⟩
 obtain ⟨i,H5,I5,st5,fr5,w5⟩:=hI
 show wpAny _ _ ((compTurn (.ListComp elt [⟨tg,iter,ifs,0⟩] cs pos) 0 (.ref it) (.ref D) (cxComp X cs cl N' fp s3 H3).env).onRaise _) _ _ s5
 refine wpAny_noted ?_
 rw [compTurn_list]
 refine wpAny_bind (wpAny_standAt (wpAny_bind ?_))
 have cvt:∀ {α:Type} {t:Sem α} {P:α->Shared->Prop} {E':Value->Shared->Prop} {s:Shared},wpAny (model X.prog X.w) X.A t P (fun _ _=>False) s->wpAny (model X.prog X.w) X.A t P E' s:=fun h=>wpAny_mono h (fun _ _ q=>q) fun _ _ q=>q.elim
 rcases turn i n H5 w5 with ⟨stop,q⟩ | ⟨go,step⟩
 ·refine thn (T.done (cxComp X cs cl N' fp s3 H3) rfl rfl rfl hc i [] s5 _ H5 _ I5 (fpx fr5) st5 stop) fun r s6 ⟨hr,I6⟩=>?_
  subst hr
  refine wpAny_pure ?_
  have J6:Inv X pins σ H5 s6:=I3.call' (H':=H5) (ch:=fp) I6.os I6.base I6.hok I6.bare fun b hb=>by
   obtain ⟨f0,f1,f2,f3,f4,f5⟩:=hf3 b hb
   exact ⟨f3,f1,f4,f5⟩
  obtain ⟨m,hn,_⟩:=I6.loc
  exact hR H5 s6 J6 q ⟨m,hn⟩ (I3.fpOk (Nat.le_refl _) I6.free)
 ·refine thn (T.item (cxComp X cs cl N' fp s3 H3) rfl rfl rfl hc i [] s5 _ H5 _ I5 (fpx fr5) st5 go) fun r s6 ⟨u,hr,h6⟩=>?_
  subst hr
  refine wpAny_bind (thn h6 fun _ s7 zz70=>?_)
  obtain ⟨x,H7,I7,r7,y7,st7,fr7⟩:=zz70
  have I7':=I7.pinned (fpx fr7) (T.obj _ _ st7)
  refine wpAny_bind (cvt (thn (hg _ s7 _ H7 x u _ I7' r7 (hk x _ H7 _ (step x H7 y7))) fun _ s8 zz71=>?_))
  obtain ⟨σ8,H8,I8,q8,l8,k8⟩:=zz71
  refine wpAny_bind (cvt (thn (ht _ s8 σ8 H8 _ I8 q8) fun b s9 zz72=>?_))
  obtain ⟨H9,I9,q9⟩:=zz72
  have again:∀ {s':Shared} {H':Hp},Inv (cxComp X cs cl N' fp s3 H3) ([]++pinsAt fp s7.heap) σ8 H' s'->(∃ m',m'<n/\W (i+1) m' H') ->
    ∃ m',m'<n/\∃ i H',Inv (cxComp X cs cl N' fp s3 H3) [] (inner N' σ) H' s'/\tn i s'.heap/\(∀ b∈fp,H' b=none)/\W i m' H':=fun {s' H'} I' zz73=>by
   obtain ⟨m',hm,w'⟩:=zz73
   refine ⟨m',hm,i+1,H',(I'.unpinned).weak (by rw [l8]) (fun j v e=>?_),T.keep _ _ _ st7 fun b hb o e=>(I'.pin (b,o) (List.mem_append_right _ (List.mem_append_right _ (mem_pinsAt hb e)))).1,fun b hb=>?_,w'⟩
   ·have hj:j<X.N.length:=by rw [<- I3.len]; exact (List.getElem?_eq_some_iff.mp (inner_get e)).1
    rw [k8 j hj]; exact e
   ·obtain ⟨o,e,d⟩:=T.obj _ _ st7 b hb
    exact (I'.pin (b,o) (List.mem_append_right _ (List.mem_append_right _ (mem_pinsAt hb e)))).2.1
  cases b with
  | false=>
   have q9':∃ m',m'<n/\W (i+1) m' H9:=q9
   exact wpAny_pure ⟨rfl,again I9 q9'⟩
  | true=>
   have q9':te σ8 H9 _:=q9
   refine wpAny_bind (wpAny_bind (cvt (thn (he _ s9 σ8 H9 _ I9 q9') fun v s10 zz74=>?_)))
   obtain ⟨y,H10,I10,r10,ys,hD,hy,q10⟩:=zz74
   refine wpAny_bind (cvt (thn (mt_append _ s10 σ8 H10 (.ref D) [y] (.ref D) [v] (fun _ H'=>∃ m',m'<n/\W (i+1) m' H') I10 rfl (.cons r10 .nil) ⟨D,ys,y,rfl,rfl,hD,hy,q10⟩) fun _ s11 zz75=>?_))
   obtain ⟨_,H11,I11,_,q11⟩:=zz75
   exact wpAny_pure (wpAny_pure ⟨rfl,again I11 q11⟩)
theorem comp_core {cl:List (Str×Addr)} {pins:List (Addr×Obj)} {σ:St} {R:Value->Addr->Result->Shared->Prop} {Q:V->Hp->Prop} {s2:Shared} {itv:Value} (S:CompScope X.env.scope cs X.N N') (hc:X.calm=true)
  (hg:∀ cl ex s H,PG (cxComp X cs cl N' ex s H) tg g) (hk:GKeep X.N.length g) (ht:∀ cl ex s H,PIf (cxComp X cs cl N' ex s H) ifs tc) (he:∀ cl ex s H,PE (cxComp X cs cl N' ex s H) elt te)
  (hcl1:∀ x c,cl.lookup x=some c->X.env.cells.lookup x=some c) (hcl2:∀ x,(x,NameKind.free)∈cs.names->∃ c,cl.lookup x=some c)
  (h:PIE X pins σ tg (fun J H1=>∀ D,H1 D=none->CompW J D g tc te (inner N' σ) H1 (Q (.ref D))) itv s2)
  (hR:∀ (D C:Addr) (H':Hp) (s':Shared),Inv X pins σ H' s'->Q (.ref D) H'->(∃ m,s'.heap.Ns C m)->FpOk X pins H' C->R (.ref D) C (.ok .next) s') :
  wpAny (model X.prog X.w) X.A (newList []) (fun acc s₃=>wpAny (model X.prog X.w) X.A (newFunctionEnv cs X.env.globals cl [] X.env.qual none .none (some X.env)) (fun cenv s₄=>
   codeAny (model X.prog X.w) X.A (.compStart (.ListComp elt [⟨tg,iter,ifs,0⟩] cs pos) 0 itv acc { cenv with scope:=relabel cs X.env }) (R acc cenv.locals) s₄) X.xe s₃) X.xe s2:=by
 obtain ⟨it,fp,tn,J,H2,e,I2,T,st2,f2,hw⟩:=h
 subst e
 refine wpAny_newObj_type (wpAny_newFunctionEnv S.ncell (by intro y hy; simp at hy) (fun h1 hns1 hsb1=>?_) S.kind)
 dsimp only at hns1 hsb1 ⊢
 have hD:=I2.hok.fresh (Nat.le_refl _)
 obtain ⟨W,⟨m0,w0⟩,turn⟩:=hw s2.heap.objs.size hD
 have I3:Inv X pins σ (upd H2 s2.heap.objs.size (.lst [])) { s2 with heap:=s2.heap.push { cls:=.type "list",dict:=none,data:=.seq ([]:List Value).toArray } }:=I2.lnew (t':=s2.toks) .nil (Nat.zero_le _)
 have hfp3:∀ b∈fp,b<s2.heap.objs.size:=fun b hb=>by
  obtain ⟨o,e,_⟩:=T.obj 0 _ st2 b hb
  exact Heap.lt_size e
 have hf3:∀ b∈fp,FpOk X pins (upd H2 s2.heap.objs.size (.lst [])) b:=fun b hb=>by
  obtain ⟨f0,r⟩:=f2 b hb
  exact ⟨by rw [upd_ne (Nat.ne_of_lt (hfp3 b hb))]; exact f0,r⟩
 have hlt:∀ b∈fp,b<(s2.heap.push { cls:=.type "list",dict:=none,data:=.seq ([]:List Value).toArray }).objs.size:=fun b hb=>by rw [Heap.size_push]; exact Nat.lt_succ_of_lt (hfp3 b hb)
 have kp:∀ b o,(s2.heap.push { cls:=.type "list",dict:=none,data:=.seq ([]:List Value).toArray }).get? b=some o->h1.get? b=some o:=fun b o e=>hsb1.extBut b o (Nat.ne_of_lt (Heap.lt_size e)) (Heap.get?_push_of_some _ e)
 have I4:=comp_inv (cs:=cs) (cl:=cl) (N':=N') (fp:=fp) (s4:={ s2 with heap:=h1,toks:=s2.toks+([]:List (Str×Value)).length }) S I3 hcl1 hcl2 hf3 hlt kp hns1 rfl rfl
 have st4:tn 0 h1:=T.keep 0 _ _ st2 fun b hb o e=>kp b o (Heap.get?_push_of_some _ e)
 have loop:=comp_loop (R:=R (.ref s2.heap.objs.size) (s2.heap.push { cls:=.type "list",dict:=none,data:=.seq ([]:List Value).toArray }).objs.size) (D:=s2.heap.objs.size) (iter:=iter) (pos:=pos) (it:=it) (Q:=Q (.ref s2.heap.objs.size)) hc (hg cl fp _ _) hk (ht cl fp _ _) (he cl fp _ _) hcl1 I3 I4 T st4 hf3 hlt w0 turn fun H' s' I' q n f=>hR _ _ H' s' I' q n f
 exact codeAny_compStart_list loop (T.self _ 0 _ _ _ st4 loop)
theorem pe_comp (S:CompScope X.env.scope cs X.N N') (hc:X.calm=true) (hi:PI X tg iter wi)
  (hg:∀ cl ex s H,PG (cxComp X cs cl N' ex s H) tg g) (hk:GKeep X.N.length g) (ht:∀ cl ex s H,PIf (cxComp X cs cl N' ex s H) ifs tc) (he:∀ cl ex s H,PE (cxComp X cs cl N' ex s H) elt te)
  (hs:∀ x,foldedSetIterable iter X.env x=pure x:=by intro _; rfl):PE X (.ListComp elt [⟨tg,iter,ifs,0⟩] cs pos) (tComp N' wi g tc te):=by
 intro pins s σ H Q I h
 obtain ⟨cl,e,h1,h2,_⟩:=closure_of (env:=X.env) cs.names [] (fun x hx hk=>I.ok.has x.1 (S.free x hx hk)) (fun _ _ z=>nomatch z)
 have hclos:closureFor cs X.env=pure cl:=by
  simp only [closureFor]
  rw [e]; rfl
 rw [eval_ListComp]
 refine wpAny_comprehension_free (use:=none) rfl hs hclos S.kind S.loc (thn (hi pins s σ H _ I h) fun v s1 q1=>thn q1 fun itv s2 q2=>?_)
 refine comp_core (R:=fun acc C=>compPost (model X.prog X.w) X.A X.xe none (EP X pins σ Q) acc C) (Q:=Q) S hc hg hk ht he h1 h2 q2 fun D C H' s' I' q n f=>?_
 obtain ⟨m,hn⟩:=n
 obtain ⟨f0,f1,f2,f3,f4,f5⟩:=f
 exact ⟨m,hn,fun h' sb=>⟨.ref D,H',I'.turned (t':=s'.toks) (fun b o hb e=>sb.extBut b o hb e) f0 f1 f3 f4 f5,rfl,q⟩⟩
end
end L2
namespace L2
open PySem PySem.Spec PyProof.Rows
def seqAt (K:Frag) (H:Hp) (p:Addr) (R:List V->Prop):Prop:=match H p with
 | some (.tup xs)=>R xs
 | some (.lst xs)=>R xs
 | _=>∃ t xs,Sq K H t p xs/\R xs
section
variable {X:Cx}
def ItQ (K:Frag) (t:Bool) (a:Addr):It:=if t=true then Itt K a else Itl K a
def iSq (K:Frag) (tl:TE):TI:=fun σ H R=>tl σ H fun x H1=>∃ a,x=.ref a/\∃ t xs,Sq K H1 t a xs/\R (ItQ K t a) H1
theorem pi_sq {tg l:Expr} {tl:TE} (hl:PE X l tl):PI X tg l (iSq X.K tl):=by
 intro pins s σ H R I h
 refine thn (hl pins s σ H _ I h) fun v s1 zz76=>?_
 obtain ⟨x,H1,I1,r1,q1⟩:=zz76
 obtain ⟨a,e,t,xs,hq,q⟩:=q1
 subst e
 cases r1
 cases t with
 | true=>
  have hq':SqT X.K H1 a xs:=by unfold Sq at hq; rw [if_pos rfl] at hq; exact hq
  obtain ⟨its,rv,p,hz⟩:=I1.tuple hq'
  refine wpAny_pyIter_tuple (show s1.heap.IsTuple a its.toArray from p) ?_
  refine ⟨s1.heap.objs.size,[s1.heap.objs.size],_,Itt X.K a,H1,rfl,I1.kept (t':=s1.toks) fun b o e=>Heap.get?_push_of_some _ e,turn_tuple a _,⟨_,Heap.get?_push_size _ rfl,rfl,rfl⟩,fun b hb=>?_,q⟩
  have e:b=s1.heap.objs.size:=by simpa using hb
  subst e
  exact I1.fpOk (Nat.le_refl _) (I1.hok.fresh (Nat.le_refl _))
 | false=>
  have hq':SqL X.K H1 a xs:=by unfold Sq at hq; rw [if_neg Bool.false_ne_true] at hq; exact hq
  obtain ⟨its,rv,p,hz⟩:=I1.list hq'
  refine wpAny_pyIter_list p.isList ?_
  refine ⟨s1.heap.objs.size,[s1.heap.objs.size],_,Itl X.K a,H1,rfl,I1.kept (t':=s1.toks) fun b o e=>Heap.get?_push_of_some _ e,turn_list a _,⟨_,Heap.get?_push_size _ rfl,rfl,rfl⟩,fun b hb=>?_,q⟩
  have e:b=s1.heap.objs.size:=by simpa using hb
  subst e
  exact I1.fpOk (Nat.le_refl _) (I1.hok.fresh (Nat.le_refl _))
theorem bt_bool:bootBuiltins "bool" = some (.type "bool"):=by decide +kernel
theorem bt_int:bootBuiltins "int" = some (.type "int"):=by decide +kernel
theorem bt_list:bootBuiltins "list" = some (.type "list"):=by decide +kernel
theorem bt_tuple:bootBuiltins "tuple" = some (.type "tuple"):=by decide +kernel
theorem bt_str:bootBuiltins "str" = some (.type "str"):=by decide +kernel
def tyO:Option HO->Option String
 | some (.lst _)=>some "list"
 | some (.tup _)=>some "tuple"
 | some (.dK _)=>some "dict"
 | _=>none
def tyB (H:Hp):V->Option String
 | .non=>some "NoneType"
 | .bl _=>some "bool"
 | .int _=>some "int"
 | .str _=>some "str"
 | .ref a=>tyO (H a)
 | _=>none
def isiB (A T:String):Option Bool:=
 if A=T then some true else if A = "bool" /\ T = "int" then some true
 else if (A = "NoneType" \/ A = "bool" \/ A = "int" \/ A = "str" \/ A = "list" \/ A = "tuple" \/ A = "dict")/\(T = "bool" \/ T = "int" \/ T = "list" \/ T = "tuple") then some false else none
theorem tyB_ok {K:Frag} {H:Hp} {x:V} {A:String} (h:tyB H x=some A):TyOf K H x (.type A):=by
 cases x with
 | non=>cases h; exact .non
 | bl _=>cases h; exact .bl _
 | int _=>cases h; exact .int _
 | str _=>cases h; exact .str _
 | ref a=>
  have h:tyO (H a)=some A:=h
  cases e:H a with
  | none=>rw [e] at h; cases h
  | some o=>
   rw [e] at h
   cases o <;> first | (cases h; exact .lst e) | (cases h; exact .tup e) | (cases h; exact .dK e) | cases h
 | _=>cases h
theorem isiB_ok {K:Frag} {A T:String} {b:Bool} (h:isiB A T=some b):PySem.W.kitOne K (.type A) (.type T)=some b:=by
 unfold isiB at h
 split at h
 ·rename_i e; subst e; cases h
  unfold PySem.W.kitOne
  rw [if_pos (by simp)]
 ·split at h
  ·rename_i e; obtain ⟨rfl,rfl⟩:=e; cases h; with_unfolding_all rfl
  ·split at h
   ·rename_i h1 h2 e
    obtain ⟨e1,e2⟩:=e
    cases h
    rcases e1 with rfl | rfl | rfl | rfl | rfl | rfl | rfl <;> rcases e2 with rfl | rfl | rfl | rfl <;>
     first | exact absurd rfl h1 | exact absurd ⟨rfl,rfl⟩ h2 | with_unfolding_all rfl
   ·cases h
def rIsi:List V->Hp->VK->Prop:=fun xs H Q=>∃ x T,xs = [x,.ty T]/\∃ A,tyB H x=some A/\∃ b,isiB A T=some b/\Q (.bl b) H
theorem call_isi:CallR X (.builtin "isinstance") rIsi:=by
 intro pins s σ H xs us Q I r h
 obtain ⟨x,T,rfl,A,ty,b,e,q⟩:=h
 obtain ⟨u,w',rfl,r1,r2⟩:=vals2 r
 have e2:w'=Value.type T:=r2
 subst e2
 exact isinst_ok I r1 (tyB_ok ty) (isiB_ok e) fun tk=>⟨.bl b,H,I.tok tk,rfl,q⟩
end
theorem isi_bb:isiB "bool" "bool" = some true:=by decide
theorem isi_bi:isiB "bool" "int" = some true:=by decide
theorem isi_ib:isiB "int" "bool" = some false:=by decide
theorem isi_ii:isiB "int" "int" = some true:=by decide
theorem isi_tt:isiB "tuple" "tuple" = some true:=by decide
theorem isi_ll:isiB "list" "list" = some true:=by decide
theorem isi_ni:isiB "NoneType" "int" = some false:=by decide
theorem isi_nb:isiB "NoneType" "bool" = some false:=by decide
theorem isi_si:isiB "str" "int" = some false:=by decide
theorem isi_sb:isiB "str" "bool" = some false:=by decide
theorem isi_li:isiB "list" "int" = some false:=by decide
theorem isi_lb:isiB "list" "bool" = some false:=by decide
theorem isi_ti:isiB "tuple" "int" = some false:=by decide
theorem isi_tb:isiB "tuple" "bool" = some false:=by decide
theorem ixN_int {n:Nat} {i:Int} (h0:0<=i) (h1:i<n):ixN n i=some i.toNat:=by unfold ixN; rw [if_pos h0,if_pos h1]
theorem mem_getD {ms:List Int} {P:Int->Prop} (h:∀ x∈ms,P x) {i:Nat} (hi:i<ms.length):P (ms.getD i 0):=by
 have:ms.getD i 0=ms[i]:=by simp [hi]
 rw [this]; exact h _ (List.getElem_mem hi)
structure Def (K:Frag) (mg:Str->Option Value) (x:Str) (st:Stmt) (ps:List Str) (f:Addr) (fd:FuncData):Prop where
 F:Fun K x x st f fd
 m:mg x=some (.ref f)
 b:Binds K fd ps []
section
variable {X:Cx}
def tApp (to:TE) (te:TE):TE:=fun σ H Q=>to σ H fun x H1=>∃ p,x=.ref p/\(∃ xs,H1 p=some (.lst xs))/\te σ H1 fun y H2=>match H2 p with
 | some (.lst xs)=>xs.length<sizeLine/\Q .non (upd H2 p (.lst (xs ++ [y])))
 | _=>False
theorem pe_append {o e:Expr} {to te:TE} {apos cpos:Pos} (ho:PE X o to) (ha:PE X e te)
  (hbase:attributeBase o "append" X.env (eval o X.env)=eval o X.env:=by rfl)
  (hfew:((backTo cpos (starEach [e] X.env)).all (fun x=>!x.1)&&(backToKw cpos (keywordEach [] X.env)).all (fun x=>x.1.isSome)
   && decide (([e]:List Expr).length+([]:List Keyword).length+(if ([]:List Keyword).isEmpty then 0 else 1)<30))=true:=by rfl)
  (hline:(apos.endLine == cpos.line)=true:=by rfl) (hs:starEach [e] X.env=(false,eval e X.env)::starEach [] X.env:=by rfl):PE X (.Call (.Attribute o "append" apos) [e] [] cpos) (tApp to te):=by
 intro pins s σ H Q I h
 refine wpAny_Call_method_late hbase hfew hline rfl (thn (ho pins s σ H _ I h) fun v s1 zz77=>?_)
 obtain ⟨x,H1,I1,r1,p,ex,⟨xs,e1⟩,q1⟩:=zz77
 subst ex
 obtain ⟨h1,h2⟩:=tyV_is (T := "list") I1 r1 (.inl ⟨rfl,xs,SqL.of e1⟩)
 refine ⟨"list", "list.append",PySem.F.plainAttrs_list,PySem.F.slot_list_append,PySem.F.type_list_append,h1,h2,?_⟩
 have hA:=pa_cons ha pa_nil hs cpos pins s1 σ H1 (fun vs H2=>∃ y,vs = [y]/\match H2 p with
  | some (.lst xs)=>xs.length<sizeLine/\Q .non (upd H2 p (.lst (xs ++ [y])))
  | _=>False) I1 (by
   have e:(fun (y:V) (H2:Hp)=>match H2 p with
     | some (.lst xs)=>xs.length<sizeLine/\Q .non (upd H2 p (.lst (xs ++ [y])))
     | _=>False)=fun (y:V) (H2:Hp)=>∃ y',[y] = [y']/\match H2 p with
     | some (.lst xs)=>xs.length<sizeLine/\Q .non (upd H2 p (.lst (xs ++ [y'])))
     | _=>False:=by
    funext y H2
    exact propext ⟨fun q=>⟨y,rfl,q⟩,fun zz78=>by obtain ⟨y',e,q⟩:=zz78; cases e; exact q⟩
   rw [e] at q1
   exact q1)
 rw [hs] at hA ⊢
 refine Calls.callWith_builtin rfl (Calls.evalArgs_plain ?_)
 refine thn hA fun us s2 zz79=>?_
 obtain ⟨vs,H2,I2,r2,y,ev,q2⟩:=zz79
 subst ev
 refine mt_append pins s2 σ H2 (.ref p) [y] v us Q I2 r1 r2 ?_
 split at q2
 ·rename_i ys e2; exact ⟨p,ys,y,rfl,rfl,e2,q2.1,q2.2⟩
 ·exact q2.elim
end
section
variable {X:Cx}
end
def CPowB (i j:Int):Prop:=0<=j/\(Builtin.Int.intBits i:Int)*j<=2^27
theorem getD_of {ns:List Int} {i:Nat} {z:Int} (h:ns[i]?=some z):ns.getD i 0=z:=by rw [List.getD_eq_getElem?_getD,h]; rfl
theorem some_getD {ns:List Int} {i:Nat} (h:i<ns.length):ns[i]?=some (ns.getD i 0):=by rw [List.getD_eq_getElem?_getD]; simp [h]
end L2
namespace TP
open PySem L2
inductive W where
 | non | bl (b:Bool) | int (i:Int) | str (x:Str) | ty (n:String) | tup (ws:List W) | lst (ws:List W) | scr (ws:List W)
 | exc (c:Str) (i:Option Int) | cls (c:Str)
def XD (F:Hp) (od:Option Addr):Option Int->Prop
 | none=>od=none
 | some i=>∃ d,od=some d/\F d=some (.xd [("at",.int i)])
mutual
inductive Rep (K:Frag) (F:Hp):V->W->Prop where
 | non:Rep K F .non .non
 | bl {b:Bool}:Rep K F (.bl b) (.bl b)
 | int {i:Int}:Rep K F (.int i) (.int i)
 | str {x:Str}:Rep K F (.str x) (.str x)
 | ty {n:String}:Rep K F (.ty n) (.ty n)
 | tup {a:Addr} {vs:List V} {ws:List W}:F a=some (.tup vs)->Reps K F vs ws->Rep K F (.ref a) (.tup ws)
 | lst {a:Addr} {vs:List V} {ws:List W}:F a=some (.lst vs)->Reps K F vs ws->Rep K F (.ref a) (.lst ws)
 | scr {a:Addr} {vs:List V} {ws:List W}:SqL K F a vs->Reps K F vs ws->Rep K F (.ref a) (.scr ws)
 | exc {a C:Addr} {o:Obj} {vs:Array Value} {c:Str} {i:Option Int}:F a=some (.ext fun h=>h.get? a=some o)->o.cls=.ref C->o.data=.fields vs->PySem.W.nsIn K mainGlobals c=some (some (.ref C))->XD F o.dict i->Rep K F (.ref a) (.exc c i)
 | cls {C:Addr} {c:Str}:PySem.W.nsIn K mainGlobals c=some (some (.ref C))->Rep K F (.ref C) (.cls c)
 | dct {a:Addr} {o:Obj} {c:Str}:F a=some (.ext fun h=>h.get? a=some o)->o.cls=.type "dict" -> (∀ C,PySem.W.nsIn K mainGlobals c≠some (some (.ref C)))->Rep K F (.ref a) (.exc c none)
inductive Reps (K:Frag) (F:Hp):List V->List W->Prop where
 | nil:Reps K F [] []
 | cons {v:V} {w:W} {vs:List V} {ws:List W}:Rep K F v w->Reps K F vs ws->Reps K F (v::vs) (w::ws)
end
section
variable {K:Frag} {F F':Hp}
theorem sqT_same {a:Addr} {xs:List V} (e:Same F F') (h:SqT K F a xs):SqT K F' a xs:=by
 rcases h with (h | ⟨o,h⟩) | h
 ·exact .inl (.inl (e _ _ h))
 ·exact .inl (.inr ⟨o,e _ _ h⟩)
 ·exact .inr h
theorem XD.same (e:Same F F') {od:Option Addr}:∀ {i:Option Int},XD F od i->XD F' od i:=by
 intro i h
 cases i with
 | none=>exact h
 | some _=>obtain ⟨d,h1,h2⟩:=h; exact ⟨d,h1,e _ _ h2⟩
theorem Rep.same (e:Same F F') {v:V} {w:W} (r:Rep K F v w):Rep K F' v w:=
 @Rep.rec K F (fun v w _=>Rep K F' v w) (fun vs ws _=>Reps K F' vs ws) .non .bl .int .str .ty (fun h _ r=>.tup (e _ _ h) r) (fun h _ r=>.lst (e _ _ h) r) (fun h _ r=>.scr (Same.seq e h) r) (fun h1 h2 h3 h4 h5=>.exc (e _ _ h1) h2 h3 h4 (XD.same e h5)) (fun h=>.cls h) (fun h1 h2 h3=>.dct (e _ _ h1) h2 h3) .nil (fun _ _ a b=>.cons a b) v w r
theorem Reps.same (e:Same F F') {vs:List V} {ws:List W} (r:Reps K F vs ws):Reps K F' vs ws:=
 @Reps.rec K F (fun _ _ _=>True) (fun vs ws _=>Reps K F' vs ws) trivial trivial trivial trivial trivial (fun _ _ _=>trivial) (fun _ _ _=>trivial) (fun _ _ _=>trivial) (fun _ _ _ _ _=>trivial) (fun _=>trivial) (fun _ _ _=>trivial) .nil (fun h _ _ b=>.cons (Rep.same e h) b) vs ws r
theorem Reps.ind {P:List V->List W->Prop} (h0:P [] []) (h1:∀ {v:V} {w:W} {vs:List V} {ws:List W},Rep K F v w->Reps K F vs ws->P vs ws->P (v::vs) (w::ws)) {vs:List V} {ws:List W} (r:Reps K F vs ws):P vs ws:=
 @Reps.rec K F (fun _ _ _=>True) (fun vs ws _=>P vs ws) trivial trivial trivial trivial trivial (fun _ _ _=>trivial) (fun _ _ _=>trivial) (fun _ _ _=>trivial) (fun _ _ _ _ _=>trivial) (fun _=>trivial) (fun _ _ _=>trivial) h0 (fun h r _ b=>h1 h r b) vs ws r
def RepI (K:Frag) (F:Hp) (v:V):W->Prop
 | .non=>v=.non
 | .bl b=>v=.bl b
 | .int i=>v=.int i
 | .str x=>v=.str x
 | .ty n=>v=.ty n
 | .tup ws=>∃ a vs,v=.ref a/\F a=some (.tup vs)/\Reps K F vs ws
 | .lst ws=>∃ a vs,v=.ref a/\F a=some (.lst vs)/\Reps K F vs ws
 | .scr ws=>∃ a vs,v=.ref a/\SqL K F a vs/\Reps K F vs ws
 | .exc _ _=>True
 | .cls _=>True
theorem Rep.inv {v:V} {w:W} (r:Rep K F v w):RepI K F v w:=
 @Rep.rec K F (fun v w _=>RepI K F v w) (fun _ _ _=>True) rfl rfl rfl rfl rfl (fun h r _=>⟨_,_,rfl,h,r⟩) (fun h r _=>⟨_,_,rfl,h,r⟩) (fun h r _=>⟨_,_,rfl,h,r⟩) (fun _ _ _ _ _=>trivial) (fun _=>trivial) (fun _ _ _=>trivial) trivial (fun _ _ _ _=>trivial) v w r
def RepsI (K:Frag) (F:Hp) (vs:List V):List W->Prop
 | []=>vs = []
 | w::ws=>∃ v us,vs=v::us/\Rep K F v w/\Reps K F us ws
theorem Reps.length {vs:List V} {ws:List W} (r:Reps K F vs ws):vs.length=ws.length:=
 Reps.ind (P:=fun vs ws=>vs.length=ws.length) rfl (fun _ _ h=>congrArg (·+1) h) r
theorem Reps.get {vs:List V} {ws:List W} {i:Nat} {w:W} (r:Reps K F vs ws):ws[i]?=some w->∃ v,vs[i]?=some v/\Rep K F v w:=
 Reps.ind (P:=fun vs ws=>∀ (i:Nat) (w:W),ws[i]?=some w->∃ v,vs[i]?=some v/\Rep K F v w) (fun i w e=>by cases e) (fun h _ b i w e=>by
  cases i with
  | zero=>cases e; exact ⟨_,rfl,h⟩
  | succ i=>exact b i w e) r i w
theorem Reps.append {vs us:List V} {ws xs:List W} (r:Reps K F vs ws) (s:Reps K F us xs):Reps K F (vs++us) (ws++xs):=
 Reps.ind (P:=fun vs ws=>Reps K F (vs++us) (ws++xs)) s (fun h _ b=>.cons h b) r
theorem Reps.take {vs:List V} {ws:List W} (n:Nat) (r:Reps K F vs ws):Reps K F (vs.take n) (ws.take n):=
 Reps.ind (P:=fun vs ws=>∀ n,Reps K F (vs.take n) (ws.take n)) (fun n=>by simpa using .nil) (fun h _ b n=>by
  cases n with
  | zero=>exact .nil
  | succ n=>exact .cons h (b n)) r n
theorem Reps.drop {vs:List V} {ws:List W} (n:Nat) (r:Reps K F vs ws):Reps K F (vs.drop n) (ws.drop n):=
 Reps.ind (P:=fun vs ws=>∀ n,Reps K F (vs.drop n) (ws.drop n)) (fun n=>by simpa using .nil) (fun h r b n=>by
  cases n with
  | zero=>exact .cons h r
  | succ n=>exact b n) r n
theorem Reps.set {v:V} {w:W} (h:Rep K F v w) {vs:List V} {ws:List W} (i:Nat) (r:Reps K F vs ws):Reps K F (vs.set i v) (ws.set i w):=
 Reps.ind (P:=fun vs ws=>∀ i,Reps K F (vs.set i v) (ws.set i w)) (fun _=>.nil) (fun q t b i=>by
  cases i with
  | zero=>exact .cons h t
  | succ i=>exact .cons q (b i)) r i
theorem Reps.snoc {vs:List V} {ws:List W} {v:V} {w:W} (r:Reps K F vs ws) (h:Rep K F v w):Reps K F (vs ++ [v]) (ws ++ [w]):=r.append (.cons h .nil)
end
mutual
def noL:W->Bool
 | .lst _=>false
 | .scr _=>false
 | .tup ws=>noLs ws
 | _=>true
def noLs:List W->Bool
 | []=>true
 | w::ws=>noL w&&noLs ws
end
def isL:HO->Bool
 | .lst _=>true
 | .dT _=>true
 | .dK _=>true
 | .frz _ (.lst _)=>true
 | _=>false
def join (H0 G:Hp):Hp:=fun a=>match H0 a with
 | some o=>if isL o then some o else G a
 | none=>G a
inductive Sl where
 | un | val (w:W) | par (w:W) | own (ws:List W) | dic (ks:List (List Int)) | dik (ks:List Int) | iop (p:Addr) (ws:List W) | hz (w:W)
abbrev Rho:=List Sl
def noLG (G:Hp):Hp:=fun a=>match G a with
 | some o=>if isL o then none else some o
 | none=>none
theorem noLG_same {G G':Hp} (h:Same G G'):Same (noLG G) (noLG G'):=fun a o e=>by
 unfold noLG at e ⊢
 cases q:G a with
 | none=>rw [q] at e; cases e
 | some u=>rw [q] at e; rw [h a u q]; exact e
theorem noLG_sub {G:Hp}:Same (noLG G) G:=fun a o e=>by
 unfold noLG at e
 cases q:G a with
 | none=>rw [q] at e; cases e
 | some u=>
  rw [q] at e
  dsimp only at e
  cases hl:isL u
  ·rw [hl] at e; exact e
  ·rw [hl] at e; cases e
def SlR (K:Frag) (H0 G H:Hp):Sl->Option V->Prop
 | .un,_=>True
 | .val w,o=>∃ v,o=some v/\Rep K G v w
 | .par w,o=>∃ v,o=some v/\Rep K (join H0 G) v w
 | .own ws,o=>∃ a vs,o=some (.ref a)/\H a=some (.lst vs)/\G a=none/\H0 a=none/\Reps K G vs ws
 | .dic ks,o=>∃ (a:Addr) (kvs:List (List Key×V)),o=some (.ref a)/\H a=some (.dT kvs)/\G a=none/\H0 a=none/\kvs.map (·.1)=ks.map fun k=>k.map Sum.inl
 | .dik ks,o=>∃ (a:Addr) (kvs:List (Key×V)),o=some (.ref a)/\H a=some (.dK kvs)/\G a=none/\H0 a=none/\kvs.map (·.1)=ks.map Sum.inl
 | .iop p ws,o=>o=some (.ref p)/\∃ vs,H0 p=some (.lst vs)/\Reps K G vs ws
 | .hz w,o=>∃ v,o=some v/\Rep K (join H0 (noLG G)) v w
structure PIv (K:Frag) (H0 G:Hp) (ρ:Rho) (σ:St) (H:Hp):Prop where
 g0:∀ a o,H0 a=some o->isL o=false->G a=some o
 gl:∀ a o,H0 a=some o->isL o=true->G a=none
 gh:Same G H
 hh:Same H0 H
 len:ρ.length=σ.length
 sl:∀ (i:Nat) (x:Sl) (o:Option V),ρ[i]?=some x->σ[i]?=some o->SlR K H0 G H x o
 ne:∀ (i j:Nat) (ws us:List W) (a:Addr),i≠j->ρ[i]?=some (.own ws)->ρ[j]?=some (.own us)->σ[i]?=some (some (.ref a))->σ[j]?≠some (some (.ref a))
structure Ext (G H G' H':Hp):Prop where
 gg:Same G G'
 hh:Same H H'
 gh:Same G' H'
 keep:∀ a o,H a=some o->isL o=true->G a=none->G' a=none
theorem Ext.refl {G H:Hp} (h:Same G H):Ext G H G H:=⟨Same.refl G,Same.refl H,h,fun _ _ _ _ e=>e⟩
theorem Ext.trans {G H G1 H1 G2 H2:Hp} (a:Ext G H G1 H1) (b:Ext G1 H1 G2 H2):Ext G H G2 H2:=
 ⟨a.gg.trans b.gg,a.hh.trans b.hh,b.gh,fun x o h l e=>b.keep x o (a.hh x o h) l (a.keep x o h l e)⟩
section
variable {K:Frag} {H0 G H G' H':Hp} {ρ:Rho} {σ:St}
theorem join_same (h:Same G G'):Same (join H0 G) (join H0 G'):=fun a o e=>by
 unfold join at e ⊢
 cases q:H0 a with
 | none=>rw [q] at e; exact h a o e
 | some u=>
  rw [q] at e
  dsimp only at e ⊢
  by_cases hl:isL u=true
  ·rw [if_pos hl] at e ⊢; exact e
  ·rw [if_neg hl] at e ⊢; exact h a o e
theorem PIv.G_join (I:PIv K H0 G ρ σ H):Same G (join H0 G):=fun a o e=>by
 unfold join
 cases q:H0 a with
 | none=>exact e
 | some u=>
  dsimp only
  by_cases hl:isL u=true
  ·rw [I.gl a u q hl] at e; cases e
  ·rw [if_neg hl]; exact e
theorem PIv.join_H (I:PIv K H0 G ρ σ H):Same (join H0 G) H:=fun a o e=>by
 unfold join at e
 cases q:H0 a with
 | none=>rw [q] at e; exact I.gh a o e
 | some u=>
  rw [q] at e
  dsimp only at e
  by_cases hl:isL u=true
  ·rw [if_pos hl] at e; cases e; exact I.hh a _ q
  ·rw [if_neg hl] at e; exact I.gh a o e
theorem PIv.ext (I:PIv K H0 G ρ σ H) (x:Ext G H G' H'):PIv K H0 G' ρ σ H' where
 g0 a o e l:=x.gg a o (I.g0 a o e l)
 gl a o e l:=x.keep a o (I.hh a o e) l (I.gl a o e l)
 gh:=x.gh
 hh:=I.hh.trans x.hh
 len:=I.len
 sl i s o h1 h2:=by
  have:=I.sl i s o h1 h2
  cases s with
  | un=>trivial
  | val w=>obtain ⟨v,e,r⟩:=this; exact ⟨v,e,r.same x.gg⟩
  | par w=>obtain ⟨v,e,r⟩:=this; exact ⟨v,e,r.same (join_same x.gg)⟩
  | own ws=>
   obtain ⟨a,vs,e,h,g,h0,r⟩:=this
   exact ⟨a,vs,e,x.hh a _ h,x.keep a _ h rfl g,h0,r.same x.gg⟩
  | dic ks=>
   obtain ⟨a,kvs,e,h,g,h0,r⟩:=this
   exact ⟨a,kvs,e,x.hh a _ h,x.keep a _ h rfl g,h0,r⟩
  | dik ks=>
   obtain ⟨a,kvs,e,h,g,h0,r⟩:=this
   exact ⟨a,kvs,e,x.hh a _ h,x.keep a _ h rfl g,h0,r⟩
  | iop p ws=>
   obtain ⟨e,vs,h,r⟩:=this
   exact ⟨e,vs,h,r.same x.gg⟩
  | hz w=>obtain ⟨v,e,r⟩:=this; exact ⟨v,e,r.same (join_same (noLG_same x.gg))⟩
 ne:=I.ne
theorem join_noL {a:Addr} {o:HO} (h:join H0 G a=some o) (l:isL o=false):G a=some o:=by
 unfold join at h
 cases q:H0 a with
 | none=>rw [q] at h; exact h
 | some u=>
  rw [q] at h
  dsimp only at h
  by_cases hl:isL u=true
  ·rw [if_pos hl] at h; cases h; rw [hl] at l; cases l
  ·rw [if_neg hl] at h; exact h
theorem XD.clean {od:Option Addr}:∀ {i:Option Int},XD (join H0 G) od i->XD G od i
 | none,h=>h
 | some _,⟨d,h1,h2⟩=>⟨d,h1,join_noL h2 rfl⟩
theorem Rep.clean (I:PIv K H0 G ρ σ H) {v:V} {w:W} (r:Rep K (join H0 G) v w):noL w=true->Rep K G v w:=
 @Rep.rec K (join H0 G) (fun v w _=>noL w=true->Rep K G v w) (fun vs ws _=>noLs ws=true->Reps K G vs ws) (fun _=>.non) (fun _=>.bl) (fun _=>.int) (fun _=>.str) (fun _=>.ty)
  (fun h _ r n=>.tup (join_noL h rfl) (r n)) (fun _ _ _ n=>by cases n) (fun _ _ _ n=>by cases n) (fun h1 h2 h3 h4 h5 _=>.exc (join_noL h1 rfl) h2 h3 h4 (XD.clean h5)) (fun h _=>.cls h) (fun h1 h2 h3 _=>.dct (join_noL h1 rfl) h2 h3) (fun _=>.nil)
  (fun _ _ a b n=>by rw [noLs,Bool.and_eq_true] at n; exact .cons (a n.1) (b n.2)) v w r
theorem Reps.clean (I:PIv K H0 G ρ σ H) {vs:List V} {ws:List W} (r:Reps K (join H0 G) vs ws):noLs ws=true->Reps K G vs ws:=
 @Reps.rec K (join H0 G) (fun _ _ _=>True) (fun vs ws _=>noLs ws=true->Reps K G vs ws) trivial trivial trivial trivial trivial (fun _ _ _=>trivial) (fun _ _ _=>trivial) (fun _ _ _=>trivial) (fun _ _ _ _ _=>trivial) (fun _=>trivial) (fun _ _ _=>trivial) (fun _=>.nil)
  (fun h _ _ b n=>by rw [noLs,Bool.and_eq_true] at n; exact .cons (Rep.clean I h n.1) (b n.2)) vs ws r
end
structure XW where
 cls:Str
 at_:Option Int
inductive R (α:Type) where
 | ok (a:α) | ex (e:XW) | stuck
def R.bind {α β:Type} (x:R α) (f:α->R β):R β:=match x with
 | .ok a=>f a
 | .ex e=>.ex e
 | .stuck=>.stuck
instance:Monad R where
 pure:=R.ok
 bind:=R.bind
@[simp] theorem R.ok_bind {α β:Type} (a:α) (f:α->R β):((R.ok a:R α)>>=f)=f a:=rfl
@[simp] theorem R.stuck_bind {α β:Type} (f:α->R β):((R.stuck:R α)>>=f)=.stuck:=rfl
@[simp] theorem R.ex_bind {α β:Type} (e:XW) (f:α->R β):((R.ex e:R α)>>=f)=.ex e:=rfl
@[simp] theorem R.pure_eq {α:Type} (a:α):(pure a:R α)=.ok a:=rfl
inductive Mode where
 | F | V | U | C | B
def Md (K:Frag) (H0 H G' H':Hp) (v:V) (w:W):Mode->Prop
 | .V=>Rep K G' v w
 | .U=>Rep K (join H0 G') v w
 | .F=>match w with
  | .lst ws=>∃ a vs,v=.ref a/\H' a=some (.lst vs)/\G' a=none/\H a=none/\Reps K G' vs ws
  | w=>Rep K G' v w
 | .C=>Rep K G' v w\/∃ a vs ws,v=.ref a/\w=.lst ws/\H' a=some (.lst vs)/\Reps K G' vs ws
 | .B=>Rep K (join H0 G') v w\/∃ a vs ws,v=.ref a/\w=.lst ws/\H' a=some (.lst vs)/\Reps K G' vs ws
abbrev EXT:=XW->Hp->Prop
def Out {α β:Type} (EX:EXT) (G H:Hp) (md:α->β->Hp->Hp->Prop) (r:R α) (Q:β->Hp->Prop):Prop:=match r with
 | .ok w=>∀ v G' H',Ext G H G' H'->md w v G' H'->Q v H'
 | .ex e=>∀ H',Same H H'->EX e H'
 | .stuck=>False
abbrev mdW (K:Frag) (d:Mode) (H0 H:Hp):W->V->Hp->Hp->Prop:=fun w v G' H'=>Md K H0 H G' H' v w d
abbrev mdB:Bool->Bool->Hp->Hp->Prop:=fun b c _ _=>c=b
inductive MdA (K:Frag) (d:Mode) (H0 H G' H':Hp):List W->List V->Prop where
 | nil:MdA K d H0 H G' H' [] []
 | cons {w:W} {v:V} {ws:List W} {vs:List V}:Md K H0 H G' H' v w d->MdA K d H0 H G' H' ws vs->MdA K d H0 H G' H' (w::ws) (v::vs)
def MdAI (K:Frag) (d:Mode) (H0 H G' H':Hp) (vs:List V):List W->Prop
 | []=>vs = []
 | w::ws=>∃ v us,vs=v::us/\Md K H0 H G' H' v w d/\MdA K d H0 H G' H' ws us
abbrev mdA (K:Frag) (d:Mode) (H0 H:Hp):List W->List V->Hp->Hp->Prop:=fun ws vs G' H'=>MdA K d H0 H G' H' ws vs
def tM (K:Frag) (EX:EXT) (d:Mode) (m:Rho->R W):TE:=fun σ H Q=>∃ H0 G ρ,PIv K H0 G ρ σ H/\Out EX G H (mdW K d H0 H) (m ρ) Q
def tT (K:Frag) (EX:EXT) (m:Rho->R Bool):TT:=fun σ H Q=>∃ H0 G ρ,PIv K H0 G ρ σ H/\Out EX G H mdB (m ρ) Q
def tA (K:Frag) (EX:EXT) (d:Mode) (m:Rho->R (List W)):TA:=fun σ H Q=>∃ H0 G ρ,PIv K H0 G ρ σ H/\Out EX G H (mdA K d H0 H) (m ρ) Q
section
variable {K:Frag} {EX:EXT} {H0 G H G1 H1 G2 H2:Hp} {ρ:Rho} {σ:St}
theorem Out.bind {α β γ δ:Type} {md:α->β->Hp->Hp->Prop} {md':γ->δ->Hp->Hp->Prop} {m:R α} {k:α->R γ} {Q:δ->Hp->Prop} {Q1:β->Hp->Prop} (o:Out EX G H md' (m>>=k) Q)
  (h:∀ x G1 H1 w,Ext G H G1 H1->md w x G1 H1->Out EX G1 H1 md' (k w) Q->Q1 x H1):Out EX G H md m Q1:=by
 cases m with
 | ok w=>
  intro v G' H' e d
  refine h v G' H' w e d ?_
  rw [R.ok_bind] at o
  revert o
  cases k w with
  | ok u=>exact fun o v2 G2 H2 e2 d2=>o v2 G2 H2 (e.trans e2) d2
  | ex x=>exact fun o H2 s2=>o H2 (e.hh.trans s2)
  | stuck=>exact fun o=>o
 | ex x=>exact o
 | stuck=>exact o
theorem Md.start {v:V} {w:W} {d:Mode} (s:Same H H1) (h:Md K H0 H1 G2 H2 v w d):Md K H0 H G2 H2 v w d:=by
 cases d with
 | F=>
  cases w with
  | lst ws=>obtain ⟨a,vs,e,h1,h2,h3,r⟩:=h; exact ⟨a,vs,e,h1,h2,s.free h3,r⟩
  | _=>exact h
 | _=>exact h
theorem Md.move {v:V} {w:W} {d:Mode} (x:Ext G1 H1 G2 H2) (h:Md K H0 H G1 H1 v w d):Md K H0 H G2 H2 v w d:=by
 cases d with
 | V=>exact Rep.same x.gg h
 | U=>exact Rep.same (join_same x.gg) h
 | F=>
  cases w with
  | lst ws=>obtain ⟨a,vs,e,h1,h2,h3,r⟩:=h; exact ⟨a,vs,e,x.hh _ _ h1,x.keep _ _ h1 rfl h2,h3,r.same x.gg⟩
  | non=>exact Rep.same x.gg h
  | bl _=>exact Rep.same x.gg h
  | int _=>exact Rep.same x.gg h
  | str _=>exact Rep.same x.gg h
  | ty _=>exact Rep.same x.gg h
  | tup _=>exact Rep.same x.gg h
  | scr _=>exact Rep.same x.gg h
  | exc _ _=>exact Rep.same x.gg h
  | cls _=>exact Rep.same x.gg h
 | C=>
  rcases h with h | ⟨a,vs,ws,e,e2,h1,r⟩
  ·exact .inl (h.same x.gg)
  ·exact .inr ⟨a,vs,ws,e,e2,x.hh _ _ h1,r.same x.gg⟩
 | B=>
  rcases h with h | ⟨a,vs,ws,e,e2,h1,r⟩
  ·exact .inl (h.same (join_same x.gg))
  ·exact .inr ⟨a,vs,ws,e,e2,x.hh _ _ h1,r.same x.gg⟩
theorem Md.CB {v:V} {w:W} (I:PIv K H0 G1 ρ σ H1) (h:Md K H0 H G1 H1 v w .C):Md K H0 H G1 H1 v w .B:=by
 rcases h with h | h
 ·exact .inl (h.same I.G_join)
 ·exact .inr h
def sca:W->Bool
 | .tup _=>false
 | .scr _=>false
 | .lst _=>false
 | _=>true
theorem Md.sca {v:V} {w:W} (hs:sca w=true) (r:∀ F,Rep K F v w) (d:Mode):Md K H0 H G1 H1 v w d:=by
 cases d with
 | V=>exact r _
 | U=>exact r _
 | C=>exact .inl (r _)
 | B=>exact .inl (r _)
 | F=>cases w <;> first | exact r _ | cases hs
theorem Md.repB {v:V} {w:W} (h:Md K H0 H G1 H1 v w .B) (n:∀ us,w≠.lst us):Rep K (join H0 G1) v w:=Or.elim h id fun zz80=>by obtain ⟨_,_,us,_,e,_⟩:=zz80; exact absurd e (n us)
theorem Md.repC {v:V} {w:W} (h:Md K H0 H G1 H1 v w .C) (n:∀ us,w≠.lst us):Rep K G1 v w:=Or.elim h id fun zz81=>by obtain ⟨_,_,us,_,e,_⟩:=zz81; exact absurd e (n us)
theorem Md.lstB {v:V} {ws:List W} (I:PIv K H0 G1 ρ σ H1) (h:Md K H0 H G1 H1 v (.lst ws) .B):∃ a vs,v=.ref a/\H1 a=some (.lst vs)/\Reps K (join H0 G1) vs ws:=by
 rcases h with h | ⟨a,vs,us,e,e2,h1,r⟩
 ·obtain ⟨a,vs,e,s,r⟩:=h.inv; exact ⟨a,vs,e,I.join_H _ _ s,r⟩
 ·rw [W.lst.inj e2]; exact ⟨a,vs,e,h1,r.same I.G_join⟩
theorem Md.scrB {v:V} {ws:List W} (I:PIv K H0 G1 ρ σ H1) (h:Md K H0 H G1 H1 v (.scr ws) .B):∃ a vs,v=.ref a/\SqL K H1 a vs/\Reps K (join H0 G1) vs ws:=by
 obtain ⟨a,vs,e,s,r⟩:=(h.repB fun _=>W.noConfusion).inv; exact ⟨a,vs,e,Same.seq I.join_H s,r⟩
theorem Md.lstC {v:V} {ws:List W} (I:PIv K H0 G1 ρ σ H1) (h:Md K H0 H G1 H1 v (.lst ws) .C):∃ a vs,v=.ref a/\H1 a=some (.lst vs)/\Reps K G1 vs ws:=by
 rcases h with h | ⟨a,vs,us,e,e2,h1,r⟩
 ·obtain ⟨a,vs,e,s,r⟩:=h.inv; exact ⟨a,vs,e,I.gh _ _ s,r⟩
 ·rw [W.lst.inj e2]; exact ⟨a,vs,e,h1,r⟩
theorem Md.tupB {v:V} {ws:List W} (I:PIv K H0 G1 ρ σ H1) (h:Md K H0 H G1 H1 v (.tup ws) .B):∃ a vs,v=.ref a/\H1 a=some (.tup vs)/\Reps K (join H0 G1) vs ws:=by
 obtain ⟨a,vs,e,s,r⟩:=(h.repB fun _=>W.noConfusion).inv; exact ⟨a,vs,e,I.join_H _ _ s,r⟩
theorem Md.tupC {v:V} {ws:List W} (I:PIv K H0 G1 ρ σ H1) (h:Md K H0 H G1 H1 v (.tup ws) .C):∃ a vs,v=.ref a/\H1 a=some (.tup vs)/\Reps K G1 vs ws:=by
 obtain ⟨a,vs,e,s,r⟩:=(h.repC fun _=>W.noConfusion).inv; exact ⟨a,vs,e,I.gh _ _ s,r⟩
theorem Md.intB {v:V} {i:Int} (h:Md K H0 H G1 H1 v (.int i) .B):v=.int i:=(h.repB fun _=>W.noConfusion).inv
theorem Md.blB {v:V} {i:Bool} (h:Md K H0 H G1 H1 v (.bl i) .B):v=.bl i:=(h.repB fun _=>W.noConfusion).inv
theorem Md.strB {v:V} {i:Str} (h:Md K H0 H G1 H1 v (.str i) .B):v=.str i:=(h.repB fun _=>W.noConfusion).inv
theorem Md.nonB {v:V} (h:Md K H0 H G1 H1 v .non .B):v=.non:=(h.repB fun _=>W.noConfusion).inv
theorem Md.tyB {v:V} {n:String} (h:Md K H0 H G1 H1 v (.ty n) .B):v=.ty n:=(h.repB fun _=>W.noConfusion).inv
theorem mode_FV {m:Rho->R W} {Q:VK} (h:tM K EX .V m σ H Q):tM K EX .F m σ H Q:=by
 obtain ⟨H0,G,ρ,I,o⟩:=h
 refine ⟨H0,G,ρ,I,?_⟩
 revert o
 cases m ρ with
 | ex e=>exact id
 | stuck=>exact id
 | ok w=>
  intro o v G' H' e d
  cases w with
  | lst ws=>
   obtain ⟨a,vs,rfl,h1,h2,h3,r⟩:=d
   have s1:Same G' (upd G' a (.lst vs)):=fun b o q=>by rw [upd_ne (ne_of_none q h2)]; exact q
   refine o _ (upd G' a (.lst vs)) H' ⟨e.gg.trans s1,e.hh,fun b o q=>?_,fun b o q l g=>?_⟩ (.lst upd_same (r.same s1))
   ·by_cases hb:b=a
    ·subst hb; rw [upd_same] at q; cases q; exact h1
    ·rw [upd_ne hb] at q; exact e.gh b o q
   ·rw [upd_ne (ne_of_none q h3)]; exact e.keep b o q l g
  | _=>exact o v G' H' e d
theorem mode_VU {m:Rho->R W} {Q:VK} (h:tM K EX .U m σ H Q):tM K EX .V m σ H Q:=by
 obtain ⟨H0,G,ρ,I,o⟩:=h
 refine ⟨H0,G,ρ,I,?_⟩
 revert o
 cases m ρ with
 | ex e=>exact id
 | stuck=>exact id
 | ok w=>exact fun o v G' H' e d=>o v G' H' e (Rep.same (I.ext e).G_join d)
theorem mode_VC {m:Rho->R W} {Q:VK} (h:tM K EX .C m σ H Q):tM K EX .V m σ H Q:=by
 obtain ⟨H0,G,ρ,I,o⟩:=h
 refine ⟨H0,G,ρ,I,?_⟩
 revert o
 cases m ρ with
 | ex e=>exact id
 | stuck=>exact id
 | ok w=>exact fun o v G' H' e d=>o v G' H' e (.inl d)
theorem mode_UB {m:Rho->R W} {Q:VK} (h:tM K EX .B m σ H Q):tM K EX .U m σ H Q:=by
 obtain ⟨H0,G,ρ,I,o⟩:=h
 refine ⟨H0,G,ρ,I,?_⟩
 revert o
 cases m ρ with
 | ex e=>exact id
 | stuck=>exact id
 | ok w=>exact fun o v G' H' e d=>o v G' H' e (.inl d)
theorem mode_CB {m:Rho->R W} {Q:VK} (h:tM K EX .B m σ H Q):tM K EX .C m σ H Q:=by
 obtain ⟨H0,G,ρ,I,o⟩:=h
 refine ⟨H0,G,ρ,I,?_⟩
 revert o
 cases m ρ with
 | ex e=>exact id
 | stuck=>exact id
 | ok w=>exact fun o v G' H' e d=>o v G' H' e (Md.CB (H:=H) (I.ext e) d)
theorem mode_FC {m:Rho->R W} {Q:VK} (h:tM K EX .C m σ H Q):tM K EX .F m σ H Q:=by
 obtain ⟨H0,G,ρ,I,o⟩:=h
 refine ⟨H0,G,ρ,I,?_⟩
 revert o
 cases m ρ with
 | ex e=>exact id
 | stuck=>exact id
 | ok w=>
  intro o v G' H' e d
  cases w with
  | lst ws=>obtain ⟨a,vs,rfl,h1,h2,h3,r⟩:=d; exact o _ G' H' e (.inr ⟨a,vs,ws,rfl,rfl,h1,r⟩)
  | _=>exact o v G' H' e (.inl d)
def chk (w:W):R W:=if noL w then .ok w else .stuck
theorem noL_F {v:V} {w:W} (n:noL w=true) (r:Rep K G1 v w):Md K H0 H G1 H1 v w .F:=by
 cases w with
 | lst ws=>cases n
 | _=>exact r
theorem mode_chk {m:Rho->R W} {Q:VK} {d:Mode} (hd:d=.F\/d=.V) (h:tM K EX d (fun ρ=>m ρ>>=chk) σ H Q):tM K EX .U m σ H Q:=by
 obtain ⟨H0,G,ρ,I,o⟩:=h
 refine ⟨H0,G,ρ,I,Out.bind o fun x G1 H1 w e m1 o1=>?_⟩
 unfold chk at o1
 by_cases n:noL w=true
 ·rw [if_pos n] at o1
  have r:=Rep.clean (I.ext e) m1 n
  refine o1 x G1 H1 (Ext.refl e.gh) ?_
  rcases hd with rfl | rfl
  ·exact noL_F n r
  ·exact r
 ·rw [if_neg n] at o1; exact o1.elim
end
end TP
namespace TP
open PySem L2
section
variable {K:Frag} {EX:EXT} {H0 G H G1 H1 G2 H2:Hp} {ρ:Rho} {σ:St} {d:Mode} {Q:VK}
theorem c_const {v:V} {w:W} (hs:sca w=true) (r:∀ F,Rep K F v w) (h:tM K EX d (fun _=>.ok w) σ H Q):tC v σ H Q:=by
 obtain ⟨H0,G,ρ,I,o⟩:=h
 exact o v G H (Ext.refl I.gh) (Md.sca hs r d)
def mVar (d:Mode) (i:Nat):Rho->R W:=fun ρ=>match ρ[i]? with
 | some (.val w)=>(match d with | .F=>chk w | _=>.ok w)
 | some (.par w)=>(match d with | .F=>chk w | .V=>chk w | .C=>chk w | _=>.ok w)
 | some (.own ws)=>(match d with | .C=>.ok (.lst ws) | .B=>.ok (.lst ws) | _=>.stuck)
 | some (.iop _ ws)=>(match d with | .B=>.ok (.lst ws) | .U=>.ok (.lst ws) | _=>.stuck)
 | some (.hz w)=>(match d with | .B=>.ok w | .U=>.ok w | _=>.stuck)
 | _=>.stuck
theorem Out.chk {α:Type} {v:V} {w:W} {md:W->α->Hp->Hp->Prop} {Q:α->Hp->Prop} (o:Out EX G H md (chk w) Q):noL w=true/\Out EX G H md (.ok w) Q:=by
 unfold TP.chk at o
 by_cases n:noL w=true
 ·rw [if_pos n] at o; exact ⟨n,o⟩
 ·rw [if_neg n] at o; exact o.elim
theorem c_var {i:Nat} (h:tM K EX d (mVar d i) σ H Q):tVar i σ H Q:=by
 obtain ⟨H0,G,ρ,I,o⟩:=h
 unfold mVar at o
 cases e:ρ[i]? with
 | none=>rw [e] at o; exact o.elim
 | some s=>
  rw [e] at o
  have hi:i<σ.length:=by rw [<- I.len]; exact (List.getElem?_eq_some_iff.mp e).1
  have es:σ[i]?=some σ[i]:=by simp
  have r:=I.sl i s _ e es
  cases s with
  | un=>exact o.elim
  | val w=>
   obtain ⟨v,ev,r⟩:=r
   refine ⟨v,by rw [es,ev],?_⟩
   cases d with
   | F=>obtain ⟨n,o⟩:=Out.chk (v:=v) o; exact o v G H (Ext.refl I.gh) (noL_F n r)
   | V=>exact o v G H (Ext.refl I.gh) r
   | U=>exact o v G H (Ext.refl I.gh) (r.same I.G_join)
   | C=>exact o v G H (Ext.refl I.gh) (.inl r)
   | B=>exact o v G H (Ext.refl I.gh) (.inl (r.same I.G_join))
  | par w=>
   obtain ⟨v,ev,r⟩:=r
   refine ⟨v,by rw [es,ev],?_⟩
   cases d with
   | F=>obtain ⟨n,o⟩:=Out.chk (v:=v) o; exact o v G H (Ext.refl I.gh) (noL_F n (Rep.clean I r n))
   | V=>obtain ⟨n,o⟩:=Out.chk (v:=v) o; exact o v G H (Ext.refl I.gh) (Rep.clean I r n)
   | U=>exact o v G H (Ext.refl I.gh) r
   | C=>obtain ⟨n,o⟩:=Out.chk (v:=v) o; exact o v G H (Ext.refl I.gh) (.inl (Rep.clean I r n))
   | B=>exact o v G H (Ext.refl I.gh) (.inl r)
  | own ws=>
   obtain ⟨a,vs,ev,ha,hg,h0,r⟩:=r
   refine ⟨.ref a,by rw [es,ev],?_⟩
   cases d with
   | F=>exact o.elim
   | V=>exact o.elim
   | U=>exact o.elim
   | C=>exact o _ G H (Ext.refl I.gh) (.inr ⟨a,vs,ws,rfl,rfl,ha,r⟩)
   | B=>exact o _ G H (Ext.refl I.gh) (.inr ⟨a,vs,ws,rfl,rfl,ha,r⟩)
  | dic ks=>exact o.elim
  | dik ks=>exact o.elim
  | hz w=>
   obtain ⟨v,ev,r⟩:=r
   refine ⟨v,by rw [es,ev],?_⟩
   have rj:=r.same (join_same (H0:=H0) (noLG_sub (G:=G)))
   cases d with
   | F=>exact o.elim
   | V=>exact o.elim
   | C=>exact o.elim
   | U=>exact o v G H (Ext.refl I.gh) rj
   | B=>exact o v G H (Ext.refl I.gh) (.inl rj)
  | iop p ws=>
   obtain ⟨ev,vs,h0,r⟩:=r
   refine ⟨.ref p,by rw [es,ev],?_⟩
   have rj:Rep K (join H0 G) (.ref p) (.lst ws):=by
    refine .lst (vs:=vs) ?_ (r.same I.G_join)
    unfold join
    rw [h0]; rfl
   cases d with
   | F=>exact o.elim
   | V=>exact o.elim
   | U=>exact o _ G H (Ext.refl I.gh) rj
   | C=>exact o.elim
   | B=>exact o _ G H (Ext.refl I.gh) (.inl rj)
def Op2 (K:Frag) (b d:Mode) (r:R2) (f:W->W->R W):Prop:=∀ (EX:EXT) (H0 Hs G H:Hp) (ρ:Rho) (σ:St) (Ha Hb:Hp) (x y:V) (u v:W) (Q:VK),PIv K H0 G ρ σ H->Same Hs H->Md K H0 Ha G H x u b->Md K H0 Hb G H y v b ->
 Out EX G H (mdW K d H0 Hs) (f u v) Q->r x y H Q
theorem c_op {b:Mode} {r:R2} {f:W->W->R W} {ma mb:Rho->R W} (hr:Op2 K b d r f) (h:tM K EX d (fun ρ=>ma ρ>>=fun x=>mb ρ>>=fun y=>f x y) σ H Q):tOp r (tM K EX b ma) (tM K EX b mb) σ H Q:=by
 obtain ⟨H0,G,ρ,I,o⟩:=h
 refine ⟨H0,G,ρ,I,Out.bind o fun x G1 H1 u e1 m1 o1=>⟨H0,G1,ρ,I.ext e1,Out.bind o1 fun y G2 H2 v e2 m2 o2=>?_⟩⟩
 exact hr EX H0 H G2 H2 ρ σ H H1 x y u v Q ((I.ext e1).ext e2) (e1.hh.trans e2.hh) (m1.move e2) m2 o2
def Op1 (K:Frag) (b d:Mode) (r:V->Hp->VK->Prop) (f:W->R W):Prop:=∀ (EX:EXT) (H0 Hs G H:Hp) (ρ:Rho) (σ:St) (Ha:Hp) (x:V) (u:W) (Q:VK),PIv K H0 G ρ σ H->Same Hs H->Md K H0 Ha G H x u b ->
 Out EX G H (mdW K d H0 Hs) (f u) Q->r x H Q
theorem c_un {b:Mode} {r:V->Hp->VK->Prop} {f:W->R W} {ma:Rho->R W} (hr:Op1 K b d r f) (h:tM K EX d (fun ρ=>ma ρ>>=fun x=>f x) σ H Q):tUn r (tM K EX b ma) σ H Q:=by
 obtain ⟨H0,G,ρ,I,o⟩:=h
 exact ⟨H0,G,ρ,I,Out.bind o fun x G1 H1 u e1 m1 o1=>hr EX H0 H G1 H1 ρ σ H x u Q (I.ext e1) e1.hh m1 o1⟩
def fI (C:Int->Int->Prop) [∀ i j,Decidable (C i j)] (g:Int->Int->W):W->W->R W
 | .int i,.int j=>if C i j then .ok (g i j) else .stuck
 | _,_=>.stuck
def fI0 (g:Int->Int->W):W->W->R W
 | .int i,.int j=>.ok (g i j)
 | _,_=>.stuck
theorem o2_I {C:Int->Int->Prop} [∀ i j,Decidable (C i j)] {g:Int->Int->W} {gv:Int->Int->V} (hs:∀ i j,sca (g i j)=true) (hg:∀ i j F,Rep K F (gv i j) (g i j)):Op2 K .B d (rI C gv) (fI C g):=by
 intro EX H0 Hs G H ρ σ Ha Hb x y u v Q I s mx my o
 cases u <;> first | exact o.elim | skip
 all_goals (cases v <;> first | exact o.elim | skip)
 rename_i i j
 have o':Out EX G H (mdW K d H0 Hs) (if C i j then R.ok (g i j) else .stuck) Q:=o
 by_cases c:C i j
 ·rw [if_pos c] at o'
  exact ⟨i,j,mx.intB,my.intB,c,o' _ G H (Ext.refl I.gh) (Md.sca (hs i j) (hg i j) d)⟩
 ·rw [if_neg c] at o'; exact o'.elim
theorem o2_I0 {g:Int->Int->W} {gv:Int->Int->V} (hs:∀ i j,sca (g i j)=true) (hg:∀ i j F,Rep K F (gv i j) (g i j)):Op2 K .B d (rI0 gv) (fI0 g):=by
 intro EX H0 Hs G H ρ σ Ha Hb x y u v Q I s mx my o
 cases u <;> first | exact o.elim | skip
 all_goals (cases v <;> first | exact o.elim | skip)
 rename_i i j
 exact ⟨i,j,mx.intB,my.intB,o _ G H (Ext.refl I.gh) (Md.sca (hs i j) (hg i j) d)⟩
def fU (g:Int->W):W->R W
 | .int i=>.ok (g i)
 | _=>.stuck
theorem o1_U {g:Int->W} {gv:Int->V} (hs:∀ i,sca (g i)=true) (hg:∀ i F,Rep K F (gv i) (g i)):Op1 K .B d (rU gv) (fU g):=by
 intro EX H0 Hs G H ρ σ Ha x u Q I s mx o
 cases u <;> first | exact o.elim | skip
 rename_i i
 exact ⟨i,mx.intB,o _ G H (Ext.refl I.gh) (Md.sca (hs i) (hg i) d)⟩
def isN:W->Bool
 | .non=>true
 | _=>false
def fIsN (neg:Bool):W->W->R W
 | u,.non=>.ok (.bl (if neg then !isN u else isN u))
 | _,_=>.stuck
theorem isN_of {b:Mode} (hb:b=.B\/b=.U\/b=.V\/b=.C) {v:V} {w:W} {Hs:Hp} (h:Md K H0 Hs G1 H1 v w b):decide (v=.non)=isN w:=by
 have key:∀ F,Rep K F v w->decide (v=.non)=isN w:=fun F r=>by
  cases r <;> first | rfl | (apply decide_eq_false; intro z; cases z)
 rcases hb with rfl | rfl | rfl | rfl
 ·rcases h with h | ⟨a,vs,ws,rfl,rfl,_⟩
  ·exact key _ h
  ·apply decide_eq_false; intro z; cases z
 ·exact key _ h
 ·exact key _ h
 ·rcases h with h | ⟨a,vs,ws,rfl,rfl,_⟩
  ·exact key _ h
  ·apply decide_eq_false; intro z; cases z
theorem o2_notN:Op2 K .B d (fun x y H Q=>y=.non/\Q (.bl (!decide (x=.non))) H) (fIsN true):=by
 intro EX H0 Hs G H ρ σ Ha Hb x y u v Q I s mx my o
 cases v <;> first | exact o.elim | skip
 refine ⟨my.nonB,?_⟩
 rw [isN_of (.inl rfl) mx]
 exact o _ G H (Ext.refl I.gh) (Md.sca rfl (fun _=>.bl) d)
def toB:W->R Bool
 | .bl b=>.ok b
 | _=>.stuck
theorem c_test {ma:Rho->R W} {Q:Bool->Hp->Prop} (h:tT K EX (fun ρ=>ma ρ>>=toB) σ H Q):tTest (tM K EX .B ma) σ H Q:=by
 obtain ⟨H0,G,ρ,I,o⟩:=h
 refine ⟨H0,G,ρ,I,Out.bind o fun x G1 H1 u e1 m1 o1=>?_⟩
 cases u <;> first | exact o1.elim | skip
 rename_i b
 exact ⟨b,m1.blB,o1 b G1 H1 (Ext.refl e1.gh) rfl⟩
theorem c_tB {ma:Rho->R W} {Q:Bool->Hp->Prop} (h:tT K EX (fun ρ=>ma ρ>>=toB) σ H Q):tB (tM K EX .B ma) σ H Q:=c_test h
def rAnd (a b:R Bool):R Bool:=a>>=fun c=>if c then b else .ok false
def rOr (a b:R Bool):R Bool:=a>>=fun c=>if c then .ok true else b
def rNot (a:R Bool):R Bool:=a>>=fun c=>.ok (!c)
theorem c_or {ma mb:Rho->R Bool} {Q:Bool->Hp->Prop} (h:tT K EX (fun ρ=>rOr (ma ρ) (mb ρ)) σ H Q):tOr (tT K EX ma) (tT K EX mb) σ H Q:=by
 obtain ⟨H0,G,ρ,I,o⟩:=h
 refine ⟨H0,G,ρ,I,Out.bind o fun x G1 H1 u e1 m1 o1=>?_⟩
 cases m1
 cases x with
 | true=>exact o1 true G1 H1 (Ext.refl e1.gh) rfl
 | false=>exact ⟨H0,G1,ρ,I.ext e1,o1⟩
theorem c_not {ma:Rho->R Bool} {Q:Bool->Hp->Prop} (h:tT K EX (fun ρ=>rNot (ma ρ)) σ H Q):tNot (tT K EX ma) σ H Q:=by
 obtain ⟨H0,G,ρ,I,o⟩:=h
 refine ⟨H0,G,ρ,I,Out.bind o fun x G1 H1 u e1 m1 o1=>?_⟩
 cases m1
 exact o1 _ G1 H1 (Ext.refl e1.gh) rfl
def rAndV (a b:R W):R W:=a>>=fun x=>toB x>>=fun c=>if c then b else .ok (.bl false)
def rOrV (a b:R W):R W:=a>>=fun x=>toB x>>=fun c=>if c then .ok (.bl true) else b
def rNotV (a:R W):R W:=a>>=fun x=>toB x>>=fun c=>.ok (.bl (!c))
theorem c_andV {ma mb:Rho->R W} (h:tM K EX d (fun ρ=>rAndV (ma ρ) (mb ρ)) σ H Q):tAndV (tM K EX .B ma) (tM K EX d mb) σ H Q:=by
 obtain ⟨H0,G,ρ,I,o⟩:=h
 refine ⟨H0,G,ρ,I,Out.bind o fun x G1 H1 u e1 m1 o1=>?_⟩
 cases u <;> first | exact o1.elim | skip
 rename_i b
 refine ⟨b,m1.blB,?_⟩
 cases b with
 | true=>
  rw [if_pos rfl]
  refine ⟨H0,G1,ρ,I.ext e1,?_⟩
  have o2:Out EX G1 H1 (mdW K d H0 H) (mb ρ) Q:=o1
  revert o2
  cases mb ρ with
  | ok w=>exact fun o2 v G2 H2 e2 m2=>o2 v G2 H2 e2 (m2.start e1.hh)
  | ex _=>exact id
  | stuck=>exact id
 | false=>
  rw [if_neg Bool.false_ne_true]
  exact o1 _ G1 H1 (Ext.refl e1.gh) (Md.sca rfl (fun _=>.bl) d)
theorem c_notV {ma:Rho->R W} (h:tM K EX d (fun ρ=>rNotV (ma ρ)) σ H Q):tNotV (tM K EX .B ma) σ H Q:=by
 obtain ⟨H0,G,ρ,I,o⟩:=h
 refine ⟨H0,G,ρ,I,Out.bind o fun x G1 H1 u e1 m1 o1=>?_⟩
 cases u <;> first | exact o1.elim | skip
 rename_i b
 exact ⟨b,m1.blB,o1 _ G1 H1 (Ext.refl e1.gh) (Md.sca rfl (fun _=>.bl) d)⟩
theorem c_chain {b:Mode} {r r':R2} {f f':W->W->R W} {ma mb mc:Rho->R W} (hr:Op2 K b .B r f) (hr':Op2 K b d r' f')
  (h:tM K EX d (fun ρ=>ma ρ>>=fun x=>mb ρ>>=fun y=>f x y>>=fun z=>toB z>>=fun c=>if c then mc ρ>>=fun u=>f' y u else .ok (.bl false)) σ H Q) :
  (fun σ H Q=>tM K EX b ma σ H fun x H1=>tM K EX b mb σ H1 fun y H2=>r x y H2 fun z H3=>∃ k,z=.bl k/\if k=true then tM K EX b mc σ H3 fun u H4=>r' y u H4 Q else Q (.bl false) H3) σ H Q:=by
 obtain ⟨H0,G,ρ,I,o⟩:=h
 refine ⟨H0,G,ρ,I,Out.bind o fun x G1 H1 u e1 m1 o1=>⟨H0,G1,ρ,I.ext e1,Out.bind o1 fun y G2 H2 v e2 m2 o2=>?_⟩⟩
 have I2:=(I.ext e1).ext e2
 refine hr EX H0 H G2 H2 ρ σ H H1 x y u v _ I2 (e1.hh.trans e2.hh) (m1.move e2) m2 (Out.bind o2 fun z G3 H3 wz e3 m3 o3=>?_)
 cases wz <;> first | exact o3.elim | skip
 rename_i k
 refine ⟨k,m3.blB,?_⟩
 cases k with
 | true=>
  rw [if_pos rfl]
  refine ⟨H0,G3,ρ,I2.ext e3,Out.bind (k:=fun u=>f' v u) o3 fun t G4 H4 wt e4 m4 o4=>?_⟩
  exact hr' EX H0 H G4 H4 ρ σ H1 H3 y t v wt Q ((I2.ext e3).ext e4) (((e1.hh.trans e2.hh).trans e3.hh).trans e4.hh) ((m2.move e3).move e4) m4 o4
 | false=>
  rw [if_neg Bool.false_ne_true]
  exact o3 _ G3 H3 (Ext.refl e3.gh) (Md.sca rfl (fun _=>.bl) d)
theorem c_nil {QA:List V->Hp->Prop} (h:tA K EX d (fun _=>.ok []) σ H QA):tNil σ H QA:=by
 obtain ⟨H0,G,ρ,I,o⟩:=h
 exact o [] G H (Ext.refl I.gh) .nil
theorem c_cons {ma:Rho->R W} {mr:Rho->R (List W)} {QA:List V->Hp->Prop} (h:tA K EX d (fun ρ=>ma ρ>>=fun x=>mr ρ>>=fun xs=>.ok (x::xs)) σ H QA):tCons (tM K EX d ma) (tA K EX d mr) σ H QA:=by
 obtain ⟨H0,G,ρ,I,o⟩:=h
 refine ⟨H0,G,ρ,I,Out.bind o fun x G1 H1 u e1 m1 o1=>⟨H0,G1,ρ,I.ext e1,Out.bind o1 fun xs G2 H2 us e2 m2 o2=>?_⟩⟩
 refine o2 (x::xs) G2 H2 (Ext.refl e2.gh) (.cons (m1.move e2) ?_)
 have go:∀ {ws:List W} {vs:List V},MdA K d H0 H1 G2 H2 ws vs->MdA K d H0 H G2 H2 ws vs:=fun {ws vs} q=>by
  induction q with
  | nil=>exact .nil
  | cons a _ ih=>exact .cons (a.start e1.hh) ih
 exact go m2
theorem MdA.reps {ws:List W} {vs:List V} (h:MdA K .V H0 H G1 H1 ws vs):Reps K G1 vs ws:=
 @MdA.rec K .V H0 H G1 H1 (fun ws vs _=>Reps K G1 vs ws) .nil (fun h _ b=>.cons h b) ws vs h
theorem MdA.repsU {ws:List W} {vs:List V} (h:MdA K .U H0 H G1 H1 ws vs):Reps K (join H0 G1) vs ws:=
 @MdA.rec K .U H0 H G1 H1 (fun ws vs _=>Reps K (join H0 G1) vs ws) .nil (fun h _ b=>.cons h b) ws vs h
theorem new_ext {p:Addr} {o:HO} (hG:Same G H) (hp:H p=none):Ext G H G (upd H p o):=
 ⟨Same.refl G,fun b u q=>by rw [upd_ne (ne_of_none q hp)]; exact q,fun b u q=>by rw [upd_ne (ne_of_none (hG b u q) hp)]; exact hG b u q,fun _ _ _ _ e=>e⟩
theorem new_extG {p:Addr} {o:HO} (hG:Same G H) (hp:H p=none):Ext G H (upd G p o) (upd H p o):=by
 have gp:G p=none:=hG.free hp
 refine ⟨fun b u q=>by rw [upd_ne (ne_of_none q gp)]; exact q,fun b u q=>by rw [upd_ne (ne_of_none q hp)]; exact q,fun b u q=>?_,fun b u q l g=>?_⟩
 ·by_cases hb:b=p
  ·subst hb; rw [upd_same] at q ⊢; exact q
  ·rw [upd_ne hb] at q ⊢; exact hG b u q
 ·rw [upd_ne (ne_of_none q hp)]; exact g
theorem Out.newL {p:Addr} {vs:List V} {ws:List W} {Hs:Hp} (I:PIv K H0 G ρ σ H) (s:Same Hs H) (r:Reps K G vs ws) (hp:H p=none) (o:Out EX G H (mdW K .F H0 Hs) (.ok (.lst ws)) Q):Q (.ref p) (upd H p (.lst vs)):=
 o _ G _ (new_ext I.gh hp) ⟨p,vs,rfl,upd_same,I.gh.free hp,s.free hp,r⟩
theorem Out.newTF {p:Addr} {vs:List V} {ws:List W} {Hs:Hp} (I:PIv K H0 G ρ σ H) (r:Reps K G vs ws) (hp:H p=none) (o:Out EX G H (mdW K .F H0 Hs) (.ok (.tup ws)) Q):Q (.ref p) (upd H p (.tup vs)):=
 o _ (upd G p (.tup vs)) _ (new_extG I.gh hp) (.tup upd_same (r.same fun b u q=>by rw [upd_ne (ne_of_none q (I.gh.free hp))]; exact q))
def lim (n:Nat) (w:W):R W:=if n<=1000 then .ok w else .stuck
theorem Out.lim {α:Type} {n:Nat} {w:W} {md:W->α->Hp->Hp->Prop} {Q:α->Hp->Prop} (o:Out EX G H md (lim n w) Q):n<=1000/\Out EX G H md (.ok w) Q:=by
 unfold TP.lim at o
 by_cases n:n<=1000
 ·rw [if_pos n] at o; exact ⟨n,o⟩
 ·rw [if_neg n] at o; exact o.elim
theorem le_line {n:Nat} (h:n<=1000):n<=sizeLine:=Nat.le_trans h (by decide)
theorem c_tup {ma:Rho->R (List W)} (h:tM K EX .F (fun ρ=>ma ρ>>=fun ws=>lim ws.length (.tup ws)) σ H Q):tTup (tA K EX .V ma) σ H Q:=by
 obtain ⟨H0,G,ρ,I,o⟩:=h
 refine ⟨H0,G,ρ,I,Out.bind o fun xs G1 H1 ws e1 m1 o1=>?_⟩
 obtain ⟨hl,o2⟩:=Out.lim o1
 have r:=MdA.reps m1
 exact ⟨by rw [r.length]; exact le_line hl,fun p hp=>Out.newTF (I.ext e1) r hp o2⟩
theorem c_lst {ma:Rho->R (List W)} (h:tM K EX .F (fun ρ=>ma ρ>>=fun ws=>lim ws.length (.lst ws)) σ H Q):tLst (tA K EX .V ma) σ H Q:=by
 obtain ⟨H0,G,ρ,I,o⟩:=h
 refine ⟨H0,G,ρ,I,Out.bind o fun xs G1 H1 ws e1 m1 o1=>?_⟩
 obtain ⟨hl,o2⟩:=Out.lim o1
 have r:=MdA.reps m1
 exact ⟨by rw [r.length]; exact le_line hl,fun p hp=>Out.newL (I.ext e1) e1.hh r hp o2⟩
theorem join_upd {p:Addr} {o:HO} (h:H0 p=none):join H0 (upd G p o)=upd (join H0 G) p o:=by
 funext b
 by_cases hb:b=p
 ·subst hb; unfold join; rw [h]; dsimp only; rw [upd_same,upd_same]
 ·rw [upd_ne hb]; unfold join; cases H0 b with
  | none=>dsimp only; rw [upd_ne hb]
  | some u=>dsimp only; rw [upd_ne hb]
theorem c_tupU {ma:Rho->R (List W)} (h:tM K EX .U (fun ρ=>ma ρ>>=fun ws=>lim ws.length (.tup ws)) σ H Q):tTup (tA K EX .U ma) σ H Q:=by
 obtain ⟨H0,G,ρ,I,o⟩:=h
 refine ⟨H0,G,ρ,I,Out.bind o fun xs G1 H1 ws e1 m1 o1=>?_⟩
 obtain ⟨hl,o2⟩:=Out.lim o1
 have r:=MdA.repsU m1
 have I1:=I.ext e1
 refine ⟨by rw [r.length]; exact le_line hl,fun p hp=>o2 _ (upd G1 p (.tup xs)) _ (new_extG I1.gh hp) ?_⟩
 show Rep K (join H0 (upd G1 p (.tup xs))) _ _
 rw [join_upd (I1.hh.free hp)]
 exact .tup upd_same (r.same fun b u q=>by rw [upd_ne (ne_of_none (I1.join_H b u q) hp)]; exact q)
end
end TP
namespace TP
open PySem L2
inductive Fl where
 | nx (ρ:Rho) | rt (w:W) | bk (ρ:Rho) | ct (ρ:Rho)
def OutS (K:Frag) (EX:EXT) (d:Mode) (H0 G:Hp) (r:R Fl) (D:Ends):Prop:=match r with
 | .ok (.nx ρ)=>∀ G' σ' H',Same G G'->PIv K H0 G' ρ σ' H'->D.nx σ' H'
 | .ok (.bk ρ)=>∀ G' σ' H',Same G G'->PIv K H0 G' ρ σ' H'->D.bk σ' H'
 | .ok (.ct ρ)=>∀ G' σ' H',Same G G'->PIv K H0 G' ρ σ' H'->D.ct σ' H'
 | .ok (.rt w)=>∀ v G' H',Same G G'->Same G' H'->Same H0 H'->(∀ a o,H0 a=some o->isL o=true->G' a=none)->Md K H0 H0 G' H' v w d->D.rt v H'
 | .ex e=>∀ H',Same H0 H'->EX e H'
 | .stuck=>False
def tSt (K:Frag) (EX:EXT) (d:Mode) (m:Rho->R Fl):TS:=fun D σ H=>∃ H0 G ρ,PIv K H0 G ρ σ H/\OutS K EX d H0 G (m ρ) D
section
variable {K:Frag} {EX:EXT} {H0 G H G1 H1 G2 H2:Hp} {ρ:Rho} {σ:St} {d:Mode} {D:Ends}
theorem OutS.move {r:R Fl} (s:Same G G1) (o:OutS K EX d H0 G r D):OutS K EX d H0 G1 r D:=by
 cases r with
 | stuck=>exact o
 | ex e=>exact o
 | ok f=>
  cases f with
  | nx ρ'=>exact fun G' σ' H' s' I'=>o G' σ' H' (s.trans s') I'
  | bk ρ'=>exact fun G' σ' H' s' I'=>o G' σ' H' (s.trans s') I'
  | ct ρ'=>exact fun G' σ' H' s' I'=>o G' σ' H' (s.trans s') I'
  | rt w=>exact fun v G' H' s0 s1 s2 c md=>o v G' H' (s.trans s0) s1 s2 c md
theorem OutS.bind {α β:Type} {md:α->β->Hp->Hp->Prop} {m:R α} {k:α->R Fl} {Q1:β->Hp->Prop} (I:PIv K H0 G ρ σ H) (o:OutS K EX d H0 G (m>>=k) D)
  (h:∀ x G1 H1 w,Ext G H G1 H1->md w x G1 H1->OutS K EX d H0 G1 (k w) D->Q1 x H1):Out EX G H md m Q1:=by
 cases m with
 | ok w=>exact fun v G' H' e q=>h v G' H' w e q (OutS.move e.gg o)
 | ex e=>exact fun H' s=>o H' (I.hh.trans s)
 | stuck=>exact o
def mSeq (m n:Rho->R Fl):Rho->R Fl:=fun ρ=>m ρ>>=fun f=>match f with
 | .nx ρ'=>n ρ'
 | .rt w=>.ok (.rt w)
 | .bk ρ'=>.ok (.bk ρ')
 | .ct ρ'=>.ok (.ct ρ')
theorem c_next (h:tSt K EX d (fun ρ=>.ok (.nx ρ)) D σ H):tNext D σ H:=by
 obtain ⟨H0,G,ρ,I,o⟩:=h
 exact o G σ H (Same.refl G) I
theorem c_seq {m n:Rho->R Fl} (h:tSt K EX d (mSeq m n) D σ H):tSeq (tSt K EX d m) (tSt K EX d n) D σ H:=by
 obtain ⟨H0,G,ρ,I,o⟩:=h
 refine ⟨H0,G,ρ,I,?_⟩
 unfold mSeq at o
 revert o
 cases m ρ with
 | stuck=>exact id
 | ex e=>exact id
 | ok f=>
  cases f with
  | nx ρ'=>exact fun o G' σ' H' s' I'=>⟨H0,G',ρ',I',OutS.move s' o⟩
  | _=>exact id
theorem c_drop {b:Mode} {m:Rho->R W} (h:tSt K EX d (fun ρ=>m ρ>>=fun _=>.ok (.nx ρ)) D σ H):tDrop (tM K EX b m) D σ H:=by
 obtain ⟨H0,G,ρ,I,o⟩:=h
 exact ⟨H0,G,ρ,I,OutS.bind I o fun x G1 H1 w e1 _ o1=>o1 G1 σ H1 (Same.refl _) (I.ext e1)⟩
theorem c_ret {m:Rho->R W} (h:tSt K EX d (fun ρ=>m ρ>>=fun w=>.ok (.rt w)) D σ H):tRet (tM K EX d m) D σ H:=by
 obtain ⟨H0,G,ρ,I,o⟩:=h
 refine ⟨H0,G,ρ,I,OutS.bind I o fun x G1 H1 w e1 m1 o1=>?_⟩
 have I1:=I.ext e1
 exact o1 x G1 H1 (Same.refl _) e1.gh I1.hh I1.gl (m1.start I.hh)
def mRetVar (d:Mode) (i:Nat):Rho->R Fl:=fun ρ=>match ρ[i]? with
 | some (.own ws)=>.ok (.rt (.lst ws))
 | _=>mVar d i ρ>>=fun w=>.ok (.rt w)
theorem c_retVar {i:Nat} (hd:d=.F\/d=.V) (h:tSt K EX d (mRetVar d i) D σ H):tRet (tVar i) D σ H:=by
 obtain ⟨H0,G,ρ,I,o⟩:=h
 unfold mRetVar at o
 by_cases ho:∃ ws,ρ[i]?=some (.own ws)
 ·obtain ⟨ws,e⟩:=ho
  rw [e] at o
  have hi:i<σ.length:=by rw [<- I.len]; exact (List.getElem?_eq_some_iff.mp e).1
  have es:σ[i]?=some σ[i]:=by simp
  obtain ⟨a,vs,ev,ha,hg,h0,r⟩:=I.sl i _ _ e es
  refine ⟨.ref a,by rw [es,ev],?_⟩
  rcases hd with rfl | rfl
  ·exact o _ G H (Same.refl _) I.gh I.hh I.gl ⟨a,vs,rfl,ha,hg,h0,r⟩
  ·have s1:Same G (upd G a (.lst vs)):=fun b o q=>by rw [upd_ne (ne_of_none q hg)]; exact q
   refine o _ (upd G a (.lst vs)) H s1 (fun b o q=>?_) I.hh (fun b u q l=>?_) (.lst upd_same (r.same s1))
   ·by_cases hb:b=a
    ·subst hb; rw [upd_same] at q; cases q; exact ha
    ·rw [upd_ne hb] at q; exact I.gh b o q
   ·rw [upd_ne (ne_of_none q h0)]; exact I.gl b u q l
 ·have o':OutS K EX d H0 G (mVar d i ρ>>=fun w=>.ok (.rt w)) D:=by
   revert o
   split
   ·rename_i ws e; exact absurd ⟨ws,e⟩ ho
   ·exact id
  have c:tRet (tM K EX d (mVar d i)) D σ H:=c_ret (m:=mVar d i) ⟨H0,G,ρ,I,o'⟩
  exact c_var c
theorem PIv.setV {i:Nat} {v:V} {w:W} (I:PIv K H0 G ρ σ H) (r:Rep K G v w):PIv K H0 G (ρ.set i (.val w)) (σ.set i (some v)) H where
 g0:=I.g0
 gl:=I.gl
 gh:=I.gh
 hh:=I.hh
 len:=by rw [List.length_set,List.length_set]; exact I.len
 sl j x o h1 h2:=by
  by_cases hj:i=j
  ·subst hj
   rw [List.getElem?_set] at h1 h2
   simp only [if_true] at h1 h2
   split at h1 <;> split at h2 <;> simp only [Option.some.injEq,reduceCtorEq] at h1 h2
   subst h1; subst h2
   exact ⟨v,rfl,r⟩
  ·rw [List.getElem?_set_ne hj] at h1 h2; exact I.sl j x o h1 h2
 ne a b ws us c hab h1 h2 h3 h4:=by
  have na:i≠a:=by
   rintro rfl
   rw [List.getElem?_set] at h1
   simp only [if_true] at h1
   split at h1 <;> simp at h1
  have nb:i≠b:=by
   rintro rfl
   rw [List.getElem?_set] at h2
   simp only [if_true] at h2
   split at h2 <;> simp at h2
  rw [List.getElem?_set_ne na] at h1 h3
  rw [List.getElem?_set_ne nb] at h2 h4
  exact I.ne a b ws us c hab h1 h2 h3 h4
theorem PIv.setU {i:Nat} {v:V} {w:W} (I:PIv K H0 G ρ σ H) (r:Rep K (join H0 G) v w):PIv K H0 G (ρ.set i (.par w)) (σ.set i (some v)) H where
 g0:=I.g0
 gl:=I.gl
 gh:=I.gh
 hh:=I.hh
 len:=by rw [List.length_set,List.length_set]; exact I.len
 sl j x o h1 h2:=by
  by_cases hj:i=j
  ·subst hj
   rw [List.getElem?_set] at h1 h2
   simp only [if_true] at h1 h2
   split at h1 <;> split at h2 <;> simp only [Option.some.injEq,reduceCtorEq] at h1 h2
   subst h1; subst h2
   exact ⟨v,rfl,r⟩
  ·rw [List.getElem?_set_ne hj] at h1 h2; exact I.sl j x o h1 h2
 ne a b ws us c hab h1 h2 h3 h4:=by
  have na:i≠a:=by
   rintro rfl
   rw [List.getElem?_set] at h1
   simp only [if_true] at h1
   split at h1 <;> simp at h1
  have nb:i≠b:=by
   rintro rfl
   rw [List.getElem?_set] at h2
   simp only [if_true] at h2
   split at h2 <;> simp at h2
  rw [List.getElem?_set_ne na] at h1 h3
  rw [List.getElem?_set_ne nb] at h2 h4
  exact I.ne a b ws us c hab h1 h2 h3 h4
theorem PIv.setO {i:Nat} {a:Addr} {vs:List V} {ws:List W} (I:PIv K H0 G ρ σ H) (ha:H a=some (.lst vs)) (hg:G a=none) (h0:H0 a=none) (r:Reps K G vs ws)
  (nw:∀ (j:Nat) (us:List W),ρ[j]?=some (Sl.own us)->σ[j]?≠some (some (V.ref a))):PIv K H0 G (ρ.set i (.own ws)) (σ.set i (some (.ref a))) H where
 g0:=I.g0
 gl:=I.gl
 gh:=I.gh
 hh:=I.hh
 len:=by rw [List.length_set,List.length_set]; exact I.len
 sl j x o h1 h2:=by
  by_cases hj:i=j
  ·subst hj
   rw [List.getElem?_set] at h1 h2
   simp only [if_true] at h1 h2
   split at h1 <;> split at h2 <;> simp only [Option.some.injEq,reduceCtorEq] at h1 h2
   subst h1; subst h2
   exact ⟨a,vs,rfl,ha,hg,h0,r⟩
  ·rw [List.getElem?_set_ne hj] at h1 h2; exact I.sl j x o h1 h2
 ne p q ws' us c hab h1 h2 h3 h4:=by
  by_cases hp:i=p
  ·subst hp
   rw [List.getElem?_set_ne hab] at h2 h4
   rw [List.getElem?_set] at h3
   simp only [if_true] at h3
   split at h3 <;> simp only [Option.some.injEq,reduceCtorEq,V.ref.injEq] at h3
   subst h3
   exact nw q us h2 h4
  ·rw [List.getElem?_set_ne hp] at h1 h3
   by_cases hq:i=q
   ·subst hq
    rw [List.getElem?_set] at h4
    simp only [if_true] at h4
    split at h4 <;> simp only [Option.some.injEq,reduceCtorEq,V.ref.injEq] at h4
    subst h4
    exact nw p ws' h1 h3
   ·rw [List.getElem?_set_ne hq] at h2 h4
    exact I.ne p q ws' us c hab h1 h2 h3 h4
def slotF:W->Sl
 | .lst ws=>.own ws
 | w=>.val w
theorem c_setV {i:Nat} {m:Rho->R W} (h:tSt K EX d (fun ρ=>m ρ>>=fun w=>.ok (.nx (ρ.set i (.val w)))) D σ H):tAsg (tM K EX .V m) (gName i) D σ H:=by
 obtain ⟨H0,G,ρ,I,o⟩:=h
 exact ⟨H0,G,ρ,I,OutS.bind I o fun x G1 H1 w e1 m1 o1=>o1 G1 _ H1 (Same.refl _) ((I.ext e1).setV m1)⟩
theorem c_setF {i:Nat} {m:Rho->R W} (h:tSt K EX d (fun ρ=>m ρ>>=fun w=>.ok (.nx (ρ.set i (slotF w)))) D σ H):tAsg (tM K EX .F m) (gName i) D σ H:=by
 obtain ⟨H0,G,ρ,I,o⟩:=h
 refine ⟨H0,G,ρ,I,OutS.bind I o fun x G1 H1 w e1 m1 o1=>?_⟩
 have I1:=I.ext e1
 cases w with
 | lst ws=>
  obtain ⟨a,vs,rfl,h1,h2,h3,r⟩:=m1
  refine o1 G1 _ H1 (Same.refl _) (I1.setO h1 h2 (I.hh.free h3) r fun j us q z=>?_)
  obtain ⟨b,us',eb,hb,_⟩:=I.sl j _ _ q z
  cases eb
  rw [h3] at hb; cases hb
 | non=>exact o1 G1 _ H1 (Same.refl _) (I1.setV m1)
 | bl _=>exact o1 G1 _ H1 (Same.refl _) (I1.setV m1)
 | int _=>exact o1 G1 _ H1 (Same.refl _) (I1.setV m1)
 | str _=>exact o1 G1 _ H1 (Same.refl _) (I1.setV m1)
 | ty _=>exact o1 G1 _ H1 (Same.refl _) (I1.setV m1)
 | tup _=>exact o1 G1 _ H1 (Same.refl _) (I1.setV m1)
 | scr _=>exact o1 G1 _ H1 (Same.refl _) (I1.setV m1)
 | exc _ _=>exact o1 G1 _ H1 (Same.refl _) (I1.setV m1)
 | cls _=>exact o1 G1 _ H1 (Same.refl _) (I1.setV m1)
instance:DecidableEq Mode:=fun a b=>by cases a <;> cases b <;> first | exact isTrue rfl | exact isFalse (by intro h; cases h)
def Gt (K:Frag) (e:Mode) (g:TG) (mg:W->Rho->Option Rho):Prop:=∀ (H0 Hs G:Hp) (ρ:Rho) (σ:St) (H:Hp) (v:V) (w:W) (ρ':Rho) (Q:St->Hp->Prop),PIv K H0 G ρ σ H->Md K H0 Hs G H v w e->mg w ρ=some ρ' ->
 (∀ σ',PIv K H0 G ρ' σ' H->Q σ' H)->g v σ H Q
def gN (e:Mode) (i:Nat):W->Rho->Option Rho:=fun w ρ=>some (ρ.set i (if e=.V then .val w else .par w))
theorem gt_U {i:Nat}:Gt K .U (gName i) (gN .U i):=fun H0 Hs G ρ σ H v w ρ' Q I m e h=>by
 cases e; exact h _ (I.setU m)
def gsNil:List W->Rho->Option Rho
 | [],ρ=>some ρ
 | _,_=>none
def gsCons (f:W->Rho->Option Rho) (g:List W->Rho->Option Rho):List W->Rho->Option Rho
 | w::ws,ρ=>(f w ρ).bind (g ws)
 | [],_=>none
def gT (n:Nat) (g:List W->Rho->Option Rho):W->Rho->Option Rho
 | .tup ws,ρ=>if ws.length=n then g ws ρ else none
 | _,_=>none
def toR {α:Type}:Option α->R α
 | some a=>.ok a
 | none=>.stuck
theorem PIv.own_upd {i:Nat} {a:Addr} {vs':List V} {ws ws':List W} (I:PIv K H0 G ρ σ H) (e:ρ[i]?=some (.own ws)) (es:σ[i]?=some (some (.ref a))) (r:Reps K G vs' ws'):PIv K H0 G (ρ.set i (.own ws')) σ (upd H a (.lst vs')):=by
 obtain ⟨a',vs,ev,ha,hg,h0,_⟩:=I.sl i _ _ e es
 cases ev
 refine ⟨I.g0,I.gl,fun b o q=>by rw [upd_ne (ne_of_none q hg)]; exact I.gh b o q,fun b o q=>by rw [upd_ne (ne_of_none q h0)]; exact I.hh b o q,by rw [List.length_set]; exact I.len,fun j x o h1 h2=>?_,fun p q ws1 us c hab h1 h2 h3 h4=>?_⟩
 ·by_cases hj:i=j
  ·subst hj
   rw [List.getElem?_set] at h1
   simp only [if_true] at h1
   split at h1 <;> simp only [Option.some.injEq,reduceCtorEq] at h1
   subst h1
   rw [es] at h2; cases h2
   exact ⟨a,vs',rfl,upd_same,hg,h0,r⟩
  ·rw [List.getElem?_set_ne hj] at h1
   have:=I.sl j x o h1 h2
   cases x with
   | own us=>
    obtain ⟨b,us',eb,hb,hgb,h0b,rb⟩:=this
    subst eb
    have hne:b≠a:=by
     rintro rfl
     exact I.ne i j ws us b hj e h1 es h2
    exact ⟨b,us',rfl,by rw [upd_ne hne]; exact hb,hgb,h0b,rb⟩
   | dic ks=>
    obtain ⟨b,us',eb,hb,hgb,h0b,rb⟩:=this
    have hne:b≠a:=by
     rintro rfl
     rw [ha] at hb; cases hb
    exact ⟨b,us',eb,by rw [upd_ne hne]; exact hb,hgb,h0b,rb⟩
   | dik ks=>
    obtain ⟨b,us',eb,hb,hgb,h0b,rb⟩:=this
    have hne:b≠a:=by
     rintro rfl
     rw [ha] at hb; cases hb
    exact ⟨b,us',eb,by rw [upd_ne hne]; exact hb,hgb,h0b,rb⟩
   | un=>exact this
   | val _=>exact this
   | par _=>exact this
   | iop _ _=>exact this
   | hz _=>exact this
 ·have key:∀ {k:Nat} {us:List W},(ρ.set i (.own ws'))[k]?=some (.own us)->∃ us',ρ[k]?=some (.own us'):=fun {k us} hk=>by
   by_cases hik:i=k
   ·subst hik; exact ⟨ws,e⟩
   ·rw [List.getElem?_set_ne hik] at hk; exact ⟨us,hk⟩
  obtain ⟨w1,k1⟩:=key h1
  obtain ⟨w2,k2⟩:=key h2
  exact I.ne p q w1 w2 c hab k1 k2 h3 h4
theorem PIv.own_at {i:Nat} {ws:List W} (I:PIv K H0 G ρ σ H) (e:ρ[i]?=some (.own ws)):∃ a vs,σ[i]?=some (some (.ref a))/\H a=some (.lst vs)/\G a=none/\H0 a=none/\Reps K G vs ws:=by
 have hi:i<σ.length:=by rw [<- I.len]; exact (List.getElem?_eq_some_iff.mp e).1
 have es:σ[i]?=some σ[i]:=by simp
 obtain ⟨a,vs,ev,r⟩:=I.sl i _ _ e es
 exact ⟨a,vs,by rw [es,ev],r⟩
def mApp (i:Nat) (m:Rho->R W):Rho->R Fl:=fun ρ=>match ρ[i]? with
 | some (.own ws)=>m ρ>>=fun w=>if ws.length<1000 then .ok (.nx (ρ.set i (.own (ws ++ [w])))) else .stuck
 | _=>.stuck
theorem c_app {i:Nat} {m:Rho->R W} (h:tSt K EX d (mApp i m) D σ H):tDrop (tApp (tVar i) (tM K EX .V m)) D σ H:=by
 obtain ⟨H0,G,ρ,I,o⟩:=h
 unfold mApp at o
 split at o
 ·rename_i ws e
  obtain ⟨a,vs,es,ha,hg,h0,r⟩:=I.own_at e
  refine ⟨.ref a,es,a,rfl,⟨vs,ha⟩,H0,G,ρ,I,OutS.bind I o fun x G1 H1 w e1 m1 o1=>?_⟩
  by_cases hl:ws.length<1000
  ·rw [if_pos hl] at o1
   have h1:=e1.hh a _ ha
   dsimp only
   rw [h1]
   dsimp only
   have hlen:vs.length=ws.length:=r.length
   exact ⟨Nat.lt_of_lt_of_le (by omega:vs.length<1000) (by decide),o1 G1 σ _ (Same.refl _) ((I.ext e1).own_upd e es ((r.same e1.gg).snoc m1))⟩
  ·rw [if_neg hl] at o1; exact o1.elim
 ·exact o.elim
def mSet (i:Nat) (mk me:Rho->R W):Rho->R Fl:=fun ρ=>match ρ[i]? with
 | some (.own ws)=>me ρ>>=fun w=>mk ρ>>=fun k=>(match k with
  | .int k=>(match ixN ws.length k with
   | some j=>.ok (.nx (ρ.set i (.own (ws.set j w))))
   | none=>.stuck)
  | _=>.stuck)
 | _=>.stuck
theorem c_set {i:Nat} {mk me:Rho->R W} (h:tSt K EX d (mSet i mk me) D σ H):tAsg (tM K EX .V me) (gSub (tVar i) (tM K EX .B mk) rSetL) D σ H:=by
 obtain ⟨H0,G,ρ,I,o⟩:=h
 unfold mSet at o
 split at o
 ·rename_i ws e
  obtain ⟨a,vs,es,ha,hg,h0,r⟩:=I.own_at e
  refine ⟨H0,G,ρ,I,OutS.bind I o fun x G1 H1 w e1 m1 o1=>⟨.ref a,es,H0,G1,ρ,I.ext e1,OutS.bind (I.ext e1) o1 fun y G2 H2 k e2 m2 o2=>?_⟩⟩
  cases k <;> first | exact o2.elim | skip
  rename_i k
  dsimp only at o2
  cases q:ixN ws.length k with
  | none=>rw [q] at o2; exact o2.elim
  | some j=>
   rw [q] at o2
   refine ⟨a,vs,k,j,rfl,m2.intB,e2.hh _ _ (e1.hh _ _ ha),by rw [r.length]; exact q,?_⟩
   exact o2 G2 σ _ (Same.refl _) (((I.ext e1).ext e2).own_upd e es (Reps.set (Rep.same e2.gg m1) j ((r.same e1.gg).same e2.gg)))
 ·exact o.elim
def mAug (i:Nat) (f:Int->Int->Int) (m:Rho->R W):Rho->R Fl:=fun ρ=>mVar .B i ρ>>=fun x=>m ρ>>=fun y=>match x,y with
 | .int a,.int b=>.ok (.nx (ρ.set i (.val (.int (f a b)))))
 | _,_=>.stuck
def mIf (c:Rho->R Bool) (m n:Rho->R Fl):Rho->R Fl:=fun ρ=>c ρ>>=fun b=>if b then m ρ else n ρ
theorem c_ifS {c:Rho->R Bool} {m n:Rho->R Fl} (h:tSt K EX d (mIf c m n) D σ H):tIfS (tT K EX c) (tSt K EX d m) (tSt K EX d n) D σ H:=by
 obtain ⟨H0,G,ρ,I,o⟩:=h
 refine ⟨H0,G,ρ,I,OutS.bind I o fun x G1 H1 w e1 m1 o1=>?_⟩
 cases m1
 cases x with
 | true=>exact ⟨H0,G1,ρ,I.ext e1,o1⟩
 | false=>exact ⟨H0,G1,ρ,I.ext e1,o1⟩
def frz (i:Nat) (ρ:Rho):Rho:=match ρ[i]? with
 | some (.own ws)=>ρ.set i (.val (.lst ws))
 | _=>ρ
theorem PIv.frz {i:Nat} (I:PIv K H0 G ρ σ H):∃ G',Same G G'/\PIv K H0 G' (frz i ρ) σ H:=by
 unfold TP.frz
 split
 ·rename_i ws e
  obtain ⟨a,vs,es,ha,hg,h0,r⟩:=I.own_at e
  have s1:Same G (upd G a (.lst vs)):=fun b o q=>by rw [upd_ne (ne_of_none q hg)]; exact q
  refine ⟨upd G a (.lst vs),s1,?_⟩
  have I1:PIv K H0 G (ρ.set i .un) σ H:=by
   refine ⟨I.g0,I.gl,I.gh,I.hh,by rw [List.length_set]; exact I.len,fun j x o h1 h2=>?_,fun p q ws1 us c hab h1 h2 h3 h4=>?_⟩
   ·by_cases hj:i=j
    ·subst hj
     rw [List.getElem?_set] at h1
     simp only [if_true] at h1
     split at h1 <;> simp only [Option.some.injEq,reduceCtorEq] at h1
     subst h1; trivial
    ·rw [List.getElem?_set_ne hj] at h1; exact I.sl j x o h1 h2
   ·have na:i≠p:=by
     rintro rfl
     rw [List.getElem?_set] at h1
     simp only [if_true] at h1
     split at h1 <;> simp at h1
    have nb:i≠q:=by
     rintro rfl
     rw [List.getElem?_set] at h2
     simp only [if_true] at h2
     split at h2 <;> simp at h2
    rw [List.getElem?_set_ne na] at h1
    rw [List.getElem?_set_ne nb] at h2
    exact I.ne p q ws1 us c hab h1 h2 h3 h4
  have I2:PIv K H0 (upd G a (.lst vs)) (ρ.set i .un) σ H:=by
   refine ⟨fun b o q l=>s1 b o (I.g0 b o q l),fun b o q l=>by rw [upd_ne (ne_of_none q h0)]; exact I.gl b o q l,fun b o q=>?_,I.hh,I1.len,fun j x o h1 h2=>?_,I1.ne⟩
   ·by_cases hb:b=a
    ·subst hb; rw [upd_same] at q; cases q; exact ha
    ·rw [upd_ne hb] at q; exact I.gh b o q
   ·have:=I1.sl j x o h1 h2
    cases x with
    | un=>trivial
    | val w=>obtain ⟨v,e1,r1⟩:=this; exact ⟨v,e1,r1.same s1⟩
    | par w=>obtain ⟨v,e1,r1⟩:=this; exact ⟨v,e1,r1.same (join_same s1)⟩
    | own us=>
     obtain ⟨b,us',eb,hb,hgb,h0b,rb⟩:=this
     subst eb
     have hij:i≠j:=by
      rintro rfl
      rw [List.getElem?_set] at h1
      simp only [if_true] at h1
      split at h1 <;> simp at h1
     rw [List.getElem?_set_ne hij] at h1
     have hne:b≠a:=by
      rintro rfl
      exact I.ne i j ws us b hij e h1 es h2
     exact ⟨b,us',rfl,hb,by rw [upd_ne hne]; exact hgb,h0b,rb.same s1⟩
    | dic ks=>
     obtain ⟨b,us',eb,hb,hgb,h0b,rb⟩:=this
     have hne:b≠a:=by
      rintro rfl
      rw [ha] at hb; cases hb
     exact ⟨b,us',eb,hb,by rw [upd_ne hne]; exact hgb,h0b,rb⟩
    | dik ks=>
     obtain ⟨b,us',eb,hb,hgb,h0b,rb⟩:=this
     have hne:b≠a:=by
      rintro rfl
      rw [ha] at hb; cases hb
     exact ⟨b,us',eb,hb,by rw [upd_ne hne]; exact hgb,h0b,rb⟩
    | iop p us=>obtain ⟨e1,vs1,h1',r1⟩:=this; exact ⟨e1,vs1,h1',r1.same s1⟩
    | hz w=>obtain ⟨v,e,r⟩:=this; exact ⟨v,e,r.same (join_same (noLG_same s1))⟩
  have I3:=I2.setV (i:=i) (v:=.ref a) (w:=.lst ws) (.lst upd_same (r.same s1))
  have e3:σ.set i (some (V.ref a))=σ:=by
   apply List.ext_getElem?
   intro j
   by_cases hj:i=j
   ·subst hj; rw [es,List.getElem?_set]; simp only [if_true]; rw [if_pos (List.getElem?_eq_some_iff.mp es).1]
   ·rw [List.getElem?_set_ne hj]
  rw [e3,List.set_set] at I3
  exact I3
 ·exact ⟨G,Same.refl G,I⟩
theorem c_frz {i:Nat} {m:Rho->R Fl} (h:tSt K EX d (fun ρ=>m (frz i ρ)) D σ H):tSt K EX d m D σ H:=by
 obtain ⟨H0,G,ρ,I,o⟩:=h
 obtain ⟨G',s,I'⟩:=I.frz (i:=i)
 exact ⟨H0,G',_,I',OutS.move s o⟩
end
end TP
namespace TP
open PySem L2
section
variable {K:Frag} {EX:EXT} {H0 G H G1 H1 G2 H2:Hp} {ρ:Rho} {σ:St} {d:Mode} {D:Ends}
structure ItOk (K:Frag) (e:Mode) (H0 Z G:Hp) (J:It) (ws:List W):Prop where
 go:∀ i H,i<ws.length->Same Z H->J.go i H
 stop:∀ H,Same Z H->J.stop ws.length H
 yld:∀ i H x H' w,ws[i]?=some w->Same Z H->J.yld i H x H'->∀ G2 ρ σ,PIv K H0 G2 ρ σ H->Same G G2->∃ G3,Ext G2 H G3 H'/\Md K H0 H G3 H' x w e
def OutI (K:Frag) (EX:EXT) (lp:Bool) (e:Mode) (H0 G H:Hp) (r:R (List W)) (Rr:It->Hp->Prop):Prop:=match r with
 | .ok ws=>∀ J G' H',Ext G H G' H'->ItOk K e H0 (if lp then join H0 G' else H') G' J ws->Rr J H'
 | .ex x=>∀ H',Same H H'->EX x H'
 | .stuck=>False
def tIt (K:Frag) (EX:EXT) (lp:Bool) (e:Mode) (m:Rho->R (List W)):TI:=fun σ H Rr=>∃ H0 G ρ,PIv K H0 G ρ σ H/\OutI K EX lp e H0 G H (m ρ) Rr
def mFor (mg:W->Rho->Option Rho) (mb:Rho->R Fl):List W->Rho->R Fl
 | [],ρ=>.ok (.nx ρ)
 | w::ws,ρ=>toR (mg w ρ)>>=fun ρ1=>mb ρ1>>=fun f=>match f with
  | .nx ρ2=>mFor mg mb ws ρ2
  | .ct ρ2=>mFor mg mb ws ρ2
  | .bk ρ2=>.ok (.nx ρ2)
  | .rt w=>.ok (.rt w)
theorem c_for {e:Mode} {g:TG} {mg:W->Rho->Option Rho} {mi:Rho->R (List W)} {mb:Rho->R Fl} (hg:Gt K e g mg) (h:tSt K EX d (fun ρ=>mi ρ>>=fun ws=>mFor mg mb ws ρ) D σ H) :
  tFor (tIt K EX true e mi) g (tSt K EX d mb) D σ H:=by
 obtain ⟨H0,G,ρ,I,o⟩:=h
 refine ⟨H0,G,ρ,I,?_⟩
 replace o:OutS K EX d H0 G (mi ρ>>=fun ws=>mFor mg mb ws ρ) D:=o
 revert o
 cases mi ρ with
 | stuck=>exact id
 | ex x=>exact fun o H' s=>o H' (I.hh.trans s)
 | ok ws=>
  intro o J G1 H1 e1 T
  have o1:OutS K EX d H0 G1 (mFor mg mb ws ρ) D:=OutS.move e1.gg o
  refine ⟨fun i m σ H=>m=ws.length-i/\i<=ws.length/\∃ G2 ρ2,Same G1 G2/\PIv K H0 G2 ρ2 σ H/\OutS K EX d H0 G2 (mFor mg mb (ws.drop i) ρ2) D,⟨_,rfl,Nat.zero_le _,G1,ρ,Same.refl _,I.ext e1,o1⟩,?_⟩
  rintro i m σ2 Hh ⟨rfl,hi,G2,ρ2,s2,I2,o2⟩
  have hz:Same (join H0 G1) Hh:=(join_same s2).trans I2.join_H
  by_cases hlt:i<ws.length
  ·refine .inr ⟨T.go i Hh hlt hz,fun σ' H'=>∃ G4 ρ4,Same G1 G4/\PIv K H0 G4 ρ4 σ' H'/\OutS K EX d H0 G4 (mFor mg mb (ws.drop (i+1)) ρ4) D,fun σ' H' zz82=>by obtain ⟨G4,ρ4,s4,I4,o4⟩:=zz82; exact ⟨ws.length-(i+1),by omega,rfl,hlt,G4,ρ4,s4,I4,o4⟩,fun x H' y=>?_⟩
   obtain ⟨G3,e3,m3⟩:=T.yld i Hh x H' ws[i] (by simp) hz y G2 ρ2 σ2 I2 s2
   rw [List.drop_eq_getElem_cons hlt] at o2
   unfold mFor at o2
   cases q:mg ws[i] ρ2 with
   | none=>rw [q] at o2; exact o2.elim
   | some ρ'=>
    rw [q] at o2
    refine hg H0 Hh G3 ρ2 σ2 H' x _ ρ' _ (I2.ext e3) m3 q fun σ' I'=>⟨H0,G3,ρ',I',?_⟩
    have o3:OutS K EX d H0 G3 (mb ρ'>>=fun f=>match f with
     | .nx ρ2=>mFor mg mb (ws.drop (i+1)) ρ2
     | .ct ρ2=>mFor mg mb (ws.drop (i+1)) ρ2
     | .bk ρ2=>.ok (.nx ρ2)
     | .rt w=>.ok (.rt w)) D:=OutS.move e3.gg o2
    revert o3
    have s3:Same G1 G3:=s2.trans e3.gg
    cases mb ρ' with
    | stuck=>exact id
    | ex x=>exact id
    | ok f=>
     cases f with
     | nx ρ4=>exact fun o4 G4 σ4 H4 s4 I4=>⟨G4,ρ4,s3.trans s4,I4,OutS.move s4 o4⟩
     | ct ρ4=>exact fun o4 G4 σ4 H4 s4 I4=>⟨G4,ρ4,s3.trans s4,I4,OutS.move s4 o4⟩
     | bk ρ4=>exact id
     | rt w=>exact id
  ·have e:i=ws.length:=by omega
   subst e
   refine .inl ⟨T.stop Hh hz,?_⟩
   rw [List.drop_length] at o2
   exact o2 G2 σ2 Hh (Same.refl _) I2
def iterW (c:Rho->R Bool) (b:Rho->R Fl):Nat->Rho->Option (R Fl)
 | 0,_=>none
 | n+1,ρ=>match c ρ with
  | .ok false=>some (.ok (.nx ρ))
  | .ok true=>(match b ρ with
   | .ok (.nx ρ')=>iterW c b n ρ'
   | .ok (.ct ρ')=>iterW c b n ρ'
   | .ok (.bk ρ')=>some (.ok (.nx ρ'))
   | .ok (.rt w)=>some (.ok (.rt w))
   | .ex e=>some (.ex e)
   | .stuck=>some .stuck)
  | .ex e=>some (.ex e)
  | .stuck=>some .stuck
open Classical in
def mWhile (c:Rho->R Bool) (b:Rho->R Fl):Rho->R Fl:=fun ρ=>if h:∃ r n,iterW c b n ρ=some r then h.choose else .stuck
theorem Md.whole {v:V} {w:W} {Hs:Hp} (I:PIv K H0 G ρ σ H) (h:Md K H0 Hs G H v w .B):Rep K H v w:=by
 rcases h with h | ⟨a,vs,ws,rfl,rfl,h1,r⟩
 ·exact h.same I.join_H
 ·exact .lst h1 (r.same I.gh)
theorem MdA.whole {Hs:Hp} (I:PIv K H0 G ρ σ H) {ws:List W} {vs:List V} (h:MdA K .B H0 Hs G H ws vs):Reps K H vs ws:=
 @MdA.rec K .B H0 Hs G H (fun ws vs _=>Reps K H vs ws) .nil (fun h _ b=>.cons (h.whole I) b) ws vs h
def XE (_:XK):EXT:=fun _ _=>False
def spM (K:Frag) (n:Nat) (d:Mode) (f:List W->R W):Sp:=fun vs H Q E=>vs.length=n/\∃ ws,Reps K H vs ws/\match f ws with
 | .ok w=>∀ v G' H',Same H H'->Same G' H'->(∀ a o,H a=some o->isL o=true->G' a=none)->Md K H H G' H' v w d->Q v H'
 | .ex e=>∀ H',Same H H'->XE E e H'
 | .stuck=>False
def runB (n N:Nat) (m:Rho->R Fl) (ws:List W):R W:=if ws.length=n then (m (ws.map Sl.par++List.replicate (N-n) Sl.un)>>=fun f=>match f with
 | .rt w=>.ok w
 | .nx _=>.ok .non
 | _=>.stuck) else .stuck
theorem runB_len {n N:Nat} {m:Rho->R Fl} (ws:List W) (h:runB n N m ws≠.stuck):ws.length=n:=by
 unfold runB at h
 by_cases e:ws.length=n
 ·exact e
 ·rw [if_neg e] at h; exact absurd rfl h
def both (G G':Hp):Hp:=fun b=>match G b with
 | some o=>some o
 | none=>G' b
theorem c_call {n:Nat} {f:List W->R W} {E:XK} {ma:Rho->R (List W)} {Q:VK} (hd:d=.F\/d=.V) (hf:∀ ws,f ws≠.stuck->ws.length=n) (hE:∀ e H,EX e H->XE E e H) (h:tM K EX d (fun ρ=>ma ρ>>=fun ws=>f ws) σ H Q) :
  tCall (spM K n d f) [] E (tA K EX .B ma) σ H Q:=by
 obtain ⟨H0,G,ρ,I,o⟩:=h
 refine ⟨H0,G,ρ,I,Out.bind o fun xs G1 H1 ws e1 m1 o1=>?_⟩
 have I1:=I.ext e1
 have r:=MdA.whole I1 m1
 rw [List.append_nil]
 refine ⟨?_,ws,r,?_⟩
 ·rw [r.length]
  refine hf ws fun z=>?_
  rw [z] at o1; exact o1
 ·revert o1
  cases f ws with
  | stuck=>exact id
  | ex e=>exact fun o1 H' s=>hE e H' (o1 H' s)
  | ok w=>
   intro o1 v G' H' sH gH cl md
   have sB:Same G1 (both G1 G'):=fun b o q=>by unfold both; rw [q]
   have sB':Same G' (both G1 G'):=fun b o q=>by
    unfold both
    cases q1:G1 b with
    | none=>exact q
    | some u=>
     have a1:=sH b u (I1.gh b u q1)
     rw [gH b o q] at a1
     exact a1.symm
   have sHB:Same (both G1 G') H':=fun b o q=>by
    unfold both at q
    cases q1:G1 b with
    | none=>rw [q1] at q; exact gH b o q
    | some u=>rw [q1] at q; cases q; exact sH b _ (I1.gh b _ q1)
   have ex:Ext G1 H1 (both G1 G') H':=⟨sB,sH,sHB,fun b o q l g=>by unfold both; rw [g]; exact cl b o q l⟩
   refine o1 v (both G1 G') H' ex ?_
   rcases hd with rfl | rfl
   ·cases w with
    | lst us=>
     obtain ⟨a,vs,rfl,h1,h2,h3,r3⟩:=md
     exact ⟨a,vs,rfl,h1,by unfold both; rw [I1.gh.free h3]; exact h2,e1.hh.free h3,r3.same sB'⟩
    | non=>exact Rep.same sB' md
    | bl _=>exact Rep.same sB' md
    | int _=>exact Rep.same sB' md
    | str _=>exact Rep.same sB' md
    | ty _=>exact Rep.same sB' md
    | tup _=>exact Rep.same sB' md
    | scr _=>exact Rep.same sB' md
    | exc _ _=>exact Rep.same sB' md
    | cls _=>exact Rep.same sB' md
   ·exact Rep.same sB' md
def noLH (H:Hp):Hp:=fun a=>match H a with
 | some o=>if isL o then none else some o
 | none=>none
theorem join_noLH:join H (noLH H)=H:=by
 funext a
 unfold join noLH
 cases q:H a with
 | none=>rfl
 | some o=>
  dsimp only
  cases isL o <;> rfl
theorem Reps.slots {vs:List V} {ws:List W} {i:Nat} {x:Sl} {o:Option V} {k k':Nat} (r:Reps K H vs ws):(ws.map Sl.par++List.replicate k Sl.un)[i]?=some x->(vs.map some++List.replicate k' none)[i]?=some o->x=.un\/∃ v w,x=.par w/\o=some v/\Rep K H v w:=
 Reps.ind (P:=fun vs ws=>∀ i,(ws.map Sl.par++List.replicate k Sl.un)[i]?=some x->(vs.map some++List.replicate k' none)[i]?=some o->x=.un\/∃ v w,x=.par w/\o=some v/\Rep K H v w) (fun i h1 h2=>by
  have h1:(List.replicate k Sl.un)[i]?=some x:=h1
  rw [List.getElem?_replicate] at h1
  by_cases hk:i<k
  ·rw [if_pos hk] at h1; exact .inl (Option.some.inj h1).symm
  ·rw [if_neg hk] at h1; cases h1) (fun r _ b i h1 h2=>by
  cases i with
  | zero=>exact .inr ⟨_,_,(Option.some.inj h1).symm,(Option.some.inj h2).symm,r⟩
  | succ i=>exact b i h1 h2) r i
theorem PIv.begin {vs:List V} {ws:List W} {k k':Nat} (r:Reps K H vs ws) (hk:k=k'):PIv K H (noLH H) (ws.map Sl.par++List.replicate k Sl.un) (vs.map some++List.replicate k' none) H where
 g0 a o e l:=by unfold noLH; rw [e]; dsimp only; rw [l]; rfl
 gl a o e l:=by unfold noLH; rw [e]; dsimp only; rw [l]; rfl
 gh a o e:=by
  unfold noLH at e
  cases q:H a with
  | none=>rw [q] at e; cases e
  | some u=>
   rw [q] at e
   dsimp only at e
   cases hl:isL u
   ·rw [hl] at e; exact e
   ·rw [hl] at e; cases e
 hh:=Same.refl H
 len:=by subst hk; simp [r.length]
 sl i x o h1 h2:=by
  rcases Reps.slots r h1 h2 with rfl | ⟨v,w,rfl,rfl,q⟩
  ·trivial
  ·exact ⟨v,rfl,by rw [join_noLH]; exact q⟩
 ne i j us xs a hij h1 _ _ _:=by
  have:∀ (i:Nat) (us:List W),(ws.map Sl.par++List.replicate k Sl.un)[i]?≠some (Sl.own us):=fun i us q=>by
   rw [List.getElem?_append] at q
   split at q
   ·rw [List.getElem?_map] at q
    cases hh:ws[i]? <;> rw [hh] at q <;> cases q
   ·rw [List.getElem?_replicate] at q
    split at q <;> cases q
  exact absurd h1 (this i us)
theorem c_body {n:Nat} {Nl:List Str} {m:Rho->R Fl} {vs:List V} {Q:VK} {E:XK} (hd:d=.F\/d=.V) (h:spM K n d (runB n Nl.length m) vs H Q E):tSt K (fun _ _=>False) d m { nx:=fun _ H'=>Q .non H',rt:=Q } (L2.start Nl vs) H:=by
 obtain ⟨hl,ws,r,o⟩:=h
 have hw:ws.length=n:=by rw [<- r.length]; exact hl
 unfold runB at o
 rw [if_pos hw] at o
 refine ⟨H,noLH H,_,PIv.begin (k:=Nl.length-n) r (by rw [hl]),?_⟩
 revert o
 cases m (ws.map Sl.par++List.replicate (Nl.length-n) Sl.un) with
 | stuck=>exact id
 | ex e=>exact fun o=>(o H (Same.refl H)).elim
 | ok f=>
  cases f with
  | nx ρ'=>exact fun o G' σ' H' s' I'=>o .non G' H' I'.hh I'.gh I'.gl (Md.sca rfl (fun _=>.non) d)
  | rt w=>exact fun o v G' H' _ s1 s2 c md=>o v G' H' s2 s1 c md
  | bk _=>exact fun o=>o.elim
  | ct _=>exact fun o=>o.elim
end
end TP
namespace TP
open PySem L2
section
variable {K:Frag} {EX:EXT} {H0 G H G1 H1 G2 H2:Hp} {ρ:Rho} {σ:St} {d:Mode} {D:Ends}
def elR (mg:W->Rho->Option Rho) (mc:Rho->R Bool) (me:Rho->R W) (ρ:Rho) (w:W):R (Option W):=match mg w ρ with
 | none=>.stuck
 | some ρ1=>(match mc ρ1 with
  | .ok true=>(match me ρ1 with
   | .ok y=>.ok (some y)
   | _=>.stuck)
  | .ok false=>.ok none
  | _=>.stuck)
def mapR (f:W->R (Option W)):List W->R (List W)
 | []=>.ok []
 | w::ws=>match f w,mapR f ws with
  | .ok (some y),.ok ys=>.ok (y::ys)
  | .ok none,.ok ys=>.ok ys
  | _,_=>.stuck
def mComp (N':Nat) (mg:W->Rho->Option Rho) (mc:Rho->R Bool) (me:Rho->R W) (ws:List W) (ρ:Rho):R W:=
 if ws.length<=1000 then (match mapR (elR mg mc me (ρ++List.replicate (N'-ρ.length) Sl.un)) ws with
  | .ok ys=>.ok (.lst ys)
  | _=>.stuck) else .stuck
theorem mapR_ok {f:W->R (Option W)}:∀ {ws ys:List W},mapR f ws=.ok ys->(∀ w∈ws,∃ o,f w=.ok o)/\ys=ws.filterMap fun w=>match f w with
  | .ok o=>o
  | _=>none:=by
 intro ws
 induction ws with
 | nil=>intro ys h; cases h; exact ⟨by simp,rfl⟩
 | cons w ws ih=>
  intro ys h
  unfold mapR at h
  cases hf:f w with
  | stuck=>rw [hf] at h; cases h
  | ex e=>rw [hf] at h; cases h
  | ok o=>
   rw [hf] at h
   cases hm:mapR f ws with
   | stuck=>rw [hm] at h; cases o <;> cases h
   | ex e=>rw [hm] at h; cases o <;> cases h
   | ok zs=>
    rw [hm] at h
    obtain ⟨h1,h2⟩:=ih hm
    refine ⟨fun u hu=>?_,?_⟩
    ·rcases List.mem_cons.mp hu with rfl | hu
     ·exact ⟨o,hf⟩
     ·exact h1 u hu
    ·cases o with
     | none=>cases h; rw [List.filterMap_cons,hf]; exact h2
     | some y=>cases h; rw [List.filterMap_cons,hf,h2]
theorem PIv.inner {N':List Str} (I:PIv K H0 G ρ σ H):PIv K H0 G (ρ++List.replicate (N'.length-ρ.length) Sl.un) (inner N' σ) H:=by
 have hl:=I.len
 unfold L2.inner
 rw [hl]
 refine ⟨I.g0,I.gl,I.gh,I.hh,by simp [hl],fun i x o h1 h2=>?_,fun p q ws us c hab h1 h2 h3 h4=>?_⟩
 ·by_cases hi:i<ρ.length
  ·rw [List.getElem?_append_left hi] at h1
   rw [List.getElem?_append_left (by omega)] at h2
   exact I.sl i x o h1 h2
  ·rw [List.getElem?_append_right (by omega),List.getElem?_replicate] at h1
   split at h1 <;> simp only [Option.some.injEq,reduceCtorEq] at h1
   subst h1; trivial
 ·have key:∀ {k:Nat} {us:List W},(ρ++List.replicate (N'.length-σ.length) Sl.un)[k]?=some (Sl.own us)->k<ρ.length/\ρ[k]?=some (Sl.own us):=fun {k us} hk=>by
   by_cases hi:k<ρ.length
   ·rw [List.getElem?_append_left hi] at hk; exact ⟨hi,hk⟩
   ·rw [List.getElem?_append_right (by omega),List.getElem?_replicate] at hk
    split at hk <;> simp at hk
  obtain ⟨l1,k1⟩:=key h1
  obtain ⟨l2,k2⟩:=key h2
  rw [List.getElem?_append_left (by omega)] at h3 h4
  exact I.ne p q ws us c hab k1 k2 h3 h4
open Classical in
def rest (G H:Hp) (Dd:Addr) (H':Hp):Hp:=fun b=>if b=Dd\/∃ o,H b=some o/\isL o=true/\G b=none then none else H' b
theorem rest_none {Dd b:Addr} {H':Hp} (h:b=Dd\/∃ o,H b=some o/\isL o=true/\G b=none):rest G H Dd H' b=none:=by unfold rest; rw [if_pos h]
theorem rest_some {Dd b:Addr} {H':Hp} (h:¬ (b=Dd\/∃ o,H b=some o/\isL o=true/\G b=none)):rest G H Dd H' b=H' b:=by unfold rest; rw [if_neg h]
theorem rest_of {Dd b:Addr} {H':Hp} {o:HO} (h:rest G H Dd H' b=some o):H' b=some o/\¬ (b=Dd\/∃ o,H b=some o/\isL o=true/\G b=none):=by
 by_cases c:b=Dd\/∃ o,H b=some o/\isL o=true/\G b=none
 ·rw [rest_none c] at h; cases h
 ·rw [rest_some c] at h; exact ⟨h,c⟩
theorem PIv.rest {Dd:Addr} {H':Hp} (I:PIv K H0 G ρ σ H) (hD:H Dd=none) (s:Same H H'):Same G (rest G H Dd H')/\PIv K H0 (rest G H Dd H') ρ σ H':=by
 have sG:Same G (TP.rest G H Dd H'):=fun b o q=>by
  rw [rest_some]
  ·exact s b o (I.gh b o q)
  ·rintro (rfl | ⟨u,h1,h2,h3⟩)
   ·rw [I.gh _ _ q] at hD; cases hD
   ·rw [q] at h3; cases h3
 refine ⟨sG,fun a o e l=>sG a o (I.g0 a o e l),fun a o e l=>rest_none (.inr ⟨o,I.hh a o e,l,I.gl a o e l⟩),fun b o q=>(rest_of q).1,I.hh.trans s,I.len,fun i x o h1 h2=>?_,I.ne⟩
 have:=I.sl i x o h1 h2
 cases x with
 | un=>trivial
 | val w=>obtain ⟨v,e,r⟩:=this; exact ⟨v,e,r.same sG⟩
 | par w=>obtain ⟨v,e,r⟩:=this; exact ⟨v,e,r.same (join_same sG)⟩
 | own ws=>
  obtain ⟨a,vs,e,h,g,h0,r⟩:=this
  exact ⟨a,vs,e,s a _ h,rest_none (.inr ⟨_,h,rfl,g⟩),h0,r.same sG⟩
 | dic ks=>
  obtain ⟨a,vs,e,h,g,h0,r⟩:=this
  exact ⟨a,vs,e,s a _ h,rest_none (.inr ⟨_,h,rfl,g⟩),h0,r⟩
 | dik ks=>
  obtain ⟨a,vs,e,h,g,h0,r⟩:=this
  exact ⟨a,vs,e,s a _ h,rest_none (.inr ⟨_,h,rfl,g⟩),h0,r⟩
 | iop p ws=>obtain ⟨e1,vs1,h1',r1⟩:=this; exact ⟨e1,vs1,h1',r1.same sG⟩
 | hz w=>obtain ⟨v,e,r⟩:=this; exact ⟨v,e,r.same (join_same (noLG_same sG))⟩
theorem rest_mono {Dd:Addr} {Ha Hb:Hp} (s:∀ b o,b≠Dd->Ha b=some o->Hb b=some o):Same (rest G H Dd Ha) (rest G H Dd Hb):=fun b o q=>by
 obtain ⟨h,c⟩:=rest_of q
 rw [rest_some c]
 exact s b o (fun z=>c (.inl z)) h
theorem rest_ext {Dd:Addr} {Ha Hb G':Hp} (hl:∃ ys,Ha Dd=some (.lst ys)) (s:Same H Ha) (e:Ext (rest G H Dd Ha) Ha G' Hb):Same G' (rest G H Dd Hb):=fun b o q=>by
 rw [rest_some]
 ·exact e.gh b o q
 ·rintro (rfl | ⟨u,h1,h2,h3⟩)
  ·obtain ⟨ys,hl⟩:=hl
   rw [e.keep _ _ hl rfl (rest_none (.inl rfl))] at q; cases q
  ·rw [e.keep _ _ (s _ _ h1) h2 (rest_none (.inr ⟨u,h1,h2,h3⟩))] at q; cases q
theorem c_comp {Q:VK} {e:Mode} {N':List Str} {g:TG} {mg:W->Rho->Option Rho} {mi:Rho->R (List W)} {mc:Rho->R Bool} {me:Rho->R W} (hg:Gt K e g mg) (h:tM K EX .F (fun ρ=>mi ρ>>=fun ws=>mComp N'.length mg mc me ws ρ) σ H Q) :
  tComp N' (tIt K EX false e mi) g (tT K EX mc) (tM K EX .V me) σ H Q:=by
 obtain ⟨H0,G,ρ,I,o⟩:=h
 refine ⟨H0,G,ρ,I,?_⟩
 replace o:Out EX G H (mdW K .F H0 H) (mi ρ>>=fun ws=>mComp N'.length mg mc me ws ρ) Q:=o
 revert o
 cases mi ρ with
 | stuck=>exact id
 | ex x=>exact id
 | ok ws=>
  intro o J G1 H1 e1 T Dd hD
  have I1:=I.ext e1
  replace o:Out EX G H (mdW K .F H0 H) (mComp N'.length mg mc me ws ρ) Q:=o
  unfold mComp at o
  by_cases hlen:ws.length<=1000
  ·rw [if_pos hlen] at o
   cases hm:mapR (elR mg mc me (ρ++List.replicate (N'.length-ρ.length) Sl.un)) ws with
   | stuck=>rw [hm] at o; exact o.elim
   | ex x=>rw [hm] at o; exact o.elim
   | ok ys=>
    rw [hm] at o
    obtain ⟨hall,hys⟩:=mapR_ok hm
    have T':ItOk K e H0 H1 G1 J ws:=by
     have:=T
     rw [if_neg Bool.false_ne_true] at this
     exact this
    generalize hρ:ρ++List.replicate (N'.length-ρ.length) Sl.un=ρi at hm hall hys
    refine ⟨fun i m H2=>m=ws.length-i/\i<=ws.length/\Same H1 H2/\∃ vs,H2 Dd=some (.lst vs)/\vs.length<=i/\Reps K (rest G1 H1 Dd H2) vs ((ws.take i).filterMap fun w=>match elR mg mc me ρi w with
     | .ok o=>o
     | _=>none),⟨_,rfl,Nat.zero_le _,fun b u q=>by rw [upd_ne (ne_of_none q hD)]; exact q,[],upd_same,Nat.le_refl _,.nil⟩,?_⟩
    rintro i m H2 ⟨rfl,hi,s2,vs,hDv,hvl,r2⟩
    by_cases hlt:i<ws.length
    ·refine .inr ⟨T'.go i H2 hlt s2,fun x H3 y=>?_⟩
     obtain ⟨sG,I2⟩:=I1.rest (Dd:=Dd) hD s2
     have I2i:=I2.inner (N':=N')
     obtain ⟨G3,e3,m3⟩:=T'.yld i H2 x H3 ws[i] (by simp) s2 y _ _ _ I2i sG
     obtain ⟨op,hop⟩:=hall ws[i] (List.getElem_mem hlt)
     have hop':=hop
     unfold elR at hop
     rw [<- hρ] at hop
     have htake:ws.take (i+1)=ws.take i ++ [ws[i]]:=by rw [List.take_succ_eq_append_getElem hlt]
     cases q:mg ws[i] (ρ++List.replicate (N'.length-ρ.length) Sl.un) with
     | none=>rw [q] at hop; cases hop
     | some ρ1=>
      rw [q] at hop
      dsimp only at hop
      refine hg H0 H2 G3 _ _ H3 x _ ρ1 _ (I2i.ext e3) m3 q fun σ4 I4=>⟨H0,G3,ρ1,I4,?_⟩
      cases hc:mc ρ1 with
      | stuck=>rw [hc] at hop; cases hop
      | ex x=>rw [hc] at hop; cases hop
      | ok b=>
       intro b' G5 H5 e5 eb
       cases eb
       rw [hc] at hop
       cases b with
       | false=>
        rw [if_neg Bool.false_ne_true]
        have hop2:op=none:=by cases hop; rfl
        have s5:Same H2 H5:=e3.hh.trans e5.hh
        refine ⟨ws.length-(i+1),by omega,rfl,hlt,s2.trans s5,vs,s5 _ _ hDv,by omega,?_⟩
        rw [htake,List.filterMap_append]
        have:([ws[i]].filterMap fun w=>match elR mg mc me ρi w with
         | .ok o=>o
         | _=>none) = []:=by
         rw [List.filterMap_cons,hop',hop2]; rfl
        rw [this,List.append_nil]
        exact r2.same (rest_mono fun b o _ q=>s5 b o q)
       | true=>
        dsimp only at hop
        rw [if_pos rfl]
        refine ⟨H0,G5,ρ1,I4.ext e5,?_⟩
        cases hme:me ρ1 with
        | stuck=>rw [hme] at hop; cases hop
        | ex x=>rw [hme] at hop; cases hop
        | ok z=>
         rw [hme] at hop
         have hop2:op=some z:=by cases hop; rfl
         intro yv G6 H6 e6 m6
         have e36:Ext (TP.rest G1 H1 Dd H2) H2 G6 H6:=(e3.trans e5).trans e6
         have s6:Same H2 H6:=e36.hh
         refine ⟨vs,s6 _ _ hDv,Nat.lt_of_le_of_lt hvl (Nat.lt_of_lt_of_le (by omega:i<1000) (by decide)),ws.length-(i+1),by omega,rfl,hlt,fun b u q=>by rw [upd_ne (ne_of_none q hD)]; exact s6 b u (s2 b u q),vs ++ [yv],upd_same,by rw [List.length_append]; simp; omega,?_⟩
         rw [htake,List.filterMap_append]
         have:([ws[i]].filterMap fun w=>match elR mg mc me ρi w with
          | .ok o=>o
          | _=>none) = [z]:=by
          rw [List.filterMap_cons,hop',hop2]; rfl
         rw [this]
         have k1:Same (TP.rest G1 H1 Dd H2) (TP.rest G1 H1 Dd (upd H6 Dd (.lst (vs ++ [yv])))):=rest_mono fun b o hb q=>by rw [upd_ne hb]; exact s6 b o q
         have k2:Same G6 (TP.rest G1 H1 Dd (upd H6 Dd (.lst (vs ++ [yv])))):=(rest_ext ⟨vs,hDv⟩ s2 e36).trans (rest_mono fun b o hb q=>by rw [upd_ne hb]; exact q)
         exact (r2.same k1).snoc (Rep.same k2 m6)
    ·have ei:i=ws.length:=by omega
     subst ei
     refine .inl ⟨T'.stop H2 s2,?_⟩
     rw [List.take_length,<- hys] at r2
     obtain ⟨sG,I2⟩:=I1.rest (Dd:=Dd) hD s2
     refine o _ (TP.rest G1 H1 Dd H2) H2 ⟨e1.gg.trans sG,e1.hh.trans s2,I2.gh,fun b u q l g=>rest_none (.inr ⟨u,e1.hh b u q,l,e1.keep b u q l g⟩)⟩ ⟨Dd,vs,rfl,hDv,rest_none (.inl rfl),e1.hh.free hD,r2⟩
  ·rw [if_neg hlen] at o; exact o.elim
def seqW:W->R (List W)
 | .lst ws=>.ok ws
 | .tup ws=>.ok ws
 | .scr ws=>.ok ws
 | _=>.stuck
theorem sq_same {t:Bool} {a:Addr} {xs:List V} (e:Same H H1) (h:Sq K H t a xs):Sq K H1 t a xs:=by
 unfold Sq at h ⊢
 split at h
 ·rename_i ht; rw [if_pos ht]; exact sqT_same e h
 ·rename_i ht; rw [if_neg ht]; exact Same.seq e h
theorem sqT {a:Addr} {xs:List V} (h:SqT K H a xs):Sq K H true a xs:=by unfold Sq; rw [if_pos rfl]; exact h
theorem sqL {a:Addr} {xs:List V} (h:SqL K H a xs):Sq K H false a xs:=by unfold Sq; rw [if_neg Bool.false_ne_true]; exact h
theorem Rep.sq {F:Hp} {x:V} {w:W} {ws:List W} (h:Rep K F x w) (hw:seqW w=.ok ws):∃ t a vs,x=.ref a/\Sq K F t a vs/\Reps K F vs ws:=by
 cases w <;> first | (cases hw; done) | skip
 ·obtain ⟨a,vs,e,s,r⟩:=h.inv; exact ⟨true,a,vs,e,sqT (SqT.of s),R.ok.inj hw ▸ r⟩
 ·obtain ⟨a,vs,e,s,r⟩:=h.inv; exact ⟨false,a,vs,e,sqL (SqL.of s),R.ok.inj hw ▸ r⟩
 ·obtain ⟨a,vs,e,s,r⟩:=h.inv; exact ⟨false,a,vs,e,sqL s,R.ok.inj hw ▸ r⟩
def srcM:Bool->Mode->Mode
 | true,e=>e
 | false,.V=>.C
 | false,_=>.B
def fz (e:Mode) (H0 G:Hp):Hp:=if e=.V then G else join H0 G
theorem Md.src {lp:Bool} {e:Mode} {Hs:Hp} {x:V} {w:W} {ws:List W} (he:e=.V\/e=.U) (I:PIv K H0 G ρ σ H) (m:Md K H0 Hs G H x w (srcM lp e)) (hw:seqW w=.ok ws) :
  ∃ t a vs,x=.ref a/\Sq K (if lp then join H0 G else H) t a vs/\Reps K (fz e H0 G) vs ws:=by
 unfold fz
 rcases he with rfl | rfl
 ·rw [if_pos rfl]
  cases lp with
  | true=>
   obtain ⟨t,a,vs,e1,e2,e3⟩:=Rep.sq m hw
   exact ⟨t,a,vs,e1,by rw [if_pos rfl]; exact sq_same I.G_join e2,e3⟩
  | false=>
   rw [if_neg Bool.false_ne_true]
   rcases m with m | ⟨a,vs,us,rfl,rfl,h1,r⟩
   ·obtain ⟨t,a,vs,e1,e2,e3⟩:=Rep.sq m hw
    exact ⟨t,a,vs,e1,sq_same I.gh e2,e3⟩
   ·cases hw; exact ⟨false,a,vs,rfl,sqL (SqL.of h1),r⟩
 ·rw [if_neg (show ¬ (Mode.U=Mode.V) by intro z; cases z)]
  cases lp with
  | true=>
   obtain ⟨t,a,vs,e1,e2,e3⟩:=Rep.sq m hw
   exact ⟨t,a,vs,e1,by rw [if_pos rfl]; exact e2,e3⟩
  | false=>
   rw [if_neg Bool.false_ne_true]
   rcases m with m | ⟨a,vs,us,rfl,rfl,h1,r⟩
   ·obtain ⟨t,a,vs,e1,e2,e3⟩:=Rep.sq m hw
    exact ⟨t,a,vs,e1,sq_same I.join_H e2,e3⟩
   ·cases hw; exact ⟨false,a,vs,rfl,sqL (SqL.of h1),r.same I.G_join⟩
theorem Md.of_fz {e:Mode} {Hs:Hp} {v:V} {w:W} (he:e=.V\/e=.U) (h:Rep K (fz e H0 G) v w):Md K H0 Hs G H v w e:=by
 unfold fz at h
 rcases he with rfl | rfl
 ·rw [if_pos rfl] at h; exact h
 ·rw [if_neg (show ¬ (Mode.U=Mode.V) by intro z; cases z)] at h; exact h
theorem fz_same {e:Mode} (s:Same G G1):Same (fz e H0 G) (fz e H0 G1):=by
 unfold fz
 split
 ·exact s
 ·exact join_same s
theorem itok_sq {e:Mode} {Z:Hp} {t:Bool} {a:Addr} {vs:List V} {ws:List W} (he:e=.V\/e=.U) (s:Sq K Z t a vs) (r:Reps K (fz e H0 G) vs ws):ItOk K e H0 Z G (ItQ K t a) ws:=by
 have hl:=r.length
 cases t with
 | true=>
  have hq:∀ H,Same Z H->SqT K H a vs:=fun H z=>by have:=sq_same z s; unfold Sq at this; rw [if_pos rfl] at this; exact this
  refine ⟨fun i H hi z=>⟨vs,vs[i]'(by omega),hq H z,by simp⟩,fun H z=>⟨vs,hq H z,by omega⟩,fun i H x H' w hw z zz83 G2 ρ σ I sg=>?_⟩
  obtain ⟨e1,y⟩:=zz83
  subst e1
  have hx:=y vs (hq _ z)
  obtain ⟨v,hv,rv⟩:=Reps.get r hw
  rw [hx] at hv; cases hv
  exact ⟨G2,Ext.refl I.gh,Md.of_fz he (rv.same (fz_same sg))⟩
 | false=>
  have hq:∀ H,Same Z H->SqL K H a vs:=fun H z=>by have:=sq_same z s; unfold Sq at this; rw [if_neg Bool.false_ne_true] at this; exact this
  refine ⟨fun i H hi z=>⟨vs,vs[i]'(by omega),hq H z,by simp⟩,fun H z=>⟨vs,hq H z,by omega⟩,fun i H x H' w hw z zz84 G2 ρ σ I sg=>?_⟩
  obtain ⟨e1,y⟩:=zz84
  subst e1
  have hx:=y vs (hq _ z)
  obtain ⟨v,hv,rv⟩:=Reps.get r hw
  rw [hx] at hv; cases hv
  exact ⟨G2,Ext.refl I.gh,Md.of_fz he (rv.same (fz_same sg))⟩
theorem lp_H {lp:Bool} (I:PIv K H0 G ρ σ H):Same (if lp then join H0 G else H) H:=by
 cases lp
 ·exact Same.refl H
 ·exact I.join_H
theorem c_iSq {lp:Bool} {e:Mode} {ml:Rho->R W} {Rr:It->Hp->Prop} (he:e=.V\/e=.U) (h:tIt K EX lp e (fun ρ=>ml ρ>>=seqW) σ H Rr):iSq K (tM K EX (srcM lp e) ml) σ H Rr:=by
 obtain ⟨H0,G,ρ,I,o⟩:=h
 refine ⟨H0,G,ρ,I,?_⟩
 replace o:OutI K EX lp e H0 G H (ml ρ>>=seqW) Rr:=o
 revert o
 cases ml ρ with
 | stuck=>exact id
 | ex x=>exact id
 | ok w=>
  intro o x G1 H1 e1 m1
  have I1:=I.ext e1
  have o':OutI K EX lp e H0 G H (seqW w) Rr:=o
  cases q:seqW w with
  | stuck=>rw [q] at o'; exact o'.elim
  | ex z=>cases w <;> cases q
  | ok ws=>
   rw [q] at o'
   obtain ⟨t,a,vs,ex,s,r⟩:=Md.src he I1 m1 q
   exact ⟨a,ex,t,vs,sq_same (lp_H I1) s,o' _ G1 H1 e1 (itok_sq he s r)⟩
def rngW (lo hi:Int):R (List W):=if -1000000<=lo/\lo<=1000000 /\ -1000000<=hi/\hi<=1000000 then .ok ((List.range (hi-lo).toNat).map fun k=>W.int (lo+(k:Nat))) else .stuck
def rng1:List W->R (List W)
 | [.int j]=>rngW 0 j
 | _=>.stuck
def rng2:List W->R (List W)
 | [.int i,.int j]=>rngW i j
 | _=>.stuck
theorem itok_rng {e:Mode} {Z:Hp} {lo:Int} {n:Nat} (he:e=.V\/e=.U):ItOk K e H0 Z G (Itr lo n) ((List.range n).map fun k=>W.int (lo+(k:Nat))):=by
 refine ⟨fun i H hi _=>by show i<n; simpa using hi,fun H _=>by simp [Itr],fun i H x H' w hw _ zz85 G2 ρ σ I _=>?_⟩
 obtain ⟨e1,e2⟩:=zz85
 subst e1; subst e2
 rw [List.getElem?_map] at hw
 cases q:(List.range n)[i]? with
 | none=>rw [q] at hw; cases hw
 | some k=>
  rw [q] at hw
  have hk:k=i:=by
   have:=List.getElem?_eq_some_iff.mp q
   obtain ⟨h1,h2⟩:=this
   simpa using h2.symm
  subst hk
  cases hw
  refine ⟨G2,Ext.refl I.gh,Md.sca rfl (fun _=>.int) e⟩
theorem tIt_bind {lp:Bool} {e b:Mode} {ma:Rho->R (List W)} {k:List W->R (List W)} {Rr:It->Hp->Prop} {Q:List V->Hp->Prop} (h:tIt K EX lp e (fun ρ=>ma ρ>>=k) σ H Rr)
  (hq:∀ H0 G ρ G1 H1 xs ws us,PIv K H0 G ρ σ H->Ext G H G1 H1->MdA K b H0 H G1 H1 ws xs->k ws=.ok us->(∀ J G' H',Ext G H G' H'->ItOk K e H0 (if lp then join H0 G' else H') G' J us->Rr J H')->Q xs H1)
  (hx:∀ ws e,k ws≠.ex e):tA K EX b ma σ H Q:=by
 obtain ⟨H0,G,ρ,I,o⟩:=h
 refine ⟨H0,G,ρ,I,?_⟩
 replace o:OutI K EX lp e H0 G H (ma ρ>>=k) Rr:=o
 revert o
 cases ma ρ with
 | stuck=>exact id
 | ex x=>exact id
 | ok ws=>
  intro o xs G1 H1 e1 m1
  have o':OutI K EX lp e H0 G H (k ws) Rr:=o
  cases q:k ws with
  | stuck=>rw [q] at o'; exact o'.elim
  | ex z=>exact absurd q (hx ws z)
  | ok us=>rw [q] at o'; exact hq H0 G ρ G1 H1 xs ws us I e1 m1 q o'
theorem rngW_ok {lo hi:Int} {us:List W} (h:rngW lo hi=.ok us):(-1000000<=lo/\lo<=1000000 /\ -1000000<=hi/\hi<=1000000)/\us=(List.range (hi-lo).toNat).map fun k=>W.int (lo+(k:Nat)):=by
 unfold rngW at h
 split at h
 ·cases h; rename_i c; exact ⟨c,rfl⟩
 ·cases h
theorem rngW_nex {lo hi:Int} {e:XW} (h:rngW lo hi=.ex e):False:=by
 unfold rngW at h
 by_cases c:-1000000<=lo/\lo<=1000000 /\ -1000000<=hi/\hi<=1000000
 ·rw [if_pos c] at h; cases h
 ·rw [if_neg c] at h; cases h
theorem c_rng1 {lp:Bool} {e:Mode} {ma:Rho->R (List W)} {Rr:It->Hp->Prop} (he:e=.V\/e=.U) (h:tIt K EX lp e (fun ρ=>ma ρ>>=rng1) σ H Rr):iRng1 (tA K EX .B ma) σ H Rr:=by
 refine tIt_bind h (fun H0 G ρ G1 H1 xs ws us I e1 m1 q o=>?_) (fun ws e z=>?_)
 ·cases m1 with
  | nil=>cases q
  | @cons w _ _ _ a t=>
   cases t with
   | cons _ _=>first | (cases q; done) | (cases w <;> cases q)
   | nil=>
    cases w <;> first | (cases q; done) | skip
    rename_i j
    obtain ⟨c,rfl⟩:=rngW_ok (show rngW 0 j=_ from q)
    refine ⟨j,by rw [Md.intB a],by omega,by omega,?_⟩
    have:=o (Itr 0 j.toNat) G1 H1 e1
    rw [Int.sub_zero] at this
    exact this (itok_rng he)
 ·cases ws with
  | nil=>cases z
  | cons w t=>
   cases t with
   | cons _ _=>first | (cases z; done) | (cases w <;> cases z)
   | nil=>
    cases w <;> first | (cases z; done) | skip
    exact rngW_nex (lo:=0) z
end
end TP
namespace TP
open PySem L2
section
variable {K:Frag} {EX:EXT} {H0 G H G1 H1 G2 H2:Hp} {ρ:Rho} {σ:St} {d:Mode} {D:Ends} {Q:VK}
theorem Reps.atI {F:Hp} {vs:List V} {ws:List W} {i:Int} {w:W} (r:Reps K F vs ws) (h:L2.atI ws i=some w):∃ v,L2.atI vs i=some v/\Rep K F v w:=by
 unfold L2.atI at h ⊢
 rw [r.length]
 cases q:ixN ws.length i with
 | none=>rw [q] at h; cases h
 | some j=>rw [q] at h; exact Reps.get r h
def fIx:W->W->R W
 | .lst ws,.int i=>toR (L2.atI ws i)
 | .tup ws,.int i=>toR (L2.atI ws i)
 | .scr ws,.int i=>toR (L2.atI ws i)
 | _,_=>.stuck
theorem o2_ixU:Op2 K .B .U (rIx K) fIx:=by
 intro EX H0 Hs G H ρ σ Ha Hb x y u v Q I s mx my o
 cases u <;> first | exact o.elim | skip
 all_goals (cases v <;> first | exact o.elim | skip)
 ·rename_i ws i
  obtain ⟨a,vs,rfl,hs,r⟩:=mx.tupB I
  replace o:Out EX G H (mdW K .U H0 Hs) (toR (L2.atI ws i)) Q:=o
  cases q:L2.atI ws i with
  | none=>rw [q] at o; exact o.elim
  | some w=>
   rw [q] at o
   obtain ⟨v,hv,rv⟩:=r.atI q
   exact .inr (.inl ⟨a,vs,i,v,rfl,my.intB,SqT.of hs,hv,o v G H (Ext.refl I.gh) rv⟩)
 ·rename_i ws i
  obtain ⟨a,vs,rfl,hs,r⟩:=mx.lstB I
  replace o:Out EX G H (mdW K .U H0 Hs) (toR (L2.atI ws i)) Q:=o
  cases q:L2.atI ws i with
  | none=>rw [q] at o; exact o.elim
  | some w=>
   rw [q] at o
   obtain ⟨v,hv,rv⟩:=r.atI q
   exact .inl ⟨a,vs,i,v,rfl,my.intB,SqL.of hs,hv,o v G H (Ext.refl I.gh) rv⟩
 ·rename_i ws i
  obtain ⟨a,vs,rfl,hs,r⟩:=mx.scrB I
  replace o:Out EX G H (mdW K .U H0 Hs) (toR (L2.atI ws i)) Q:=o
  cases q:L2.atI ws i with
  | none=>rw [q] at o; exact o.elim
  | some w=>
   rw [q] at o
   obtain ⟨v,hv,rv⟩:=r.atI q
   exact .inl ⟨a,vs,i,v,rfl,my.intB,hs,hv,o v G H (Ext.refl I.gh) rv⟩
theorem o2_ixV:Op2 K .C .V (rIx K) fIx:=by
 intro EX H0 Hs G H ρ σ Ha Hb x y u v Q I s mx my o
 cases u <;> first | exact o.elim | skip
 all_goals (cases v <;> first | exact o.elim | skip)
 ·rename_i ws i
  obtain ⟨a,vs,rfl,hs,r⟩:=mx.tupC I
  replace o:Out EX G H (mdW K .V H0 Hs) (toR (L2.atI ws i)) Q:=o
  cases q:L2.atI ws i with
  | none=>rw [q] at o; exact o.elim
  | some w=>
   rw [q] at o
   obtain ⟨v,hv,rv⟩:=r.atI q
   exact .inr (.inl ⟨a,vs,i,v,rfl,Md.intB (Md.CB I my),SqT.of hs,hv,o v G H (Ext.refl I.gh) rv⟩)
 ·rename_i ws i
  obtain ⟨a,vs,rfl,hs,r⟩:=mx.lstC I
  replace o:Out EX G H (mdW K .V H0 Hs) (toR (L2.atI ws i)) Q:=o
  cases q:L2.atI ws i with
  | none=>rw [q] at o; exact o.elim
  | some w=>
   rw [q] at o
   obtain ⟨v,hv,rv⟩:=r.atI q
   exact .inl ⟨a,vs,i,v,rfl,Md.intB (Md.CB I my),SqL.of hs,hv,o v G H (Ext.refl I.gh) rv⟩
 ·rename_i ws i
  obtain ⟨a,vs,rfl,hs,r⟩:=(Md.repC mx fun _=>W.noConfusion).inv
  replace o:Out EX G H (mdW K .V H0 Hs) (toR (L2.atI ws i)) Q:=o
  cases q:L2.atI ws i with
  | none=>rw [q] at o; exact o.elim
  | some w=>
    rw [q] at o
    obtain ⟨v,hv,rv⟩:=r.atI q
    exact .inl ⟨_,_,i,v,rfl,Md.intB (Md.CB I my),Same.seq I.gh hs,hv,o v G H (Ext.refl I.gh) rv⟩
def tOp_ (K:Frag) (EX:EXT) (m:Rho->R (Option Int)):TO:=fun σ H Q=>∃ H0 G ρ,PIv K H0 G ρ σ H/\Out EX G H (fun (b c:Option Int) _ _=>c=b) (m ρ) Q
def partW:W->R (Option Int)
 | .int i=>.ok (some i)
 | _=>.stuck
theorem c_noPart {Q:Option Int->Hp->Prop} (h:tOp_ K EX (fun _=>.ok none) σ H Q):tNoPart σ H Q:=by
 obtain ⟨H0,G,ρ,I,o⟩:=h
 exact o none G H (Ext.refl I.gh) rfl
theorem c_part {m:Rho->R W} {Q:Option Int->Hp->Prop} (h:tOp_ K EX (fun ρ=>m ρ>>=partW) σ H Q):tPart (tM K EX .B m) σ H Q:=by
 obtain ⟨H0,G,ρ,I,o⟩:=h
 refine ⟨H0,G,ρ,I,Out.bind o fun x G1 H1 u e1 m1 o1=>?_⟩
 cases u <;> first | exact o1.elim | skip
 rename_i i
 exact ⟨i,m1.intB,o1 _ G1 H1 (Ext.refl e1.gh) rfl⟩
def cutW (xs:List W) (lo hi:Option Int):List W:=(xs.drop (HT.sIx xs.length 0 lo)).take (HT.sIx xs.length xs.length hi-HT.sIx xs.length 0 lo)
theorem Reps.cut {F:Hp} {vs:List V} {ws:List W} (r:Reps K F vs ws) (lo hi:Option Int):Reps K F (cutV vs lo hi) (cutW ws lo hi):=by
 unfold cutV cutW
 rw [r.length]
 exact (r.drop _).take _
def lstOf:W->Option (List W)
 | .lst ws=>some ws
 | .scr ws=>some ws
 | _=>none
def chks (c:Bool) (ws:List W):R W:=if c||noLs ws then .ok (.lst ws) else .stuck
def cb (c:Bool):Mode:=if c then .C else .B
theorem Md.lstOf {c:Bool} {Ha:Hp} {x:V} {w:W} {ws:List W} (I:PIv K H0 G ρ σ H) (m:Md K H0 Ha G H x w (cb c)) (h:lstOf w=some ws):∃ a vs,x=.ref a/\SqL K H a vs/\Reps K (if c then G else join H0 G) vs ws:=by
 cases c with
 | true=>
  rw [if_pos rfl]
  cases w <;> first | cases h | skip
  ·obtain ⟨a,vs,e,hs,r⟩:=Md.lstC (H:=Ha) I m
   exact ⟨a,vs,e,SqL.of hs,r⟩
  ·obtain ⟨a,vs,e,hs,r⟩:=(Md.repC m fun _=>W.noConfusion).inv
   exact ⟨a,vs,e,Same.seq I.gh hs,r⟩
 | false=>
  rw [if_neg Bool.false_ne_true]
  cases w <;> first | cases h | skip
  ·obtain ⟨a,vs,e,hs,r⟩:=Md.lstB (H:=Ha) I m
   exact ⟨a,vs,e,SqL.of hs,r⟩
  ·exact Md.scrB (H:=Ha) I m
theorem Out.chks {c:Bool} {Hs:Hp} {vs:List V} {ws:List W} (I:PIv K H0 G ρ σ H) (s:Same Hs H) (r:Reps K (if c then G else join H0 G) vs ws) (o:Out EX G H (mdW K .F H0 Hs) (chks c ws) Q):∀ p,H p=none->Q (.ref p) (upd H p (.lst vs)):=by
 unfold TP.chks at o
 by_cases n:(c||noLs ws)=true
 ·rw [if_pos n] at o
  have r':Reps K G vs ws:=by
   cases c with
   | true=>rw [if_pos rfl] at r; exact r
   | false=>rw [if_neg Bool.false_ne_true] at r; exact Reps.clean I r (by simpa using n)
  exact fun p hp=>Out.newL I s r' hp o
 ·rw [if_neg n] at o; exact o.elim
theorem c_sl {c:Bool} {m:Rho->R W} {ml mh:Rho->R (Option Int)} (h:tM K EX .F (fun ρ=>m ρ>>=fun x=>ml ρ>>=fun l=>mh ρ>>=fun u=>toR (lstOf x)>>=fun ws=>chks c (cutW ws l u)) σ H Q) :
  tSl (rSlL K) (tM K EX (cb c) m) (tOp_ K EX ml) (tOp_ K EX mh) σ H Q:=by
 obtain ⟨H0,G,ρ,I,o⟩:=h
 refine ⟨H0,G,ρ,I,Out.bind o fun x G1 H1 w e1 m1 o1=>⟨H0,G1,ρ,I.ext e1,Out.bind o1 fun l' G2 H2 l e2 m2 o2=>⟨H0,G2,ρ,(I.ext e1).ext e2,Out.bind o2 fun u' G3 H3 u e3 m3 o3=>?_⟩⟩⟩
 subst m2; subst m3
 have I3:=((I.ext e1).ext e2).ext e3
 cases q:lstOf w with
 | none=>rw [q] at o3; exact o3.elim
 | some ws=>
  rw [q] at o3
  obtain ⟨a,vs,ex,hs,r⟩:=Md.lstOf I3 ((m1.move e2).move e3) q
  refine ⟨a,vs,ex,hs,Out.chks I3 ((e1.hh.trans e2.hh).trans e3.hh) (c:=c) ?_ o3⟩
  cases c with
  | true=>rw [if_pos rfl] at r ⊢; exact r.cut _ _
  | false=>rw [if_neg Bool.false_ne_true] at r ⊢; exact r.cut _ _
def Cal (K:Frag) (b d:Mode) (r:List V->Hp->VK->Prop) (f:List W->R W):Prop:=∀ (EX:EXT) (H0 Hs G H:Hp) (ρ:Rho) (σ:St) (Ha:Hp) (vs:List V) (ws:List W) (Q:VK),PIv K H0 G ρ σ H->Same Hs H->MdA K b H0 Ha G H ws vs ->
 Out EX G H (mdW K d H0 Hs) (f ws) Q->r vs H Q
theorem c_cb {b:Mode} {r:List V->Hp->VK->Prop} {f:List W->R W} {ma:Rho->R (List W)} (hr:Cal K b d r f) (h:tM K EX d (fun ρ=>ma ρ>>=fun ws=>f ws) σ H Q):tCB r (tA K EX b ma) σ H Q:=by
 obtain ⟨H0,G,ρ,I,o⟩:=h
 exact ⟨H0,G,ρ,I,Out.bind o fun xs G1 H1 ws e1 m1 o1=>hr EX H0 H G1 H1 ρ σ H xs ws Q (I.ext e1) e1.hh m1 o1⟩
def fLen:List W->R W
 | [w]=>seqW w>>=fun ws=>.ok (.int ws.length)
 | _=>.stuck
theorem b_len:Cal K .B d (fun xs H Q=>∃ p ys,xs = [.ref p]/\(SqL K H p ys\/SqT K H p ys)/\Q (.int ys.length) H) fLen:=by
 intro EX H0 Hs G H ρ σ Ha vs ws Q I s m o
 cases m with
 | nil=>exact o.elim
 | cons a t=>
  cases t with
  | cons _ _=>exact o.elim
  | nil=>
   rename_i w v
   cases w <;> first | exact o.elim | skip
   ·obtain ⟨p,ys,rfl,hs,r⟩:=a.tupB I
    exact ⟨p,ys,rfl,.inr (SqT.of hs),by rw [r.length]; exact o _ G H (Ext.refl I.gh) (Md.sca rfl (fun _=>.int) d)⟩
   ·obtain ⟨p,ys,rfl,hs,r⟩:=a.lstB I
    exact ⟨p,ys,rfl,.inl (SqL.of hs),by rw [r.length]; exact o _ G H (Ext.refl I.gh) (Md.sca rfl (fun _=>.int) d)⟩
   ·obtain ⟨p,ys,rfl,hs,r⟩:=a.scrB I
    exact ⟨p,ys,rfl,.inl hs,by rw [r.length]; exact o _ G H (Ext.refl I.gh) (Md.sca rfl (fun _=>.int) d)⟩
def fList (c:Bool):List W->R W
 | [w]=>seqW w>>=chks c
 | _=>.stuck
theorem b_list {c:Bool}:Cal K (cb c) .F (fun xs H Q=>∃ p ys,xs = [.ref p]/\(SqL K H p ys\/SqT K H p ys)/\∀ l,H l=none->Q (.ref l) (upd H l (.lst ys))) (fList c):=by
 intro EX H0 Hs G H ρ σ Ha vs ws Q I s m o
 cases m with
 | nil=>exact o.elim
 | cons a t=>
  cases t with
  | cons _ _=>exact o.elim
  | nil=>
   rename_i w v
   cases w <;> first | exact o.elim | skip
   ·rename_i us
    cases c with
    | true=>
     obtain ⟨p,ys,rfl,hs,r⟩:=Md.tupC (H:=Ha) I a
     exact ⟨p,ys,rfl,.inr (SqT.of hs),Out.chks (c:=true) I s r o⟩
    | false=>
     obtain ⟨p,ys,rfl,hs,r⟩:=Md.tupB (H:=Ha) I a
     exact ⟨p,ys,rfl,.inr (SqT.of hs),Out.chks (c:=false) I s r o⟩
   ·obtain ⟨p,ys,rfl,hs,r⟩:=Md.lstOf I a rfl
    exact ⟨p,ys,rfl,.inl hs,Out.chks I s r o⟩
   ·obtain ⟨p,ys,rfl,hs,r⟩:=Md.lstOf I a rfl
    exact ⟨p,ys,rfl,.inl hs,Out.chks I s r o⟩
def chkT (c:Bool) (ws:List W):R W:=if c||noLs ws then .ok (.tup ws) else .stuck
def fTup (c:Bool):List W->R W
 | [w]=>seqW w>>=chkT c
 | _=>.stuck
theorem b_tup {c:Bool}:Cal K (cb c) .F (fun xs H Q=>∃ p ys,xs = [.ref p]/\((SqL K H p ys/\∀ l,H l=none->Q (.ref l) (upd H l (.tup ys)))\/(SqT K H p ys/\Q (.ref p) H))) (fTup c):=by
 intro EX H0 Hs G H ρ σ Ha vs ws Q I s m o
 have key:∀ {vs:List V} {us:List W},Reps K (if c then G else join H0 G) vs us->Out EX G H (mdW K .F H0 Hs) (chkT c us) Q->Reps K G vs us/\Out EX G H (mdW K .F H0 Hs) (.ok (.tup us)) Q:=fun {vs us} r o=>by
  unfold chkT at o
  by_cases n:(c||noLs us)=true
  ·rw [if_pos n] at o
   refine ⟨?_,o⟩
   cases c with
   | true=>rw [if_pos rfl] at r; exact r
   | false=>rw [if_neg Bool.false_ne_true] at r; exact Reps.clean I r (by simpa using n)
  ·rw [if_neg n] at o; exact o.elim
 cases m with
 | nil=>exact o.elim
 | cons a t=>
  cases t with
  | cons _ _=>exact o.elim
  | nil=>
   rename_i w v
   cases w <;> first | exact o.elim | skip
   ·rename_i us
    have hx:∃ p ys,v=.ref p/\(if c then G else join H0 G) p=some (.tup ys)/\Reps K (if c then G else join H0 G) ys us:=by
     cases c with
     | true=>rw [if_pos rfl]; exact (Md.repC a fun _=>W.noConfusion).inv
     | false=>rw [if_neg Bool.false_ne_true]; exact (Md.repB a fun _=>W.noConfusion).inv
    obtain ⟨p,ys,rfl,hp,r⟩:=hx
    obtain ⟨r',o'⟩:=key r o
    have hH:H p=some (.tup ys):=by
     cases c with
     | true=>rw [if_pos rfl] at hp; exact I.gh _ _ hp
     | false=>rw [if_neg Bool.false_ne_true] at hp; exact I.join_H _ _ hp
    have hG:G p=some (.tup ys):=by
     cases c with
     | true=>rw [if_pos rfl] at hp; exact hp
     | false=>
      rw [if_neg Bool.false_ne_true] at hp
      unfold join at hp
      cases q:H0 p with
      | none=>rw [q] at hp; exact hp
      | some u=>
       rw [q] at hp
       dsimp only at hp
       by_cases hl:isL u=true
       ·rw [if_pos hl] at hp; cases hp; cases hl
       ·rw [if_neg hl] at hp; exact hp
    exact ⟨p,ys,rfl,.inr ⟨SqT.of hH,o' _ G H (Ext.refl I.gh) (.tup hG r')⟩⟩
   ·obtain ⟨p,ys,rfl,hs,r⟩:=Md.lstOf I a rfl
    obtain ⟨r',o'⟩:=key r o
    exact ⟨p,ys,rfl,.inl ⟨hs,fun l hl=>Out.newTF I r' hl o'⟩⟩
   ·obtain ⟨p,ys,rfl,hs,r⟩:=Md.lstOf I a rfl
    obtain ⟨r',o'⟩:=key r o
    exact ⟨p,ys,rfl,.inl ⟨hs,fun l hl=>Out.newTF I r' hl o'⟩⟩
def f2 (g:Int->Int->Int):List W->R W
 | [.int i,.int j]=>.ok (.int (g i j))
 | _=>.stuck
def tyW:W->Option String
 | .non=>some "NoneType"
 | .bl _=>some "bool"
 | .int _=>some "int"
 | .str _=>some "str"
 | .tup _=>some "tuple"
 | .lst _=>some "list"
 | _=>none
def fIsi:List W->R W
 | [x,.ty T]=>toR ((tyW x).bind fun A=>isiB A T)>>=fun b=>.ok (.bl b)
 | _=>.stuck
theorem tyW_of {Ha:Hp} {v:V} {w:W} {A:String} (I:PIv K H0 G ρ σ H) (m:Md K H0 Ha G H v w .B) (h:tyW w=some A):L2.tyB H v=some A:=by
 cases w <;> first | cases h | skip
 ·rw [m.nonB]; rfl
 ·rw [m.blB]; rfl
 ·rw [m.intB]; rfl
 ·rw [m.strB]; rfl
 ·obtain ⟨a,vs,rfl,hs,r⟩:=m.tupB I
  show L2.tyO (H a)=_
  rw [hs]; rfl
 ·obtain ⟨a,vs,rfl,hs,r⟩:=m.lstB I
  show L2.tyO (H a)=_
  rw [hs]; rfl
theorem b_isi:Cal K .B d rIsi fIsi:=by
 intro EX H0 Hs G H ρ σ Ha vs ws Q I s m o
 cases m with
 | nil=>exact o.elim
 | @cons x _ _ _ a t=>
  cases t with
  | nil=>exact o.elim
  | @cons y _ _ _ b t=>
   cases t with
   | cons _ _=>first | exact o.elim | (cases y <;> exact o.elim)
   | nil=>
    cases y <;> first | exact o.elim | skip
    rename_i T
    replace o:Out EX G H (mdW K d H0 Hs) (toR ((tyW x).bind fun A=>isiB A T)>>=fun b=>.ok (.bl b)) Q:=o
    cases q:tyW x with
    | none=>rw [q] at o; exact o.elim
    | some A=>
     rw [q] at o
     replace o:Out EX G H (mdW K d H0 Hs) (toR (isiB A T)>>=fun b=>.ok (.bl b)) Q:=o
     cases q2:isiB A T with
     | none=>rw [q2] at o; exact o.elim
     | some c=>
      rw [q2] at o
      exact ⟨_,T,by rw [b.tyB],A,tyW_of I a q,c,q2,o _ G H (Ext.refl I.gh) (Md.sca rfl (fun _=>.bl) d)⟩
def fCat (c:Bool):W->W->R W
 | .lst us,.lst vs=>if us.length+vs.length<=1000 then chks c (us++vs) else .stuck
 | _,_=>.stuck
theorem o2_cat {c:Bool}:Op2 K (cb c) .F rCat (fCat c):=by
 intro EX H0 Hs G H ρ σ Ha Hb x y u v Q I s mx my o
 cases u <;> first | exact o.elim | skip
 all_goals (cases v <;> first | exact o.elim | skip)
 rename_i us vs
 replace o:Out EX G H (mdW K .F H0 Hs) (if us.length+vs.length<=1000 then chks c (us++vs) else .stuck) Q:=o
 by_cases hn:us.length+vs.length<=1000
 ·rw [if_pos hn] at o
  have h1:∃ a ws,x=.ref a/\H a=some (.lst ws)/\Reps K (if c then G else join H0 G) ws us:=by
   cases c with
   | true=>exact Md.lstC (H:=Ha) I mx
   | false=>exact Md.lstB (H:=Ha) I mx
  have h2:∃ a ws,y=.ref a/\H a=some (.lst ws)/\Reps K (if c then G else join H0 G) ws vs:=by
   cases c with
   | true=>exact Md.lstC (H:=Hb) I my
   | false=>exact Md.lstB (H:=Hb) I my
  obtain ⟨a,xs,rfl,ha,ra⟩:=h1
  obtain ⟨b,ys,rfl,hb,rb⟩:=h2
  exact ⟨a,b,xs,ys,rfl,rfl,ha,hb,by rw [ra.length,rb.length]; exact le_line hn,Out.chks I s (ra.append rb) o⟩
 ·rw [if_neg hn] at o; exact o.elim
def fRep (c:Bool):W->W->R W
 | .lst us,.int k=>if us.length*k.toNat<=1000 /\ -1000<=k/\k<=1000 then chks c (List.replicate k.toNat us).flatten else .stuck
 | _,_=>.stuck
end
end TP
namespace TP
open PySem L2
def mC (w:W):Rho->R W:=fun _=>.ok w
def b1 (f:W->R W) (ma:Rho->R W):Rho->R W:=fun ρ=>ma ρ>>=fun x=>f x
def b2 (f:W->W->R W) (ma mb:Rho->R W):Rho->R W:=fun ρ=>ma ρ>>=fun x=>mb ρ>>=fun y=>f x y
def bA (f:List W->R W) (ma:Rho->R (List W)):Rho->R W:=fun ρ=>ma ρ>>=fun ws=>f ws
def bI (f:List W->R (List W)) (ma:Rho->R (List W)):Rho->R (List W):=fun ρ=>ma ρ>>=f
def bS (ma:Rho->R W):Rho->R (List W):=fun ρ=>ma ρ>>=seqW
def aN:Rho->R (List W):=fun _=>.ok []
def aC (ma:Rho->R W) (mr:Rho->R (List W)):Rho->R (List W):=fun ρ=>ma ρ>>=fun x=>mr ρ>>=fun xs=>.ok (x::xs)
def bChk (ma:Rho->R W):Rho->R W:=fun ρ=>ma ρ>>=chk
def bTest (ma:Rho->R W):Rho->R Bool:=fun ρ=>ma ρ>>=toB
def tAnd' (a b:Rho->R Bool):Rho->R Bool:=fun ρ=>rAnd (a ρ) (b ρ)
def tOr' (a b:Rho->R Bool):Rho->R Bool:=fun ρ=>rOr (a ρ) (b ρ)
def tNot' (a:Rho->R Bool):Rho->R Bool:=fun ρ=>rNot (a ρ)
def vAnd (a b:Rho->R W):Rho->R W:=fun ρ=>rAndV (a ρ) (b ρ)
def vOr (a b:Rho->R W):Rho->R W:=fun ρ=>rOrV (a ρ) (b ρ)
def vNot (a:Rho->R W):Rho->R W:=fun ρ=>rNotV (a ρ)
def vIf (c:Rho->R Bool) (a b:Rho->R W):Rho->R W:=fun ρ=>c ρ>>=fun t=>if t then a ρ else b ρ
def vChain (f f':W->W->R W) (ma mb mc:Rho->R W):Rho->R W:=fun ρ=>ma ρ>>=fun x=>mb ρ>>=fun y=>f x y>>=fun z=>toB z>>=fun c=>if c then mc ρ>>=fun u=>f' y u else .ok (.bl false)
def vTup (ma:Rho->R (List W)):Rho->R W:=fun ρ=>ma ρ>>=fun ws=>lim ws.length (.tup ws)
def vLst (ma:Rho->R (List W)):Rho->R W:=fun ρ=>ma ρ>>=fun ws=>lim ws.length (.lst ws)
def pN:Rho->R (Option Int):=fun _=>.ok none
def pS (m:Rho->R W):Rho->R (Option Int):=fun ρ=>m ρ>>=partW
def vSl (c:Bool) (m:Rho->R W) (ml mh:Rho->R (Option Int)):Rho->R W:=fun ρ=>m ρ>>=fun x=>ml ρ>>=fun l=>mh ρ>>=fun u=>toR (lstOf x)>>=fun ws=>chks c (cutW ws l u)
def vComp (n:Nat) (mi:Rho->R (List W)) (mg:W->Rho->Option Rho) (mc:Rho->R Bool) (me:Rho->R W):Rho->R W:=fun ρ=>mi ρ>>=fun ws=>mComp n mg mc me ws ρ
def yes:Rho->R Bool:=fun _=>.ok true
def sNx:Rho->R Fl:=fun ρ=>.ok (.nx ρ)
def sDrop (m:Rho->R W):Rho->R Fl:=fun ρ=>m ρ>>=fun _=>.ok (.nx ρ)
def sRet (m:Rho->R W):Rho->R Fl:=fun ρ=>m ρ>>=fun w=>.ok (.rt w)
def sRetN:Rho->R Fl:=fun _=>.ok (.rt .non)
def sV (i:Nat) (m:Rho->R W):Rho->R Fl:=fun ρ=>m ρ>>=fun w=>.ok (.nx (ρ.set i (.val w)))
def sU (i:Nat) (m:Rho->R W):Rho->R Fl:=fun ρ=>m ρ>>=fun w=>.ok (.nx (ρ.set i (.par w)))
def sF (i:Nat) (m:Rho->R W):Rho->R Fl:=fun ρ=>m ρ>>=fun w=>.ok (.nx (ρ.set i (slotF w)))
def sG (mg:W->Rho->Option Rho) (m:Rho->R W):Rho->R Fl:=fun ρ=>m ρ>>=fun w=>toR (mg w ρ)>>=fun ρ'=>.ok (.nx ρ')
def sFor (mi:Rho->R (List W)) (mg:W->Rho->Option Rho) (mb:Rho->R Fl):Rho->R Fl:=fun ρ=>mi ρ>>=fun ws=>mFor mg mb ws ρ
def sFrz (i:Nat) (m:Rho->R Fl):Rho->R Fl:=fun ρ=>m (frz i ρ)
def sBk:Rho->R Fl:=fun ρ=>.ok (.bk ρ)
def sCt:Rho->R Fl:=fun ρ=>.ok (.ct ρ)
section
variable {X:Cx} {e:Expr} {es:List Expr} {st:Stmt} {sts:List Stmt}
theorem _root_.L2.PE.mono {t t':TE} (h:PE X e t) (hm:∀ σ H Q,t' σ H Q->t σ H Q):PE X e t':=fun pins s σ H Q I q=>h pins s σ H Q I (hm σ H Q q)
theorem _root_.L2.PT.mono {t t':TT} (h:PT X e t) (hm:∀ σ H Q,t' σ H Q->t σ H Q):PT X e t':=fun pins s σ H Q I q=>h pins s σ H Q I (hm σ H Q q)
theorem _root_.L2.PW.mono {t t':TT} (h:PW X e t) (hm:∀ σ H Q,t' σ H Q->t σ H Q):PW X e t':=fun wh pins s σ H Q I q=>h wh pins s σ H Q I (hm σ H Q q)
theorem _root_.L2.PA.mono {t t':TA} (h:PA X es t) (hm:∀ σ H Q,t' σ H Q->t σ H Q):PA X es t':=fun pos pins s σ H Q I q=>h pos pins s σ H Q I (hm σ H Q q)
theorem _root_.L2.PS.mono {t t':TS} (h:PS X st t) (hm:∀ D σ H,t' D σ H->t D σ H):PS X st t':=fun pins s σ H D I q=>h pins s σ H D I (hm D σ H q)
theorem _root_.L2.PSs.mono {t t':TS} (h:PSs X sts t) (hm:∀ D σ H,t' D σ H->t D σ H):PSs X sts t':=fun pins s σ H D I q=>h pins s σ H D I (hm D σ H q)
theorem _root_.L2.PI.mono {tg:Expr} {t t':TI} (h:PI X tg e t) (hm:∀ σ H Q,t' σ H Q->t σ H Q):PI X tg e t':=fun pins s σ H Q I q=>h pins s σ H Q I (hm σ H Q q)
theorem _root_.L2.PO.mono {oe:Option Expr} {t t':TO} (h:PO X oe t) (hm:∀ σ H Q,t' σ H Q->t σ H Q):PO X oe t':=by
 intro pins s σ H Q I q
 exact h pins s σ H Q I (hm σ H Q q)
end
section
variable {X:Cx} {K:Frag} {EX:EXT} {d b:Mode} {a c e:Expr} {es rest:List Expr} {pos:Pos} {ma mb mc:Rho->R W} {ta tb:Rho->R Bool} {mr:Rho->R (List W)}
theorem q_FV (h:PE X e (tM K EX .F ma)):PE X e (tM K EX .V ma):=h.mono fun _ _ _ q=>mode_FV q
theorem q_VU (h:PE X e (tM K EX .V ma)):PE X e (tM K EX .U ma):=h.mono fun _ _ _ q=>mode_VU q
theorem q_VC (h:PE X e (tM K EX .V ma)):PE X e (tM K EX .C ma):=h.mono fun _ _ _ q=>mode_VC q
theorem q_FC (h:PE X e (tM K EX .F ma)):PE X e (tM K EX .C ma):=h.mono fun _ _ _ q=>mode_FC q
theorem q_UB (h:PE X e (tM K EX .U ma)):PE X e (tM K EX .B ma):=h.mono fun _ _ _ q=>mode_UB q
theorem q_CB (h:PE X e (tM K EX .C ma)):PE X e (tM K EX .B ma):=h.mono fun _ _ _ q=>mode_CB q
theorem q_chkF (h:PE X e (tM K EX .U ma)):PE X e (tM K EX .F (bChk ma)):=h.mono fun _ _ _ q=>mode_chk (.inl rfl) q
theorem qv (d:Mode) (i:Nat) {x:Str} (hN:X.N[i]?=some x:=by rfl) (hv:Vis X.env.scope x:=by first | exact Or.inl rfl | exact Or.inr (Or.inl rfl) | exact Or.inr (Or.inr rfl)) (hd:(x == ("__debug__" : Str))=false:=by decide)
  (hcd:(x == ("__classdict__" : Str))=false:=by decide):PE X (.Name x pos) (tM K EX d (mVar d i)):=(pe_var hN hv hd hcd).mono fun _ _ _ q=>c_var q
theorem q_int {i j}:PE X (.Constant (.int i) j pos) (tM K EX d (mC (.int i))):=pe_int.mono fun _ _ _ q=>c_const rfl (fun _=>.int) q
theorem q_bl {t j}:PE X (.Constant (.bool t) j pos) (tM K EX d (mC (.bl t))):=pe_bl.mono fun _ _ _ q=>c_const rfl (fun _=>.bl) q
theorem q_non {j}:PE X (.Constant .none j pos) (tM K EX d (mC .non)):=pe_non.mono fun _ _ _ q=>c_const rfl (fun _=>.non) q
theorem q_str {x j}:PE X (.Constant (.str x) j pos) (tM K EX d (mC (.str x))):=pe_str.mono fun _ _ _ q=>c_const rfl (fun _=>.str) q
theorem q_globI {x:Str} {i:Int} {t:Tok} (hg:Gl X x) (hm:X.mg x=some (.int i t)) (hd:(x == ("__debug__" : Str))=false:=by decide):PE X (.Name x pos) (tM K EX d (mC (.int i))):=
 (pe_glob (v:=.int i) hg hm ⟨t,rfl⟩ hd).mono fun _ _ _ q=>c_const rfl (fun _=>.int) q
theorem q_ty {x:Str} {n:String} (hg:Gl X x) (hm:X.mg x=none) (hv:bootBuiltins x=some (.type n)) (hn:x ≠ "__name__" := by decide) (hd:(x == ("__debug__" : Str))=false:=by decide):PE X (.Name x pos) (tM K EX d (mC (.ty n))):=
 (pe_bltn (v:=.ty n) hg hm hv rfl hn hd).mono fun _ _ _ q=>c_const rfl (fun _=>.ty) q
theorem q_op {op:Operator} {r:R2} {f:W->W->R W} (ho:OpR X (binaryOp op) r) (hr:Op2 K b d r f) (ha:PE X a (tM K EX b ma)) (hb:PE X c (tM K EX b mb)):PE X (.BinOp a op c pos) (tM K EX d (b2 f ma mb)):=
 (pe_op ho ha hb).mono fun _ _ _ q=>c_op hr q
theorem q_cmp {op:CmpOp} {r:R2} {f:W->W->R W} (ho:OpR X (compareOp op) r) (hr:Op2 K b d r f) (ha:PE X a (tM K EX b ma)) (hb:PE X c (tM K EX b mb)) (hm:behindInMarks op c=false:=by first | exact nomark _ | rfl):PE X (.Compare a [op] [c] pos) (tM K EX d (b2 f ma mb)):=
 (pe_cmpR ho ha hb hm).mono fun _ _ _ q=>c_op hr q
theorem q_tcmp {op:CmpOp} {r:R2} {f:W->W->R W} (ho:OpR X (compareOp op) r) (hr:Op2 K b .B r f) (ha:PE X a (tM K EX b ma)) (hb:PE X c (tM K EX b mb)) (hm:behindInMarks op c=false:=by first | exact nomark _ | rfl):PT X (.Compare a [op] [c] pos) (tT K EX (bTest (b2 f ma mb))):=
 (pt_cmpR ho ha hb hm).mono fun σ H Q q=>by
  obtain ⟨H0,G,ρ,I,o⟩:=q
  have:=c_test (ma:=b2 f ma mb) ⟨H0,G,ρ,I,o⟩
  exact c_op hr this
theorem q_un {op:UnaryOp} {r:V->Hp->VK->Prop} {f:W->R W} (ho:UnR X (unaryOp op) r) (hr:Op1 K b d r f) (ha:PE X a (tM K EX b ma)):PE X (.UnaryOp op a pos) (tM K EX d (b1 f ma)):=
 (pe_un ho ha).mono fun _ _ _ q=>c_un hr q
theorem q_val (ha:PE X a (tM K EX .B ma)) (he:∀ whole,isTrue a X.env whole=(do let v <- whole; standAt a.pos; holding [v] (truthy v)):=by intro _; rfl):PT X a (tT K EX (bTest ma)):=
 (pt_val ha he).mono fun _ _ _ q=>c_tB q
theorem q_tor1 (ha:PT X a (tT K EX ta)):PW X (.BoolOp .Or [a] pos) (tT K EX ta):=pw_or1 ha
theorem q_tor {b:Expr} (ha:PT X a (tT K EX ta)) (hb:PW X (.BoolOp .Or (b::rest) pos) (tT K EX tb)):PW X (.BoolOp .Or (a::b::rest) pos) (tT K EX (tOr' ta tb)):=(pw_or ha hb).mono fun _ _ _ q=>c_or q
theorem q_tnot (ha:PT X a (tT K EX ta)):PT X (.UnaryOp .Not a pos) (tT K EX (tNot' ta)):=(pt_not ha).mono fun _ _ _ q=>c_not q
theorem q_one {op} (h:PE X a (tM K EX d ma)):PE X (.BoolOp op [a] pos) (tM K EX d ma):=pe_one h
theorem q_and {b:Expr} (ha:PE X a (tM K EX .B ma)) (hb:PE X (.BoolOp .And (b::rest) pos) (tM K EX d mb)):PE X (.BoolOp .And (a::b::rest) pos) (tM K EX d (vAnd ma mb)):=(pe_and ha hb).mono fun _ _ _ q=>c_andV q
theorem q_not (ha:PE X a (tM K EX .B ma)):PE X (.UnaryOp .Not a pos) (tM K EX d (vNot ma)):=(pe_not ha).mono fun _ _ _ q=>c_notV q
theorem q_chain {op op':CmpOp} {r r':R2} {f f':W->W->R W} {x y z:Expr} (ho:OpR X (compareOp op) r) (hr:Op2 K b .B r f) (ho':OpR X (compareOp op') r') (hr':Op2 K b d r' f') (ha:PE X x (tM K EX b ma)) (hb:PE X y (tM K EX b mb)) (hc:PE X z (tM K EX b mc))
  (hm:lastMarks [op,op'] [y,z]=false:=by with_unfolding_all rfl):PE X (.Compare x [op,op'] [y,z] pos) (tM K EX d (vChain f f' ma mb mc)):=
 (pe_chain ho ho' ha hb hc hm).mono fun _ _ _ q=>c_chain hr hr' q
theorem q_tchain {op op':CmpOp} {r r':R2} {f f':W->W->R W} {x y z:Expr} (ho:OpR X (compareOp op) r) (hr:Op2 K b .B r f) (ho':OpR X (compareOp op') r') (hr':Op2 K b .B r' f') (ha:PE X x (tM K EX b ma)) (hb:PE X y (tM K EX b mb)) (hc:PE X z (tM K EX b mc))
  (hm:lastMarks [op,op'] [y,z]=false:=by with_unfolding_all rfl):PT X (.Compare x [op,op'] [y,z] pos) (tT K EX (bTest (vChain f f' ma mb mc))):=
 (pt_chain ho ho' ha hb hc hm).mono fun σ H Q q=>by
  obtain ⟨H0,G,ρ,I,o⟩:=q
  have:=c_test (ma:=vChain f f' ma mb mc) ⟨H0,G,ρ,I,o⟩
  exact c_chain hr hr' this
theorem q_anil:PA X [] (tA K EX d aN):=pa_nil.mono fun _ _ _ q=>c_nil q
theorem q_acons (ha:PE X e (tM K EX d ma)) (hr:PA X es (tA K EX d mr)) (hs:starEach (e::es) X.env=(false,eval e X.env)::starEach es X.env:=by rfl):PA X (e::es) (tA K EX d (aC ma mr)):=(pa_cons ha hr hs).mono fun _ _ _ q=>c_cons q
theorem q_tup {x1} (h:PA X es (tA K EX .V mr)):PE X (.Tuple es x1 pos) (tM K EX .F (vTup mr)):=(pe_tup h).mono fun _ _ _ q=>c_tup q
theorem q_tupU {x1} (h:PA X es (tA K EX .U mr)):PE X (.Tuple es x1 pos) (tM K EX .U (vTup mr)):=(pe_tup h).mono fun _ _ _ q=>c_tupU q
theorem q_lst (h:PA X es (tA K EX .V mr)):PE X (.List es pos) (tM K EX .F (vLst mr)):=(pe_lst h).mono fun _ _ _ q=>c_lst q
theorem q_ixU (ha:PE X a (tM K EX .B ma)) (hb:PE X c (tM K EX .B mb)) (hs:PlainIx c:=by exact fun _ _=>rfl) (hK:X.K=K:=by rfl):PE X (.Subscript a c pos) (tM K EX .U (b2 fIx ma mb)):=by
 subst hK; exact (pe_ix ix_seq ha hb hs).mono fun _ _ _ q=>c_op o2_ixU q
theorem q_ixV (ha:PE X a (tM K EX .C ma)) (hb:PE X c (tM K EX .C mb)) (hs:PlainIx c:=by exact fun _ _=>rfl) (hK:X.K=K:=by rfl):PE X (.Subscript a c pos) (tM K EX .V (b2 fIx ma mb)):=by
 subst hK; exact (pe_ix ix_seq ha hb hs).mono fun _ _ _ q=>c_op o2_ixV q
theorem q_pN:PO X none (tOp_ K EX pN):=po_none.mono fun _ _ _ q=>c_noPart q
theorem q_pS (h:PE X e (tM K EX .B ma)):PO X (some e) (tOp_ K EX (pS ma)):=(po_some h).mono fun _ _ _ q=>c_part q
theorem q_sl (k:Bool) {lo hi:Option Expr} {p2:Pos} {ml mh:Rho->R (Option Int)} (he:PE X e (tM K EX (cb k) ma)) (hl:PO X lo (tOp_ K EX ml)) (hu:PO X hi (tOp_ K EX mh)) (hK:X.K=K:=by rfl):PE X (.Subscript e (.Slice lo hi none p2) pos) (tM K EX .F (vSl k ma ml mh)):=by
 subst hK; exact (pe_slice sl_list he hl hu).mono fun _ _ _ q=>c_sl q
theorem q_cb {x:Str} {id:String} {r:List V->Hp->VK->Prop} {f:List W->R W} {p:Pos} (hc:CallR X (.builtin id) r) (hr:Cal K b d r f) (hg:Gl X x) (hm:X.mg x=none) (hv:bootBuiltins x=some (.builtin id)) (ha:PA X (e::es) (tA K EX b mr))
  (hn:x ≠ "__name__" := by decide) (hdb:(x == ("__debug__" : Str))=false:=by decide) (he:starEach (e::es) X.env=(false,eval e X.env)::starEach es X.env:=by rfl) (hpl:(backTo pos (starEach es X.env)).any (·.1)=false:=by rfl) :
  PE X (.Call (.Name x p) (e::es) [] pos) (tM K EX d (bA f mr)):=(pe_callB hc hg hm hv ha hn hdb he hpl).mono fun _ _ _ q=>c_cb hr q
theorem q_ct {x:Str} {T:String} {r:List V->Hp->VK->Prop} {f:List W->R W} {p:Pos} (hc:CallR X (.type T) r) (hr:Cal K b d r f) (hg:Gl X x) (hm:X.mg x=none) (hv:bootBuiltins x=some (.type T)) (ha:PA X (e::es) (tA K EX b mr))
  (hn:x ≠ "__name__" := by decide) (hdb:(x == ("__debug__" : Str))=false:=by decide) (he:starEach (e::es) X.env=(false,eval e X.env)::starEach es X.env:=by rfl) (hpl:(backTo pos (starEach es X.env)).any (·.1)=false:=by rfl) :
  PE X (.Call (.Name x p) (e::es) [] pos) (tM K EX d (bA f mr)):=(pe_callTy hc hg hm hv ha hn hdb he hpl).mono fun _ _ _ q=>c_cb hr q
theorem K_len (hK:X.K=K:=by rfl):CallR X (.builtin "len") (fun xs H Q=>∃ p ys,xs = [.ref p]/\(SqL K H p ys\/SqT K H p ys)/\Q (.int ys.length) H):=by subst hK; exact call_len_seq
theorem K_list (hK:X.K=K:=by rfl):CallR X (.type "list") (fun xs H Q=>∃ p ys,xs = [.ref p]/\(SqL K H p ys\/SqT K H p ys)/\∀ l,H l=none->Q (.ref l) (upd H l (.lst ys))):=by subst hK; exact call_list_of
theorem K_tup (hK:X.K=K:=by rfl):CallR X (.type "tuple") (fun xs H Q=>∃ p ys,xs = [.ref p]/\((SqL K H p ys/\∀ l,H l=none->Q (.ref l) (upd H l (.tup ys)))\/(SqT K H p ys/\Q (.ref p) H))):=by subst hK; exact call_tuple_of
theorem q_call {k:Nat} {f:Addr} {fd:FuncData} {ps:List Str} {x:Str} {p:Pos} {n N:Nat} {m:Rho->R Fl} (F:FnOk X.prog X.w X.K X.mg X.base CX0 k f fd ps (spM K n d (runB n N m))) (hd:d=.F\/d=.V) (hr:Room k X.A) (hg:Gl X x) (hm:X.mg x=some (.ref f)) (hk:PySem.W.keepIn X.K (.ref f)=true) (hb:Binds X.K fd ps [])
  (ha:PA X (e::es) (tA K (fun _ _=>False) .B mr)) (hdb:(x == ("__debug__" : Str))=false:=by decide) (he:starEach (e::es) X.env=(false,eval e X.env)::starEach es X.env:=by rfl) (hpl:(backTo pos (starEach es X.env)).any (·.1)=false:=by rfl) :
  PE X (.Call (.Name x p) (e::es) [] pos) (tM K (fun _ _=>False) d (bA (runB n N m) mr)):=
 (pe_call F hr hg hm hk hb .nil pass0 ha hdb he hpl).mono fun _ _ _ q=>c_call hd (fun ws h=>runB_len ws h) (fun _ _ z=>z) q
variable {tg:Expr} {lp:Bool}
theorem q_iSq (h:PE X e (tM K EX (srcM lp .U) ma)) (hK:X.K=K:=by rfl):PI X tg e (tIt K EX lp .U (bS ma)):=by subst hK; exact (pi_sq h).mono fun _ _ _ q=>c_iSq (.inr rfl) q
theorem q_rng1 {p:Pos} (hg:Gl X "range") (hm:X.mg "range" = none) (ha:PA X [a] (tA K EX .B mr)) (hs:starEach [a] X.env = [(false,eval a X.env)]:=by rfl):PI X tg (.Call (.Name "range" p) [a] [] pos) (tIt K EX lp .U (bI rng1 mr)):=
 (pi_range1 hg hm ha hs).mono fun _ _ _ q=>c_rng1 (.inr rfl) q
end
section
variable {X:Cx} {K:Frag} {EX:EXT} {d b:Mode} {e:Expr} {st:Stmt} {sts:List Stmt} {pos:Pos} {ma mb:Rho->R W} {ta:Rho->R Bool} {m n:Rho->R Fl}
theorem q_comp {cs:Scope} {N':List Str} {tg iter elt:Expr} {ifs:List Expr} {dd:Mode} {g:TG} {mg:W->Rho->Option Rho} {mi:Rho->R (List W)} (S:CompScope X.env.scope cs X.N N') (hc:X.calm=true) (hi:PI X tg iter (tIt K EX false dd mi))
  (hg:∀ cl ex s H,PG (cxComp X cs cl N' ex s H) tg g) (hgt:Gt K dd g mg) (hk:GKeep X.N.length g) (ht:∀ cl ex s H,PIf (cxComp X cs cl N' ex s H) ifs (tT K EX ta)) (he:∀ cl ex s H,PE (cxComp X cs cl N' ex s H) elt (tM K EX .V ma))
  (hs:∀ x,foldedSetIterable iter X.env x=pure x:=by intro _; rfl):PE X (.ListComp elt [⟨tg,iter,ifs,0⟩] cs pos) (tM K EX .F (vComp N'.length mi mg ta ma)):=
 (pe_comp S hc hi hg hk ht he hs).mono fun _ _ _ q=>c_comp hgt q
theorem q_pifN:PIf X [] (tT K EX yes):=fun pins s σ H Q I q=>pif_nil pins s σ H Q I (by obtain ⟨H0,G,ρ,I0,o⟩:=q; exact o true G H (Ext.refl I0.gh) rfl)
theorem q_nil:PSs X [] (tSt K EX d sNx):=pss_nil.mono fun _ _ _ q=>c_next q
theorem q_cons (h1:PS X st (tSt K EX d m)) (h2:PSs X sts (tSt K EX d n)):PSs X (st::sts) (tSt K EX d (mSeq m n)):=(pss_cons h1 h2).mono fun _ _ _ q=>c_seq q
theorem q_last (h1:PS X st (tSt K EX d m)):PSs X [st] (tSt K EX d m):=pss_one h1
theorem q_frz {i:Nat} (h:PS X st (tSt K EX d m)):PS X st (tSt K EX d (sFrz i m)):=h.mono fun _ _ _ q=>c_frz q
theorem q_expr (he:PE X e (tM K EX b ma)) (hs:swapsWith e none pos.line X.env=pure false:=by rfl):PS X (.Expr e pos) (tSt K EX d (sDrop ma)):=(ps_expr he hs).mono fun _ _ _ q=>c_drop q
theorem q_ret (he:PE X e (tM K EX d ma)):PS X (.Return (some e) pos) (tSt K EX d (sRet ma)):=(ps_ret he).mono fun _ _ _ q=>c_ret q
theorem q_retv (i:Nat) {x:Str} {p:Pos} (hd:d=.F\/d=.V) (hN:X.N[i]?=some x:=by rfl) (hv:Vis X.env.scope x:=by first | exact Or.inl rfl | exact Or.inr (Or.inl rfl) | exact Or.inr (Or.inr rfl)) (hdd:(x == ("__debug__" : Str))=false:=by decide)
  (hcd:(x == ("__classdict__" : Str))=false:=by decide):PS X (.Return (some (.Name x p)) pos) (tSt K EX d (mRetVar d i)):=(ps_ret (pe_var hN hv hdd hcd)).mono fun _ _ _ q=>c_retVar hd q
theorem q_setV {i:Nat} {x:Str} {pos':Pos} (hN:X.N.Nodup) (hi:X.N[i]?=some x) (hx:Loc X.env.scope x) (he:PE X e (tM K EX .V ma)) (hs:swapsWith e (some (.Name x pos')) pos.line X.env=pure false:=by rfl) (hf:X.fn x=true\/X.env.scope.names.lookup x=some .local:=by first | exact .inl rfl | exact .inr rfl | assumption) :
  PS X (.Assign [.Name x pos'] e pos) (tSt K EX d (sV i ma)):=(ps_set hN hi hx he hs hf).mono fun _ _ _ q=>c_setV q
theorem q_setF {i:Nat} {x:Str} {pos':Pos} (hN:X.N.Nodup) (hi:X.N[i]?=some x) (hx:Loc X.env.scope x) (he:PE X e (tM K EX .F ma)) (hs:swapsWith e (some (.Name x pos')) pos.line X.env=pure false:=by rfl) (hf:X.fn x=true\/X.env.scope.names.lookup x=some .local:=by first | exact .inl rfl | exact .inr rfl | assumption) :
  PS X (.Assign [.Name x pos'] e pos) (tSt K EX d (sF i ma)):=(ps_set hN hi hx he hs hf).mono fun _ _ _ q=>c_setF q
theorem q_app {i:Nat} {x:Str} {p apos cpos:Pos} (hN:X.N[i]?=some x) (hv:Vis X.env.scope x) (ha:PE X e (tM K EX .V ma)) (hd:(x == ("__debug__" : Str))=false:=by decide) (hcd:(x == ("__classdict__" : Str))=false:=by decide)
  (hbase:attributeBase (.Name x p) "append" X.env (eval (.Name x p) X.env)=eval (.Name x p) X.env:=by rfl)
  (hfew:((backTo cpos (starEach [e] X.env)).all (fun x=>!x.1)&&(backToKw cpos (keywordEach [] X.env)).all (fun x=>x.1.isSome)
   && decide (([e]:List Expr).length+([]:List Keyword).length+(if ([]:List Keyword).isEmpty then 0 else 1)<30))=true:=by rfl)
  (hline:(apos.endLine == cpos.line)=true:=by rfl) (hs:starEach [e] X.env=(false,eval e X.env)::starEach [] X.env:=by rfl) (hsw:swapsWith (.Call (.Attribute (.Name x p) "append" apos) [e] [] cpos) none pos.line X.env=pure false:=by rfl) :
  PS X (.Expr (.Call (.Attribute (.Name x p) "append" apos) [e] [] cpos) pos) (tSt K EX d (mApp i ma)):=(ps_expr (pe_append (pe_var hN hv hd hcd) ha hbase hfew hline hs) hsw).mono fun _ _ _ q=>c_app q
theorem q_if_ {c:Expr} {x y:List Stmt} (hc:PT X c (tT K EX ta)) (ha:PSs X x (tSt K EX d m)) (hb:PSs X y (tSt K EX d n)):PS X (.If c x y pos) (tSt K EX d (mIf ta m n)):=(ps_if hc ha hb).mono fun _ _ _ q=>c_ifS q
theorem q_for {tg iter:Expr} {body:List Stmt} {dd:Mode} {g:TG} {mg:W->Rho->Option Rho} {mi:Rho->R (List W)} (hp:PassesOwn (model X.prog X.w) X.A X.env X.xe) (hc:X.calm=true) (hi:PI X tg iter (tIt K EX true dd mi)) (hg:PG X tg g) (hgt:Gt K dd g mg) (hb:PSs X body (tSt K EX d m))
  (hs:∀ x,foldedSetIterable iter X.env x=pure x:=by intro _; rfl):PS X (.For tg iter body [] pos) (tSt K EX d (sFor mi mg m)):=(ps_for hp hc hi hg hb hs).mono fun _ _ _ q=>c_for hgt q
theorem q_set {i:Nat} {x:Str} {k:Expr} {p p2:Pos} (hN:X.N[i]?=some x) (hv:Vis X.env.scope x) (hk:PE X k (tM K EX .B mb)) (he:PE X e (tM K EX .V ma)) (hd:(x == ("__debug__" : Str))=false:=by decide) (hcd:(x == ("__classdict__" : Str))=false:=by decide)
  (hg:PG X (.Subscript (.Name x p) k p2) (gSub (tVar i) (tM K EX .B mb) rSetL))
  (hs:swapsWithSole [.Subscript (.Name x p) k p2] e pos.line X.env=pure false:=by rfl) (hw:swappedStores [.Subscript (.Name x p) k p2] e X.env=pure none:=by rfl):PS X (.Assign [.Subscript (.Name x p) k p2] e pos) (tSt K EX d (mSet i mb ma)):=
 (ps_asg he hg hs hw).mono fun _ _ _ q=>c_set q
end
end TP
namespace TP
open PySem L2
abbrev gLt (i j:Int):W:=.bl (decide (i<j))
abbrev gLe (i j:Int):W:=.bl (decide (i<=j))
abbrev gGt (i j:Int):W:=.bl (decide (j<i))
abbrev gGe (i j:Int):W:=.bl (decide (j<=i))
abbrev gAdd (i j:Int):W:=.int (i+j)
abbrev gSub (i j:Int):W:=.int (i-j)
abbrev gMul (i j:Int):W:=.int (i*j)
abbrev gMod (i j:Int):W:=.int (i%j)
abbrev gDiv (i j:Int):W:=.int (i/j)
abbrev gPow (i j:Int):W:=.int (i^j.toNat)
abbrev gNeg (i:Int):W:=.int (-i)
abbrev gMax (i j:Int):Int:=if j>i then j else i
abbrev gMin (i j:Int):Int:=if j<i then j else i
abbrev gAdd_ (i j:Int):Int:=i+j
abbrev gSub_ (i j:Int):Int:=i-j
abbrev cMod (_ j:Int):Prop:=0<j
instance (i j:Int):Decidable (CMul i j):=by unfold CMul; infer_instance
instance (i j:Int):Decidable (CDiv i j):=by unfold CDiv; infer_instance
instance (i j:Int):Decidable (CPow i j):=by unfold CPow; infer_instance
instance (i j:Int):Decidable (CPowB i j):=by unfold CPowB; infer_instance
def vOf:W->Option V
 | .non=>some .non
 | .bl b=>some (.bl b)
 | .int i=>some (.int i)
 | .str x=>some (.str x)
 | _=>none
def eqSc (u v:W):Option Bool:=match vOf u,vOf v with
 | some x,some y=>if scal x y then some (decide (x=y)) else none
 | _,_=>none
def fEqS (neg:Bool) (u v:W):R W:=match eqSc u v with
 | some b=>.ok (.bl (if neg then !b else b))
 | none=>.stuck
section
variable {K:Frag} {H0 G H:Hp} {ρ:Rho} {σ:St} {d:Mode}
theorem vOf_B {Ha:Hp} {v:V} {w:W} {x:V} (h:Md K H0 Ha G H v w .B) (e:vOf w=some x):v=x:=by
 cases w <;> first | cases e | skip
 ·exact h.nonB
 ·exact h.blB
 ·exact h.intB
 ·exact h.strB
theorem o2_eqS:Op2 K .B d rEq (fEqS false):=by
 intro EX H0 Hs G H ρ σ Ha Hb x y u v Q I s mx my o
 unfold fEqS eqSc at o
 cases hu:vOf u with
 | none=>rw [hu] at o; exact o.elim
 | some p=>
  cases hv:vOf v with
  | none=>rw [hu,hv] at o; exact o.elim
  | some q=>
   rw [hu,hv] at o
   cases vOf_B mx hu
   cases vOf_B my hv
   dsimp only at o
   by_cases c:scal x y=true
   ·rw [if_pos c] at o
    exact ⟨c,o _ G H (Ext.refl I.gh) (Md.sca rfl (fun _=>.bl) d)⟩
   ·rw [if_neg c] at o; exact o.elim
end
theorem law_of {P:Program} {w:World} {K:Frag} {mg:Str->Option Value} {base:Heap} {k:Nat} {f:Addr} {fd:FuncData} {ps:List Str} {d:Mode} {F:List W->R W} (G:FnOk P w K mg base CX0 k f fd ps (spM K 1 d F))
  (h:∀ ns:List Int,ns.length<=63->F [.scr (ns.map W.int)]=.ok (.bl true)):FnOk P w K mg base CX0 k f fd ps (fun vs H Q _=>∃ (a:Addr) (ns:List Int),vs = [.ref a]/\SqL K H a (ns.map V.int)/\ns.length<=63/\∀ H',Q (.bl true) H'):=
 G.imp fun vs H Q E zz86=>by
  obtain ⟨a,ns,e,hs,hl,q⟩:=zz86
  subst e
  refine ⟨rfl,[.scr (ns.map W.int)],.cons (.scr hs ?_) .nil,?_⟩
  ·clear hs hl
   induction ns with
   | nil=>exact .nil
   | cons n ns ih=>exact .cons .int ih
  ·rw [h ns hl]
   intro v G' H' _ _ _ m
   have e:v=.bl true:=by
    cases d <;> first | exact Rep.inv m | (rcases m with m | ⟨_,_,_,_,z,_⟩ <;> first | exact Rep.inv m | cases z)
   subst e
   exact q H'
end TP
namespace TP
open PySem L2
mutual
def pd:W->PyData
 | .non=>.none
 | .bl b=>.bool b
 | .int i=>.int i
 | .str x=>.str x
 | .ty _=>.none
 | .exc _ _=>.none
 | .cls _=>.none
 | .tup ws=>.tuple (pds ws)
 | .lst ws=>.list (pds ws)
 | .scr ws=>.list (pds ws)
def pds:List W->List PyData
 | []=>[]
 | w::ws=>pd w::pds ws
end
mutual
def shp:Nat->W->Bool
 | _,.non=>true
 | _,.bl _=>true
 | _,.int _=>true
 | _,.str x=>PyData.strOk x
 | n+1,.tup ws=>shps n ws
 | n+1,.lst ws=>shps n ws
 | n+1,.scr ws=>shps n ws
 | _,_=>false
def shps:Nat->List W->Bool
 | _,[]=>true
 | n,w::ws=>shp n w&&shps n ws
end
theorem shp_ok:∀ (w:W) (n:Nat),shp n w=true->(pd w).canLay0=true/\(pd w).depth<=n:=by
 intro w
 have tl:∀ (ws:List W) (c:List PyData->PyData),(∀ l,(c l).canLay0=PyData.canLayAll0 l)->(∀ l,(c l).depth=PyData.depthAll l+1)->(∀ n:Nat,shps n ws=true->PyData.canLayAll0 (pds ws)=true/\PyData.depthAll (pds ws)<=n)->∀ n:Nat,(match n with | 0=>false | n+1=>shps n ws)=true->(c (pds ws)).canLay0=true/\(c (pds ws)).depth<=n:=fun ws c h1 h2 ih n h=>by
  cases n with
  | zero=>cases h
  | succ n=>have:=ih n h; exact ⟨by rw [h1]; exact this.1,by rw [h2]; exact Nat.succ_le_succ this.2⟩
 have fl:∀ {n:Nat} {w:W} {P:Prop},shp n w=false->shp n w=true->P:=fun h1 h2=>by rw [h1] at h2; cases h2
 induction w using W.rec (motive_2:=fun ws=>∀ n:Nat,shps n ws=true->PyData.canLayAll0 (pds ws)=true/\PyData.depthAll (pds ws)<=n) with
 | non=>exact fun n _=>⟨rfl,Nat.zero_le _⟩
 | bl b=>exact fun n _=>⟨rfl,Nat.zero_le _⟩
 | int i=>exact fun n _=>⟨rfl,Nat.zero_le _⟩
 | str x=>exact fun n h=>⟨by cases n <;> exact h,Nat.zero_le _⟩
 | ty a=>exact fun n h=>fl (by cases n <;> rfl) h
 | exc a b=>exact fun n h=>fl (by cases n <;> rfl) h
 | cls a=>exact fun n h=>fl (by cases n <;> rfl) h
 | tup ws ih=>exact fun n h=>tl ws .tuple (fun _=>rfl) (fun _=>rfl) ih n (by cases n <;> exact h)
 | lst ws ih=>exact fun n h=>tl ws .list (fun _=>rfl) (fun _=>rfl) ih n (by cases n <;> exact h)
 | scr ws ih=>exact fun n h=>tl ws .list (fun _=>rfl) (fun _=>rfl) ih n (by cases n <;> exact h)
 | nil=>exact ⟨rfl,Nat.zero_le _⟩
 | cons w ws h1 h2=>
  rename_i n h
  have h':shp n w=true/\shps n ws=true:=(Bool.and_eq_true _ _).mp h
  have a:=h1 n h'.1
  have b:=h2 n h'.2
  exact ⟨by show (PyData.canLay0 _&&PyData.canLayAll0 _)=true; rw [a.1,b.1]; rfl,Nat.max_le.mpr ⟨a.2,b.2⟩⟩
section
variable {X:Cx} {pins:List (Addr×Obj)} {σ:St} {H:Hp} {s:Shared}
theorem Rep.reads (I:Inv X pins σ H s) {x:V} {w:W} {u:Value} (n:Nat) (r:Rep X.K H x w):shp n w=true->RelV x u->∃ as,Reads s.heap u (pd w) as:=by
 have fl:∀ {n:Nat} {w:W} {P:Prop},shp n w=false->shp n w=true->P:=fun h1 h2=>by rw [h1] at h2; cases h2
 induction r using Rep.rec (motive_2:=fun xs ws _=>∀ (us:List Value) (n:Nat),shps n ws=true->Vals xs us->∃ as,ReadsAll s.heap us (pds ws) as) generalizing u n with
 | non=>intro _ r; cases r; exact ⟨_,.none⟩
 | bl=>intro _ r; cases r; exact ⟨_,.bool _⟩
 | int=>intro _ r; obtain ⟨t,rfl⟩:=r; exact ⟨_,.int _ _⟩
 | str=>intro _ r; obtain ⟨t,rfl⟩:=r; exact ⟨_,.str _ _⟩
 | ty=>exact fun h _=>fl (by cases n <;> rfl) h
 | exc=>exact fun h _=>fl (by cases n <;> rfl) h
 | cls=>exact fun h _=>fl (by cases n <;> rfl) h
 | dct=>exact fun h _=>fl (by cases n <;> rfl) h
 | tup ha _ ih=>
  intro h r
  cases r
  cases n with
  | zero=>cases h
  | succ n=>
   obtain ⟨its,rv,⟨o,e,c,k,dd⟩,_⟩:=I.tuple (SqT.of ha)
   obtain ⟨as,q⟩:=ih _ n h rv
   exact ⟨_,.tuple e c dd (by simpa using q)⟩
 | lst ha _ ih=>
  intro h r
  cases r
  cases n with
  | zero=>cases h
  | succ n=>
   obtain ⟨its,rv,pl,_⟩:=I.list (SqL.of ha)
   obtain ⟨o,e,c,k,dd⟩:=pl.isList
   obtain ⟨as,q⟩:=ih _ n h rv
   exact ⟨_,.list e c dd (by simpa using q)⟩
 | scr ha _ ih=>
  intro h r
  cases r
  cases n with
  | zero=>cases h
  | succ n=>
   obtain ⟨its,rv,pl,_⟩:=I.list ha
   obtain ⟨o,e,c,k,dd⟩:=pl.isList
   obtain ⟨as,q⟩:=ih _ n h rv
   exact ⟨_,.list e c dd (by simpa using q)⟩
 | nil=>rename_i us n _ r; cases r; exact ⟨_,.nil⟩
 | cons _ _ h1 h2=>
  rename_i us n h r
  cases r with
  | cons r1 r2=>
   have h':=(Bool.and_eq_true _ _).mp h
   obtain ⟨as,q1⟩:=h1 n h'.1 r1
   obtain ⟨bs,q2⟩:=h2 _ n h'.2 r2
   exact ⟨_,.cons q1 q2⟩
def eqW (u v:W):Bool:=PyData.eqv (pd u) (pd v)
def rEqD (K:Frag) (neg:Bool):R2:=fun x y H Q=>∃ u v,Rep K H x u/\Rep K H y v/\shp 8 u=true/\shp 8 v=true/\Q (.bl (if neg then !eqW u v else eqW u v)) H
theorem shaped_of {w:W} (h:shp 8 w=true):SeqAt.shaped (pd w)=true:=by
 obtain ⟨a,b⟩:=shp_ok w 8 h
 unfold SeqAt.shaped
 rw [a,Bool.true_and]
 exact decide_eq_true (Nat.le_trans b (by decide))
theorem op_neD (hu:X.A.units+64<cLine):OpR X (compareOp .NotEq) (rEqD X.K true):=by
 intro pins s σ H x y v u Q I rx ry h
 obtain ⟨a,b,ra,rb,sa,sb,q⟩:=h
 obtain ⟨as,qa⟩:=Rep.reads I 8 ra sa rx
 obtain ⟨bs,qb⟩:=Rep.reads I 8 rb sb ry
 exact PyProof.Rows.ne_dataH qa qb (shaped_of sa) (shaped_of sb) hu ⟨.bl (!eqW a b),H,I,rfl,q⟩
def fEq (neg:Bool) (u v:W):R W:=if shp 8 u&&shp 8 v then .ok (.bl (if neg then !eqW u v else eqW u v)) else .stuck
theorem o2_eqD {K:Frag} {d:Mode} {neg:Bool}:Op2 K .B d (rEqD K neg) (fEq neg):=by
 intro EX H0 Hs G H ρ σ Ha Hb x y u v Q I s mx my o
 unfold fEq at o
 by_cases c:(shp 8 u&&shp 8 v)=true
 ·rw [if_pos c] at o
  have c':shp 8 u=true/\shp 8 v=true:=by simpa using c
  exact ⟨u,v,mx.whole I,my.whole I,c'.1,c'.2,o _ G H (Ext.refl I.gh) (Md.sca rfl (fun _=>.bl) d)⟩
 ·rw [if_neg c] at o; exact o.elim
def isBW:W->Bool->Bool
 | .bl a,b=>a == b
 | _,_=>false
def fIsB (neg:Bool):W->W->R W
 | u,.bl b=>.ok (.bl (if neg then !isBW u b else isBW u b))
 | _,_=>.stuck
end
theorem hu64 {A:Around} {k:Nat} (hr:Room k A):A.units+64<cLine:=hr.units
end TP
namespace TP
open PySem L2
section
variable {X:Cx} {pins:List (Addr×Obj)} {σ:St} {H:Hp} {s:Shared}
def blsW:List W->Option (List Bool)
 | []=>some []
 | .bl b::ws=>(blsW ws).map (b::·)
 | _=>none
theorem bls_map (bs:List Bool):blsW (bs.map W.bl)=some bs:=by
 induction bs with
 | nil=>rfl
 | cons b bs ih=>rw [List.map_cons,blsW,ih]; rfl
def fBools (g:List Bool->Bool):List W->R W
 | [.lst ws]=>toR (blsW ws)>>=fun bs=>.ok (.bl (g bs))
 | _=>.stuck
end
section
variable {X:Cx} {K:Frag} {d:Mode}
def intsW:List W->Option (List Int)
 | []=>some []
 | .int b::ws=>(intsW ws).map (b::·)
 | _=>none
theorem ints_map (bs:List Int):intsW (bs.map W.int)=some bs:=by
 induction bs with
 | nil=>rfl
 | cons b bs ih=>rw [List.map_cons,intsW,ih]; rfl
def fInts (g:List Int->Int):List W->R W
 | [.lst ws]=>toR (intsW ws)>>=fun bs=>.ok (.int (g bs))
 | _=>.stuck
def fAbs:List W->R W
 | [.int i]=>.ok (.int (if i<0 then -i else i))
 | _=>.stuck
def fInt:List W->R W
 | [.int i]=>.ok (.int i)
 | [.bl k]=>.ok (.int (if k then 1 else 0))
 | _=>.stuck
def fStr:List W->R W
 | [.int i]=>if i.natAbs.log2<1920 then .ok (.str (toString i)) else .stuck
 | _=>.stuck
theorem b_str:Cal K .B d (fun xs H Q=>∃ i,xs = [.int i]/\i.natAbs.log2<1920/\Q (.str (toString i)) H) fStr:=by
 intro EX H0 Hs G H ρ σ Ha vs ws Q I s m o
 cases m with
 | nil=>exact o.elim
 | @cons w v ws2 vs2 a t=>
  cases t with
  | cons _ _=>first | exact o.elim | (cases w <;> exact o.elim)
  | nil=>
   cases w <;> first | exact o.elim | skip
   rename_i i
   replace o:Out EX G H (mdW K d H0 Hs) (if i.natAbs.log2<1920 then R.ok (W.str (toString i)) else .stuck) Q:=o
   by_cases c:i.natAbs.log2<1920
   ·rw [if_pos c] at o
    exact ⟨_,by rw [a.intB],c,o _ G H (Ext.refl I.gh) (Md.sca rfl (fun _=>.str) d)⟩
   ·rw [if_neg c] at o; exact o.elim
end
end TP
namespace TP
open PySem L2
def mExt (i:Nat) (c:Bool) (m:Rho->R W):Rho->R Fl:=fun ρ=>match ρ[i]? with
 | some (.own ws)=>m ρ>>=fun w=>(match w with
  | .lst us=>if ws.length+us.length<=1000 then (if c||noLs us then .ok (.nx (ρ.set i (.own (ws++us)))) else .stuck) else .stuck
  | _=>.stuck)
 | _=>.stuck
def mRev (i:Nat):Rho->R Fl:=fun ρ=>match ρ[i]? with
 | some (.own ws)=>.ok (.nx (ρ.set i (.own ws.reverse)))
 | _=>.stuck
section
variable {K:Frag} {EX:EXT} {H0 G H:Hp} {ρ:Rho} {σ:St} {d:Mode} {D:Ends}
end
section
variable {X:Cx} {K:Frag} {EX:EXT} {d:Mode} {e:Expr} {pos:Pos} {ma:Rho->R W}
end
section
variable {X:Cx} {K:Frag} {EX:EXT} {a e tg:Expr} {es:List Expr} {pos:Pos} {ma:Rho->R W} {mr:Rho->R (List W)}
theorem q_iSqB (h:PE X e (tM K EX .B ma)) (hK:X.K=K:=by rfl):PI X tg e (tIt K EX false .U (bS ma)):=q_iSq (lp:=false) h hK
theorem q_iSqU (h:PE X e (tM K EX .U ma)) (hK:X.K=K:=by rfl):PI X tg e (tIt K EX true .U (bS ma)):=q_iSq (lp:=true) h hK
end
end TP
namespace TP
open PySem L2
section
variable {K:Frag} {EX:EXT} {H0 G H G1 H1:Hp} {ρ:Rho} {σ:St} {d:Mode} {D:Ends}
def isOwn:Sl->Bool
 | .own _=>true
 | .dic _=>true
 | .dik _=>true
 | _=>false
def noOwn (ρ:Rho):Bool:=ρ.all fun s=>!isOwn s
def sCU (i:Nat) (f:List W->R W) (ma:Rho->R (List W)):Rho->R Fl:=fun ρ=>if noOwn ρ then (ma ρ>>=fun ws=>f ws>>=fun w=>.ok (.nx (ρ.set i (.par w)))) else .stuck
end
section
variable {X:Cx} {K:Frag} {d:Mode} {e:Expr} {es:List Expr} {pos:Pos} {mr:Rho->R (List W)}
end
end TP
namespace TP
open PySem L2
section
variable {X:Cx} {tg:Expr}
end
def revW:List W->R (List W)
 | [.lst ws]=>.ok ws.reverse
 | _=>.stuck
section
variable {K:Frag} {EX:EXT} {H0 G H:Hp} {ρ:Rho} {σ:St}
end
section
variable {X:Cx} {K:Frag} {EX:EXT} {a tg:Expr} {pos:Pos} {mr:Rho->R (List W)}
end
end TP
namespace TP
open PySem L2
section
variable {X:Cx} {pins:List (Addr×Obj)} {σ:St} {H:Hp} {s:Shared}
end
def seqI:W->Option (List Int)
 | .lst ws=>intsW ws
 | .tup ws=>intsW ws
 | _=>none
def fBest (g:List Int->Int):List W->R W
 | [w]=>toR (seqI w)>>=fun ns=>if 0<ns.length then .ok (.int (g ns)) else .stuck
 | _=>.stuck
end TP
namespace HT
open PySem PySem.Spec PyProof.Rows
end HT
namespace TP
open PySem L2 PySem.Spec PyProof.Rows
variable {X:Cx} {K:Frag}
end TP
namespace TP
open PySem PySem.W PyProof.Rows
section
variable (r:Nat->Int)
def ky (p:Array Nat) (k:Nat):Int:=r (p.getD k 0)
def up (p:Array Nat) (n:Nat):Prop:=∀ k,k+1<n->ky r p k<=ky r p (k+1)
end
end TP
namespace TP
open PySem L2
section
variable {prog:Program} {w:World} {A:Around} {E:Value->Shared->Prop} {s:Shared}
end
section
variable {X:Cx}
end
section
variable {K:Frag} {EX:EXT} {H0 G H:Hp} {ρ:Rho} {σ:St}
end
section
variable {X:Cx} {K:Frag} {EX:EXT} {a:Expr} {pos:Pos} {mr:Rho->R (List W)}
end
section
variable {X:Cx}
end
end TP
namespace TP
open PySem L2
def lexLt:List Int->List Int->Bool
 | [],[]=>false
 | [],_::_=>true
 | _::_,[]=>false
 | a::as,b::bs=>if a=b then lexLt as bs else decide (a<b)
def rankL (ss:List (List Int)) (i:Nat):Int:=((ss.countP fun x=>lexLt x (ss.getD i [])):Nat)
def allLt (n:Nat) (p:Array Nat):Prop:=∀ x∈p,x<n
section
open PySem.W PyProof.Rows
variable {n:Nat} (h0:0<n)
include h0
end
section
open PySem.W PyProof.Rows
variable {prog:Program} {w:World} {A:Around} {E:Value->Shared->Prop} {s:Shared}
end
section
open PySem.W PyProof.Rows
variable {prog:Program} {w:World} {A:Around} {E:Value->Shared->Prop} {s:Shared}
end
section
variable {X:Cx} {K:Frag}
end
section
variable {K:Frag}
end
end TP
namespace TP
open PySem L2
set_option maxHeartbeats 2000000
section
variable {X:Cx} {K:Frag}
end
section
variable {K:Frag}
end
end TP
namespace L2
open PySem PySem.Spec PyProof.Rows
section
variable {X:Cx} {pins:List (Addr×Obj)} {σ:St} {H:Hp} {s:Shared} {A:Around} {E:Value->Shared->Prop} {Q:Value->Shared->Prop} {b:Bool}
theorem isinstT_ok {x:V} {u:Value} {T:String} {a:Addr} {its:List Value} (I:Inv X pins σ H s) (rx:RelV x u) (ty:tyB H x=some T) (ht:IsTup s.heap a its.toArray) (e:PySem.W.kitAny X.K (.type T) its=some b)
  (h:∀ tk,Q (.bool b) { s with toks:=tk }):wpAny (model X.prog X.w) A (call (.builtin "isinstance") [u,.ref a]) Q E s:=by
 obtain ⟨⟨c,dd,da,sl⟩,ho,hc,n,hd⟩:=ht
 replace hc:c=.type "tuple" := hc
 replace hd:da=.seq its.toArray n:=hd
 subst hc hd
 unfold tyB at ty
 split at ty
 ·cases ty; cases (show u=Value.none from rx); exact PySem.W.kia_tup PySem.W.kitx_none I.kIn True.intro ho e (fun z=>nomatch z) h
 ·rename_i y; cases ty; cases (show u=Value.bool y from rx); exact PySem.W.kia_tup PySem.W.kitx_bool I.kIn True.intro ho e (fun z=>nomatch z) h
 ·rename_i i; cases ty; obtain ⟨t,q⟩:=(show ∃ t,u=Value.int i t from rx); cases q; exact PySem.W.kia_tup PySem.W.kitx_int I.kIn True.intro ho e (fun z=>nomatch z) h
 ·rename_i y; cases ty; obtain ⟨t,q⟩:=(show ∃ t,u=Value.str y t from rx); cases q; exact PySem.W.kia_tup PySem.W.kitx_str I.kIn True.intro ho e (fun z=>nomatch z) h
 ·rename_i p
  cases (show u=Value.ref p from rx)
  unfold tyO at ty
  split at ty
  ·rename_i xs ea; cases ty
   obtain ⟨_,_,n,_,h1⟩:=(show ObjOk X.prog X.w H s.heap p (.lst xs) from I.hok p _ ea)
   exact PySem.W.kia_tup PySem.W.kitx_list I.kIn ⟨_,h1,rfl⟩ ho e (fun z=>nomatch z) h
  ·rename_i xs ea; cases ty
   obtain ⟨_,_,_,q⟩:=(show ObjOk X.prog X.w H s.heap p (.tup xs) from I.hok p _ ea)
   obtain ⟨o,h1,h2,_⟩:=q
   exact PySem.W.kia_tup PySem.W.kitx_tuple I.kIn ⟨o,h1,h2⟩ ho e (fun z=>nomatch z) h
  ·rename_i kvs ea; cases ty
   obtain ⟨_,_,vs,_,q⟩:=(show ObjOk X.prog X.w H s.heap p (.dK kvs) from I.hok p _ ea)
   obtain ⟨o,es,ep,h1,h2,_⟩:=q
   exact PySem.W.kia_tup PySem.W.kitx_dict I.kIn ⟨o,h1,h2.1⟩ ho e (fun z=>nomatch z) h
  ·cases ty
 ·cases ty
def rIsiT:List V->Hp->VK->Prop:=fun xs H Q=>∃ x a,xs = [x,.ref a]/\H a=some (.tup [.ty "list",.ty "tuple"])/\∃ T,tyB H x=some T/\∃ p q,isiB T "list" = some p/\isiB T "tuple" = some q/\Q (.bl (p||q)) H
theorem call_isiT:CallR X (.builtin "isinstance") rIsiT:=by
 intro pins s σ H xs us Q I r h
 obtain ⟨x,a,rfl,ha,T,ty,p,q,e1,e2,k⟩:=h
 obtain ⟨u,w',rfl,r1,r2⟩:=vals2 r
 have e3:w'=Value.ref a:=r2
 subst e3
 obtain ⟨its,rv,ht,_⟩:=I.tuple (SqT.of ha)
 obtain ⟨v1,v2,rfl,s1,s2⟩:=vals2 rv
 have f1:v1=Value.type "list" := s1
 have f2:v2=Value.type "tuple" := s2
 subst f1 f2
 have e:PySem.W.kitAny X.K (.type T) [.type "list",.type "tuple"]=some (p||q):=by
  unfold PySem.W.kitAny
  rw [isiB_ok e1]
  cases p with
  | true=>rfl
  | false=>
   show PySem.W.kitAny X.K (.type T) [.type "tuple"]=_
   unfold PySem.W.kitAny
   rw [isiB_ok e2]
   cases q <;> rfl
 exact isinstT_ok I r1 ty ht e fun tk=>⟨.bl (p||q),H,I.tok tk,rfl,k⟩
end
end L2
namespace TP
open PySem L2
def fIsiT:List W->R W
 | [x,.tup [.ty p,.ty q]]=>if p = "list" /\ q = "tuple" then (match tyW x with
  | some A=>(match isiB A "list",isiB A "tuple" with
   | some u,some v=>.ok (.bl (u||v))
   | _,_=>.stuck)
  | none=>.stuck) else .stuck
 | _=>.stuck
section
variable {K:Frag} {d:Mode}
theorem b_isiT:Cal K .B d rIsiT fIsiT:=by
 intro EX H0 Hs G H ρ σ Ha vs ws Q I s m o
 unfold fIsiT at o
 split at o
 ·rename_i x p q
  split at o
  ·rename_i hpq
   obtain ⟨rfl,rfl⟩:=hpq
   cases m with
   | cons a t=>
    cases t with
    | cons b t=>
     cases t
     cases q:tyW x with
     | none=>rw [q] at o; exact o.elim
     | some A=>
      rw [q] at o
      cases q2:isiB A "list" with
      | none=>simp only [q2] at o; exact o.elim
      | some u=>
       cases q3:isiB A "tuple" with
       | none=>simp only [q2,q3] at o; exact o.elim
       | some v=>
        simp only [q2,q3] at o
        obtain ⟨c,ks,rfl,hc,rc⟩:=Md.tupB I b
        cases rc with
        | cons r1 rc=>
         cases rc with
         | cons r2 rc=>
          cases rc
          cases r1
          cases r2
          exact ⟨_,c,rfl,hc,A,tyW_of I a q,u,v,q2,q3,o _ G H (Ext.refl I.gh) (Md.sca rfl (fun _=>.bl) d)⟩
  ·exact o.elim
 ·exact o.elim
end
end TP
namespace HT
open PySem PyProof.Rows
section
variable {prog:Program} {w:World} {A:Around} {E:Value->Shared->Prop} {s:Shared}
end
end HT
namespace TP
open PySem L2
section
variable {X:Cx}
end
section
variable {K:Frag} {EX:EXT} {H0 G H:Hp} {ρ:Rho} {σ:St} {Q:VK}
end
section
variable {X:Cx} {K:Frag} {EX:EXT} {e:Expr} {pos:Pos} {ma:Rho->R W}
end
end TP
namespace TP
open PySem L2
section
variable {K:Frag} {EX:EXT} {H0 G H G1 H1 F:Hp} {ρ:Rho} {σ:St} {d:Mode} {D:Ends}
end
section
variable {X:Cx} {K:Frag} {EX:EXT} {d:Mode} {e k v:Expr} {pos:Pos} {mk me:Rho->R W}
end
end TP
namespace TP
open PySem L2
set_option maxHeartbeats 2000000
section
variable {X:Cx} {K:Frag}
end
section
variable {K:Frag}
end
end TP
namespace TP
open PySem L2
section
variable {X:Cx} {K:Frag} {EX:EXT} {d:Mode} {p:Pos} {es:List Expr} {mr:Rho->R (List W)}
end
end TP
namespace TB
open PySem PySem.W
end TB
namespace Att
open PySem PySem.W PySem.Calls PyProof.Rows
end Att
namespace L2
open PySem PySem.Spec PyProof.Rows
end L2
namespace TP
open PySem L2
def CMulB (i j:Int):Prop:=CMul i j\/Builtin.Int.intBits i+Builtin.Int.intBits j<=134217728
instance (i j:Int):Decidable (CMulB i j):=by unfold CMulB; infer_instance
section
variable {X:Cx}
end
end TP
namespace TL
open PySem
section
variable {prog:Program} {w:World} {A:Around} {E:Value->Shared->Prop} {s:Shared}
end
end TL
namespace TP
open PySem L2
section
variable {X:Cx}
end
section
variable {K:Frag} {EX:EXT} {σ:St} {H:Hp} {Q:VK}
end
section
variable {X:Cx} {K:Frag} {EX:EXT} {a:Expr} {pos:Pos} {mr:Rho->R (List W)}
end
end TP
namespace TP
open PySem L2
section
variable {X:Cx}
end
section
variable {K:Frag} {EX:EXT} {d:Mode} {σ:St} {H:Hp} {Q:VK}
end
section
variable {X:Cx} {K:Frag} {EX:EXT} {d:Mode} {o e:Expr} {apos cpos:Pos} {mo me:Rho->R W}
end
end TP
namespace TP
open PySem L2
def OutW (K:Frag) (EX:EXT) (d:Mode) (H0:Hp) (r:R Fl) (D:Ends):Prop:=match r with
 | .ok (.nx ρ)=>∀ G' σ' H',PIv K H0 G' ρ σ' H'->D.nx σ' H'
 | .ok (.bk ρ)=>∀ G' σ' H',PIv K H0 G' ρ σ' H'->D.bk σ' H'
 | .ok (.ct ρ)=>∀ G' σ' H',PIv K H0 G' ρ σ' H'->D.ct σ' H'
 | .ok (.rt w)=>∀ v G' H',Same G' H'->Same H0 H'->(∀ a o,H0 a=some o->isL o=true->G' a=none)->Md K H0 H0 G' H' v w d->D.rt v H'
 | .ex e=>∀ H',Same H0 H'->EX e H'
 | .stuck=>False
section
variable {K:Frag} {EX:EXT} {H0 G H G1 H1 G2 H2:Hp} {ρ:Rho} {σ:St} {d:Mode} {D:Ends}
def clS:Sl->Sl
 | .un=>.un
 | .val w=>if noL w=true then .val w else .un
 | .par w=>if noL w=true then .val w else .un
 | .own ws=>if noLs ws=true then .own ws else .un
 | .dic ks=>.dic ks
 | .dik ks=>.dik ks
 | .iop p ws=>if noLs ws=true then .iop p ws else .un
 | .hz _=>.un
def subS (i j:Nat) (us ws':List W) (ρ:Rho):Rho:=(ρ.map clS).set i (.val (.tup (us.set j (.lst ws'))))
end
section
variable {X:Cx} {K:Frag} {EX:EXT} {d:Mode} {e:Expr} {pos:Pos} {ma:Rho->R W} {m n:Rho->R Fl} {ta:Rho->R Bool} {st:Stmt} {sts:List Stmt}
end
end TP
namespace TP
open PySem L2
set_option maxHeartbeats 2000000
section
variable {X:Cx} {K:Frag}
end
section
variable {K:Frag}
end
end TP
namespace TP
open PySem L2
def Hx (p:Addr) (H0 H1:Hp):Prop:=(∀ a,a≠p->H1 a=H0 a)/\∃ vs,H1 p=some (.lst vs)
def OutIo (K:Frag) (EX:EXT) (p:Addr) (H0:Hp) (r:R Fl) (D:Ends):Prop:=match r with
 | .ok (.nx ρ)=>∀ H0' G' σ' H',Hx p H0 H0'->PIv K H0' G' ρ σ' H'->D.nx σ' H'
 | .ok (.bk ρ)=>∀ H0' G' σ' H',Hx p H0 H0'->PIv K H0' G' ρ σ' H'->D.rt .non H'
 | .ex e=>∀ H',EX e H'
 | _=>False
def nbR:R Fl->R Fl
 | .ok (.nx ρ)=>.ok (.nx ρ)
 | .ex e=>.ex e
 | _=>.stuck
def nb (m:Rho->R Fl):Rho->R Fl:=fun ρ=>nbR (m ρ)
section
variable {K:Frag} {EX:EXT} {H0 H0' G H G1 H1 G2 H2:Hp} {ρ:Rho} {σ:St} {d:Mode} {D:Ends} {p:Addr}
def clI:Sl->Sl
 | .un=>.un
 | .val w=>.val w
 | .par w=>if noL w=true then .val w else .un
 | .own ws=>.own ws
 | .dic ks=>.dic ks
 | .dik ks=>.dik ks
 | .iop _ _=>.un
 | .hz _=>.un
def ioR (p:Addr) (ρ:Rho):R (List W):=match (ρ[1]?:Option Sl) with
 | some (.iop q cs)=>if q=p then .ok cs else .stuck
 | _=>.stuck
def runIO (n N:Nat) (m:Addr->Rho->R Fl) (p:Addr) (w1:W) (cs wr:List W):R (List W):=if wr.length+2=n/\noLs cs=true then (match m p (.par w1::.iop p cs::(wr.map Sl.par++List.replicate (N-n) Sl.un)) with
 | .ok (.nx ρ)=>ioR p ρ
 | .ok (.bk ρ)=>ioR p ρ
 | _=>.stuck) else .stuck
open Classical in
def runIOA (n N:Nat) (m:Addr->Rho->R Fl) (w1:W) (cs wr:List W):R (List W):=if h:∃ cs',∀ p,runIO n N m p w1 cs wr=.ok cs' then .ok (Classical.choose h) else .stuck
end
section
variable {X:Cx} {K:Frag} {EX:EXT} {d:Mode} {e:Expr} {es:List Expr} {pos:Pos} {ma:Rho->R W} {m n:Rho->R Fl} {ta:Rho->R Bool} {st:Stmt} {sts:List Stmt} {p:Addr} {mr:Rho->R (List W)}
end
end TP
namespace TP
open PySem L2
section
variable {K:Frag} {EX:EXT} {H0 G H:Hp} {ρ:Rho} {σ:St}
theorem Rep.ofNoL {v:V} {w:W} (r:Rep K H v w) (h:noL w=true):Rep K (noLH H) v w:=Rep.clean (PIv.begin (vs:=[]) (ws:=[]) (k:=0) (k':=0) .nil rfl) (by rw [join_noLH]; exact r) h
theorem noLH_H (K:Frag) (H:Hp):Same (noLH H) H:=(PIv.begin (K:=K) (H:=H) (vs:=[]) (ws:=[]) (k:=0) (k':=0) .nil rfl).gh
end
section
variable {X:Cx} {K:Frag} {e:Expr} {es:List Expr} {pos:Pos} {mr:Rho->R (List W)}
end
end TP
namespace TP
open PySem L2
section
variable {X:Cx}
end
section
variable {K:Frag} {EX:EXT} {H0 G H:Hp} {ρ:Rho} {σ:St} {d:Mode} {D:Ends}
end
section
variable {X:Cx} {K:Frag} {EX:EXT} {d:Mode} {e:Expr} {pos:Pos} {ma:Rho->R W}
end
end TP
namespace TP
open PySem L2
section
open PySem.W PyProof.Rows
variable {prog:Program} {w:World} {A:Around} {E:Value->Shared->Prop} {s:Shared}
theorem items_int:∀ {xs:List Int} {its:List Value},Vals (xs.map V.int) its->ItemsAre (intKind prog w) xs its:=by
 intro xs
 induction xs with
 | nil=>intro its h; cases h; exact .nil
 | cons x xs ih=>
  intro its h
  cases h with
  | cons r t=>
   obtain ⟨tk,rfl⟩:=r
   exact .cons (by simp [intKind,Value.isInt]) (ih t)
end
end TP
namespace TP
open PySem L2
section
variable {X:Cx} {pins:List (Addr×Obj)} {σ:L2.St} {H:Hp} {s:Shared}
end
section
open PySem.W PyProof.Rows
variable {Y:Cx} {K:Frag} {pn:List (Addr×Obj)} {σ:L2.St}
end
end TP
namespace TP
open PySem L2
section
open PySem.W PyProof.Rows
variable {Y:Cx} {K:Frag} {pins:List (Addr×Obj)} {σ:L2.St}
end
section
open PySem.W PyProof.Rows
variable {X:Cx} {K:Frag}
end
section
variable {K:Frag}
end
section
variable {X:Cx} {K:Frag} {EX:EXT} {e:Expr} {pos:Pos} {mr:Rho->R (List W)}
end
end TP
namespace TP
open PySem L2
section
open PySem.W PyProof.Rows
variable {X:Cx} {e:Expr} {te:TE} {st:Expr} {tk:TO} {pos p2:Pos}
end
section
variable {K:Frag} {EX:EXT} {σ:St} {H:Hp} {Q:VK}
end
section
variable {X:Cx} {K:Frag} {EX:EXT} {e:Expr} {pos:Pos} {ma:Rho->R W}
end
end TP
namespace TP
open PySem L2
section
variable {K:Frag} {EX:EXT} {H0 G H:Hp} {ρ:Rho} {σ:St} {d:Mode} {D:Ends}
end
section
variable {X:Cx} {K:Frag} {EX:EXT} {d:Mode} {e:Expr} {pos:Pos} {ma:Rho->R W}
end
end TP
namespace TP
open PySem L2
section
variable {K:Frag} {EX:EXT} {H0 G H G1 H1 F:Hp} {ρ:Rho} {σ:St} {d:Mode} {D:Ends}
end
section
variable {X:Cx} {K:Frag} {EX:EXT} {d:Mode} {e k v:Expr} {pos:Pos} {mk me:Rho->R W}
end
end TP
namespace TP
open PySem PyProof.Rows
def kk (rk:Keyed->Int) (xs:Array Keyed) (i:Nat):Int:=match xs[i]? with
 | some p=>rk p
 | none=>0
section
variable {prog:Program} {w:World} {A:Around} {E:Value->Shared->Prop} {s:Shared} {a₀:Array Keyed} {κ:SortKind} {rk:Keyed->Int}
end
def upL (rk:Keyed->Int) (l:List Keyed):Prop:=l.Pairwise fun x y=>rk x<=rk y
structure Mg (rk:Keyed->Int) (t:List Keyed) (out ra rb:List Keyed):Prop where
 perm:(out++(ra++rb)).Perm t
 up:upL rk out
 le:∀ x∈out,∀ y∈ra++rb,rk x<=rk y
def Gd (rk:Keyed->Int) (t res:List Keyed):Prop:=res.Perm t/\upL rk res
section
variable {rk:Keyed->Int} {t out p ra rb:List Keyed}
end
section
variable {prog:Program} {w:World} {A:Around} {E:Value->Shared->Prop} {s:Shared} {a₀:Array Keyed} {κ:SortKind} {rk:Keyed->Int}
end
section
variable {prog:Program} {w:World} {A:Around} {E:Value->Shared->Prop} {s:Shared} {a₀:Array Keyed} {κ:SortKind} {rk:Keyed->Int}
abbrev rn (rk:Keyed->Int) (x:Keyed):Int:=-rk x
abbrev rv (a:Array Keyed):List Keyed:=a.toList.reverse
end
section
variable {prog:Program} {w:World} {A:Around} {E:Value->Shared->Prop} {s:Shared} {a₀:Array Keyed} {κ:SortKind} {rk:Keyed->Int}
end
section
variable {prog:Program} {w:World} {A:Around} {E:Value->Shared->Prop} {s:Shared} {a₀:Array Keyed} {κ:SortKind} {rk:Keyed->Int} {arr:Array Keyed} {pd:Array (Nat×Nat×Nat)} {g lo:Nat}
structure Rl (lo:Nat) (arr arr':Array Keyed):Prop where
 perm:arr'.toList.Perm arr.toList
 same:∀ k,k<lo->arr'[k]?=arr[k]?
end
section
variable {prog:Program} {w:World} {A:Around} {E:Value->Shared->Prop} {s:Shared} {a₀:Array Keyed} {κ:SortKind} {rk:Keyed->Int} {arr:Array Keyed} {pd:Array (Nat×Nat×Nat)} {g lo:Nat}
end
end TP
namespace TP
open PySem L2
section
open PySem.W PyProof.Rows
variable {prog:Program} {w:World} {A:Around} {E:Value->Shared->Prop} {s:Shared}
open Classical in
def rkV (vs:List Value) (ss:List (List Int)) (p:Keyed):Int:=if h:∃ i,i<vs.length/\vs.getD i Value.none=p.1 then rankL ss h.choose else 0
end
section
variable {X:Cx} {K:Frag}
end
section
variable {K:Frag}
end
end TP
namespace TP
open PySem L2
def spX (K:Frag) (n:Nat) (f:List W->R W):Sp:=fun vs H Q E=>vs.length=n/\∃ F ws,Same F H/\Reps K F vs ws/\match f ws with
 | .ok w=>∀ v G' H',Same F G'->Same H H'->Same G' H'->(∀ a o,H a=some o->isL o=true->F a=none->G' a=none)->Rep K G' v w->Q v H'
 | .ex e=>∀ H',Same H H'->XE E e H'
 | .stuck=>False
def runX (n N:Nat) (m:Rho->R Fl) (ws:List W):R W:=if ws.length=n then (m (ws.map Sl.val++List.replicate (N-n) Sl.un)>>=fun f=>match f with
 | .rt w=>.ok w
 | .nx _=>.ok .non
 | _=>.stuck) else .stuck
theorem runX_len {n N:Nat} {m:Rho->R Fl} (ws:List W) (h:runX n N m ws≠.stuck):ws.length=n:=by
 unfold runX at h
 by_cases e:ws.length=n
 ·exact e
 ·rw [if_neg e] at h; exact absurd rfl h
def less (H F:Hp):Hp:=fun a=>match F a with
 | some _=>none
 | none=>H a
section
variable {K:Frag} {EX:EXT} {H0 G H G1 H1 F:Hp} {ρ:Rho} {σ:St} {d:Mode} {D:Ends}
theorem less_n {a:Addr} (h:F a=none):less H F a=H a:=by unfold less; rw [h]
theorem less_s {a:Addr} {o:HO} (h:less H F a=some o):F a=none/\H a=some o:=by
 unfold less at h
 cases q:F a with
 | none=>rw [q] at h; exact ⟨rfl,h⟩
 | some u=>rw [q] at h; cases h
theorem same_less {H':Hp} (sF:Same F H) (h1:Same (less H F) H') (h2:Same F H'):Same H H':=fun a o e=>by
 cases q:F a with
 | none=>exact h1 a o (by rw [less_n q]; exact e)
 | some u=>
  have:=sF a u q
  rw [e] at this; cases this
  exact h2 a o q
theorem noLH_s {a:Addr} {o:HO} (h:noLH H a=some o):H a=some o/\isL o=false:=by
 unfold noLH at h
 cases q:H a with
 | none=>rw [q] at h; cases h
 | some u=>
  rw [q] at h
  dsimp only at h
  cases hl:isL u
  ·rw [hl] at h; cases h; exact ⟨rfl,hl⟩
  ·rw [hl] at h; cases h
theorem slotsV:∀ {vs:List V} {ws:List W} {i:Nat} {x:Sl} {o:Option V} {k k':Nat},Reps K F vs ws->(ws.map Sl.val++List.replicate k Sl.un)[i]?=some x->(vs.map some++List.replicate k' none)[i]?=some o->x=.un\/∃ v w,x=.val w/\o=some v/\Rep K F v w
 | _,_,i,x,o,k,k',.nil,h1,h2=>by
  simp only [List.map_nil,List.nil_append,List.getElem?_replicate] at h1
  split at h1 <;> simp only [Option.some.injEq,reduceCtorEq] at h1
  exact .inl h1.symm
 | _,_,0,x,o,k,k',.cons r _,h1,h2=>by
  simp at h1 h2
  exact .inr ⟨_,_,h1.symm,h2.symm,r⟩
 | _,_,i+1,x,o,k,k',.cons _ t,h1,h2=>by
  simp only [List.map_cons,List.cons_append,List.getElem?_cons_succ] at h1 h2
  exact slotsV t h1 h2
theorem PIv.beginX {vs:List V} {ws:List W} {k k':Nat} (sF:Same F H) (r:Reps K F vs ws) (hk:k=k'):PIv K (less H F) (both F (noLH H)) (ws.map Sl.val++List.replicate k Sl.un) (vs.map some++List.replicate k' none) H where
 g0 a o e l:=by
  obtain ⟨h1,h2⟩:=less_s e
  unfold both; rw [h1]; dsimp only
  unfold noLH; rw [h2]; dsimp only; rw [l]; rfl
 gl a o e l:=by
  obtain ⟨h1,h2⟩:=less_s e
  unfold both; rw [h1]; dsimp only
  unfold noLH; rw [h2]; dsimp only; rw [l]; rfl
 gh a o e:=by
  unfold both at e
  cases q:F a with
  | none=>rw [q] at e; exact (noLH_s e).1
  | some u=>rw [q] at e; cases e; exact sF a _ q
 hh a o e:=(less_s e).2
 len:=by subst hk; simp [r.length]
 sl i x o h1 h2:=by
  rcases slotsV r h1 h2 with rfl | ⟨v,w,rfl,rfl,q⟩
  ·trivial
  ·exact ⟨v,rfl,q.same fun b u e=>by unfold both; rw [e]⟩
 ne i j us xs a hij h1 _ _ _:=by
  have:∀ (i:Nat) (us:List W),(ws.map Sl.val++List.replicate k Sl.un)[i]?≠some (Sl.own us):=fun i us q=>by
   rw [List.getElem?_append] at q
   split at q
   ·rw [List.getElem?_map] at q
    cases hh:ws[i]? <;> rw [hh] at q <;> cases q
   ·rw [List.getElem?_replicate] at q
    split at q <;> cases q
  exact absurd h1 (this i us)
theorem c_bodyX {n:Nat} {Nl:List Str} {m:Rho->R Fl} {vs:List V} {Q:VK} {E:XK} (h:spX K n (runX n Nl.length m) vs H Q E):tSt K (fun _ _=>False) .V m { nx:=fun _ H'=>Q .non H',rt:=Q } (L2.start Nl vs) H:=by
 obtain ⟨hl,F,ws,sF,r,o⟩:=h
 have hw:ws.length=n:=by rw [<- r.length]; exact hl
 unfold runX at o
 rw [if_pos hw] at o
 have sB:Same F (both F (noLH H)):=fun b u e=>by unfold both; rw [e]
 refine ⟨less H F,both F (noLH H),_,PIv.beginX (k:=Nl.length-n) sF r (by rw [hl]),?_⟩
 revert o
 cases m (ws.map Sl.val++List.replicate (Nl.length-n) Sl.un) with
 | stuck=>exact id
 | ex e=>exact fun o=>(o H (Same.refl H)).elim
 | ok f=>
  cases f with
  | nx ρ'=>exact fun o G' σ' H' s' I'=>o .non G' H' (sB.trans s') (same_less sF I'.hh ((sB.trans s').trans I'.gh)) I'.gh (fun a o e l q=>I'.gl a o (by rw [less_n q]; exact e) l) .non
  | rt w=>exact fun o v G' H' s0 s1 s2 c md=>o v G' H' (sB.trans s0) (same_less sF s2 ((sB.trans s0).trans s1)) s1 (fun a o e l q=>c a o (by rw [less_n q]; exact e) l) md
  | bk _=>exact fun o=>o.elim
  | ct _=>exact fun o=>o.elim
def frzL:List Nat->Rho->Rho
 | [],ρ=>ρ
 | j::js,ρ=>frzL js (frz j ρ)
theorem PIv.frzL:∀ {js:List Nat} {G:Hp} {ρ:Rho},PIv K H0 G ρ σ H->∃ G',Same G G'/\PIv K H0 G' (frzL js ρ) σ H
 | [],G,ρ,I=>⟨G,Same.refl G,I⟩
 | j::js,G,ρ,I=>by
  obtain ⟨G1,s1,I1⟩:=I.frz (i:=j)
  obtain ⟨G2,s2,I2⟩:=PIv.frzL (js:=js) I1
  exact ⟨G2,s1.trans s2,I2⟩
def setX (i:Nat) (js:List Nat) (w:W) (ρ:Rho):Rho:=if noL w=true then ρ.set i (.val w) else (frzL js ρ).set i (.val w)
def sCX (i:Nat) (js:List Nat) (f:List W->R W) (ma:Rho->R (List W)):Rho->R Fl:=fun ρ=>ma (frzL js ρ)>>=fun ws=>f ws>>=fun w=>.ok (.nx (setX i js w ρ))
theorem MdA.repsV {Hs:Hp}:∀ {ws:List W} {vs:List V},MdA K .V H0 Hs G H ws vs->Reps K G vs ws
 | _,_,.nil=>.nil
 | _,_,.cons h t=>.cons h (MdA.repsV t)
theorem c_callX {i n:Nat} {js:List Nat} {f:List W->R W} {E:XK} {ma:Rho->R (List W)} (hf:∀ ws,f ws≠.stuck->ws.length=n) (hE:∀ e H,EX e H->XE E e H) (h:tSt K EX d (sCX i js f ma) D σ H) :
  tAsg (tCall (spX K n f) [] E (tA K EX .V ma)) (gName i) D σ H:=by
 obtain ⟨H0,G,ρ,I,o⟩:=h
 obtain ⟨G2,s2,I2⟩:=I.frzL (js:=js)
 refine ⟨H0,G2,frzL js ρ,I2,?_⟩
 unfold sCX at o
 cases hma:ma (frzL js ρ) with
 | stuck=>rw [hma] at o; exact o.elim
 | ex e=>rw [hma] at o; exact fun H' s=>o H' (I.hh.trans s)
 | ok ws=>
  rw [hma,R.ok_bind] at o
  intro xs G1 H1 e1 m1
  have I1:=I2.ext e1
  have r:=MdA.repsV m1
  rw [List.append_nil]
  refine ⟨?_,G1,ws,I1.gh,r,?_⟩
  ·rw [r.length]
   refine hf ws fun z=>?_
   rw [z] at o; exact o
  ·revert o
   cases f ws with
   | stuck=>exact id
   | ex e=>exact fun o H' s=>hE e H' (o H' (I1.hh.trans s))
   | ok w=>
    intro o v G' H' sG sH gH cl md
    rw [R.ok_bind] at o
    by_cases hn:noL w=true
    ·have hs:setX i js w ρ=ρ.set i (.val w):=if_pos hn
     rw [hs] at o
     have sHH:Same H H':=e1.hh.trans sH
     have rH:Rep K H' v w:=md.same gH
     have sN:Same (noLH H') H':=noLH_H K H'
     have sB:Same G (both G (noLH H')):=fun b o q=>by unfold both; rw [q]
     have sB':Same (noLH H') (both G (noLH H')):=fun b o q=>by
      unfold both
      cases q1:G b with
      | none=>exact q
      | some y=>
       have a1:=sHH b y (I.gh b y q1)
       rw [sN b o q] at a1
       exact a1.symm
     have sHB:Same (both G (noLH H')) H':=fun b o q=>by
      unfold both at q
      cases q1:G b with
      | none=>rw [q1] at q; exact sN b o q
      | some y=>rw [q1] at q; cases q; exact sHH b _ (I.gh b _ q1)
     have ex:Ext G H (both G (noLH H')) H':=⟨sB,sHH,sHB,fun b o q l g=>by
      unfold both; rw [g]; dsimp only
      unfold noLH; rw [sHH b o q]; dsimp only; rw [if_pos l]⟩
     exact o _ _ H' sB ((I.ext ex).setV ((Rep.ofNoL rH hn).same sB'))
    ·have hs:setX i js w ρ=(frzL js ρ).set i (.val w):=if_neg hn
     rw [hs] at o
     have ex:Ext G1 H1 G' H':=⟨sG,sH,gH,cl⟩
     exact o G' _ H' ((s2.trans e1.gg).trans sG) ((I1.ext ex).setV md)
theorem c_callXV {n:Nat} {f:List W->R W} {E:XK} {ma:Rho->R (List W)} {Q:VK} (hf:∀ ws,f ws≠.stuck->ws.length=n) (hE:∀ e H,EX e H->XE E e H) (h:tM K EX .V (fun ρ=>ma ρ>>=fun ws=>f ws) σ H Q) :
  tCall (spX K n f) [] E (tA K EX .V ma) σ H Q:=by
 obtain ⟨H0,G,ρ,I,o⟩:=h
 refine ⟨H0,G,ρ,I,Out.bind o fun xs G1 H1 ws e1 m1 o1=>?_⟩
 have I1:=I.ext e1
 have r:=MdA.repsV m1
 rw [List.append_nil]
 refine ⟨?_,G1,ws,I1.gh,r,?_⟩
 ·rw [r.length]
  refine hf ws fun z=>?_
  rw [z] at o1; exact o1
 ·revert o1
  cases f ws with
  | stuck=>exact id
  | ex e=>exact fun o1 H' s=>hE e H' (o1 H' s)
  | ok w=>exact fun o1 v G' H' sG sH gH cl md=>o1 v G' H' ⟨sG,sH,gH,cl⟩ md
end
section
variable {X:Cx} {K:Frag} {d:Mode} {e:Expr} {es:List Expr} {pos:Pos} {mr:Rho->R (List W)}
theorem q_callX {k:Nat} {f:Addr} {fd:FuncData} {ps:List Str} {x:Str} {p:Pos} {n N:Nat} {m:Rho->R Fl} (F:FnOk X.prog X.w X.K X.mg X.base CX0 k f fd ps (spX K n (runX n N m))) (hr:Room k X.A) (hg:Gl X x) (hm:X.mg x=some (.ref f)) (hk:PySem.W.keepIn X.K (.ref f)=true) (hb:Binds X.K fd ps [])
  (ha:PA X (e::es) (tA K (fun _ _=>False) .V mr)) (hdb:(x == ("__debug__" : Str))=false:=by decide) (he:starEach (e::es) X.env=(false,eval e X.env)::starEach es X.env:=by rfl) (hpl:(backTo pos (starEach es X.env)).any (·.1)=false:=by rfl) :
  PE X (.Call (.Name x p) (e::es) [] pos) (tM K (fun _ _=>False) .V (bA (runX n N m) mr)):=
 (pe_call F hr hg hm hk hb .nil pass0 ha hdb he hpl).mono fun _ _ _ q=>c_callXV (fun ws h=>runX_len ws h) (fun _ _ z=>z) q
theorem q_setCX {i k:Nat} {js:List Nat} {y:Str} {pos':Pos} {f:Addr} {fd:FuncData} {ps:List Str} {x:Str} {p cpos:Pos} {n N:Nat} {m:Rho->R Fl} (hN:X.N.Nodup) (hi:X.N[i]?=some y) (hy:Loc X.env.scope y)
  (F:FnOk X.prog X.w X.K X.mg X.base CX0 k f fd ps (spX K n (runX n N m))) (hr:Room k X.A) (hg:Gl X x) (hm:X.mg x=some (.ref f)) (hk:PySem.W.keepIn X.K (.ref f)=true) (hb:Binds X.K fd ps [])
  (ha:PA X (e::es) (tA K (fun _ _=>False) .V mr)) (hdb:(x == ("__debug__" : Str))=false:=by decide) (he:starEach (e::es) X.env=(false,eval e X.env)::starEach es X.env:=by rfl) (hpl:(backTo cpos (starEach es X.env)).any (·.1)=false:=by rfl)
  (hs:swapsWith (.Call (.Name x p) (e::es) [] cpos) (some (.Name y pos')) pos.line X.env=pure false:=by rfl) (hf:X.fn y=true\/X.env.scope.names.lookup y=some .local:=by first | exact .inl rfl | exact .inr rfl | assumption) :
  PS X (.Assign [.Name y pos'] (.Call (.Name x p) (e::es) [] cpos) pos) (tSt K (fun _ _=>False) d (sCX i js (runX n N m) mr)):=
 (ps_set hN hi hy (pe_call F hr hg hm hk hb .nil pass0 ha hdb he hpl) hs hf).mono fun _ _ _ q=>c_callX (fun ws h=>runX_len ws h) (fun _ _ z=>z) q
end
theorem frzL_nil (ρ:Rho):frzL [] ρ=ρ:=rfl
theorem frzL_cons (j:Nat) (js:List Nat) (ρ:Rho):frzL (j::js) ρ=frzL js (frz j ρ):=rfl
def RcX (f:List W->R W) (i:Nat) (js:List Nat) (ρ:Rho):R (List W)->R Fl
 | .ok ws=>f ws>>=fun w=>.ok (.nx (setX i js w ρ))
 | .ex e=>.ex e
 | .stuck=>.stuck
theorem sCX_ap (i:Nat) (js:List Nat) (f:List W->R W) (ma:Rho->R (List W)) (ρ:Rho):sCX i js f ma ρ=RcX f i js ρ (ma (frzL js ρ)):=by
 unfold sCX
 cases ma (frzL js ρ) <;> rfl
theorem RcX_ok (f:List W->R W) (i:Nat) (js:List Nat) (ρ:Rho) (ws:List W):RcX f i js ρ (.ok ws)=(f ws>>=fun w=>.ok (.nx (setX i js w ρ))):=rfl
theorem setX_l {i:Nat} {js:List Nat} {w:W} {ρ:Rho} (h:noL w=false):setX i js w ρ=(frzL js ρ).set i (.val w):=if_neg (by rw [h]; exact Bool.false_ne_true)
end TP
namespace TP
open PySem L2
section
variable {K:Frag} {EX:EXT} {X:Cx} {tg e:Expr} {ma:Rho->R W}
end
end TP
namespace TP
open PySem L2
def OutN (K:Frag) (d:Mode) (Hb:Hp) (r:R Fl) (D:Ends):Prop:=match r with
 | .ok (.nx ρ)=>∀ H0 G' σ' H',Same Hb H0->PIv K H0 G' ρ σ' H'->D.nx σ' H'
 | .ok (.rt w)=>∀ v G' H',Same G' H'->Same Hb H'->(∀ a o,Hb a=some o->isL o=true->G' a=none)->Md K Hb Hb G' H' v w d->D.rt v H'
 | _=>False
section
variable {K:Frag} {EX:EXT} {Hb H0 G H G1 H1 G2 H2:Hp} {ρ:Rho} {σ:St} {d:Mode} {D:Ends}
end
section
variable {X:Cx} {K:Frag} {EX:EXT} {d:Mode} {e:Expr} {es:List Expr} {pos:Pos} {ma:Rho->R W} {mr:Rho->R (List W)} {m n:Rho->R Fl} {ta:Rho->R Bool} {st:Stmt} {sts:List Stmt}
end
end TP
namespace TP
open PySem L2
open PyProof.Rows (envOfC)
def XE1 (K:Frag) (E:XK):EXT:=fun e H=>∀ (C:Addr) (od:Option Addr),PySem.W.nsIn K mainGlobals e.cls=some (some (.ref C))->XD H od e.at_->E (.ref C) od H
def spR (K:Frag) (n:Nat) (d:Mode) (f:List W->R W):Sp:=fun vs H Q E=>vs.length=n/\∃ ws,Reps K H vs ws/\match f ws with
 | .ok w=>∀ v G' H',Same H H'->Same G' H'->(∀ a o,H a=some o->isL o=true->G' a=none)->Md K H H G' H' v w d->Q v H'
 | .ex e=>∀ H',Same H H'->XE1 K E e H'
 | .stuck=>False
def calm (f:List W->R W):List W->R W:=fun ws=>match f ws with
 | .ok w=>.ok w
 | _=>.stuck
theorem calm_ok {f:List W->R W} {ws:List W} {w:W} (h:f ws=.ok w):calm f ws=.ok w:=by unfold calm; rw [h]
theorem calm_ne {f:List W->R W} {ws:List W} {e:XW}:calm f ws≠.ex e:=by
 unfold calm
 cases f ws <;> intro z <;> cases z
theorem calm_of {f:List W->R W} {ws:List W} {w:W} (h:calm f ws=.ok w):f ws=.ok w:=by
 unfold calm at h
 revert h
 cases f ws with
 | ok u=>exact id
 | ex e=>intro z; cases z
 | stuck=>intro z; cases z
section
variable {K:Frag} {EX:EXT} {H0 G H G1 H1 G2 H2:Hp} {ρ:Rho} {σ:St} {d:Mode} {D:Ends}
theorem spM.calm {n:Nat} {f:List W->R W} {vs:List V} {Q:VK} {E:XK} (h:spM K n d (calm f) vs H Q E):spM K n d f vs H Q E:=by
 obtain ⟨hl,ws,r,o⟩:=h
 refine ⟨hl,ws,r,?_⟩
 unfold TP.calm at o
 revert o
 cases f ws with
 | ok w=>exact id
 | ex e=>exact fun o=>o.elim
 | stuck=>exact id
theorem spR.calm {n:Nat} {f:List W->R W} {vs:List V} {Q:VK} {E:XK} (h:spM K n d (calm f) vs H Q E):spR K n d f vs H Q E:=by
 obtain ⟨hl,ws,r,o⟩:=h
 refine ⟨hl,ws,r,?_⟩
 unfold TP.calm at o
 revert o
 cases f ws with
 | ok w=>exact id
 | ex e=>exact fun o=>o.elim
 | stuck=>exact id
theorem call_ext {G' H':Hp} (I1:PIv K H0 G1 ρ σ H1) (sH:Same H1 H') (gH:Same G' H') (cl:∀ a o,H1 a=some o->isL o=true->G' a=none):Same G' (both G1 G')/\Ext G1 H1 (both G1 G') H':=by
 have sB:Same G1 (both G1 G'):=fun b o q=>by unfold both; rw [q]
 have sB':Same G' (both G1 G'):=fun b o q=>by
  unfold both
  cases q1:G1 b with
  | none=>exact q
  | some u=>
   have a1:=sH b u (I1.gh b u q1)
   rw [gH b o q] at a1
   exact a1.symm
 have sHB:Same (both G1 G') H':=fun b o q=>by
  unfold both at q
  cases q1:G1 b with
  | none=>rw [q1] at q; exact gH b o q
  | some u=>rw [q1] at q; cases q; exact sH b _ (I1.gh b _ q1)
 exact ⟨sB',sB,sH,sHB,fun b o q l g=>by unfold both; rw [g]; exact cl b o q l⟩
theorem Md.both {v:V} {w:W} {G' H':Hp} (hd:d=.F\/d=.V) (I1:PIv K H0 G1 ρ σ H1) (s:Same H H1) (sB':Same G' (both G1 G')) (md:Md K H1 H1 G' H' v w d):Md K H0 H (TP.both G1 G') H' v w d:=by
 rcases hd with rfl | rfl
 ·cases w with
  | lst us=>
   obtain ⟨a,vs,rfl,h1,h2,h3,r3⟩:=md
   exact ⟨a,vs,rfl,h1,by unfold TP.both; rw [I1.gh.free h3]; exact h2,s.free h3,r3.same sB'⟩
  | _=>exact Rep.same sB' md
 ·exact Rep.same sB' md
theorem c_callC {n:Nat} {f:List W->R W} {E:XK} {ma:Rho->R (List W)} {Q:VK} (hd:d=.F\/d=.V) (hf:∀ ws,f ws≠.stuck->ws.length=n) (h:tM K EX d (fun ρ=>ma ρ>>=fun ws=>calm f ws) σ H Q) :
  tCall (spM K n d (calm f)) [] E (tA K EX .B ma) σ H Q:=by
 obtain ⟨H0,G,ρ,I,o⟩:=h
 refine ⟨H0,G,ρ,I,Out.bind o fun xs G1 H1 ws e1 m1 o1=>?_⟩
 have I1:=I.ext e1
 have r:=MdA.whole I1 m1
 rw [List.append_nil]
 cases q:calm f ws with
 | stuck=>rw [q] at o1; exact o1.elim
 | ex e=>exact absurd q calm_ne
 | ok w=>
  rw [q] at o1
  refine ⟨?_,ws,r,?_⟩
  ·rw [r.length]
   refine hf ws fun z=>?_
   rw [calm_of q] at z; cases z
  ·rw [q]
   intro v G' H' sH gH cl md
   obtain ⟨sB',ex⟩:=call_ext I1 sH gH cl
   exact o1 v _ H' ex (Md.both hd I1 e1.hh sB' md)
theorem c_callP {n:Nat} {f:List W->R W} {E:XK} {ma:Rho->R (List W)} {Q:VK} (hd:d=.F\/d=.V) (hf:∀ ws,f ws≠.stuck->ws.length=n) (h:tM K (XE1 K E) d (fun ρ=>ma ρ>>=fun ws=>f ws) σ H Q) :
  tCall (spR K n d f) [] E (tA K (XE1 K E) .B ma) σ H Q:=by
 obtain ⟨H0,G,ρ,I,o⟩:=h
 refine ⟨H0,G,ρ,I,Out.bind o fun xs G1 H1 ws e1 m1 o1=>?_⟩
 have I1:=I.ext e1
 have r:=MdA.whole I1 m1
 rw [List.append_nil]
 refine ⟨?_,ws,r,?_⟩
 ·rw [r.length]
  refine hf ws fun z=>?_
  rw [z] at o1; exact o1
 ·revert o1
  cases f ws with
  | stuck=>exact id
  | ex e=>exact id
  | ok w=>
   intro o1 v G' H' sH gH cl md
   obtain ⟨sB',ex⟩:=call_ext I1 sH gH cl
   exact o1 v _ H' ex (Md.both hd I1 e1.hh sB' md)
theorem c_bodyR {n:Nat} {Nl:List Str} {m:Rho->R Fl} {vs:List V} {Q:VK} {E:XK} (hd:d=.F\/d=.V) (h:spR K n d (runB n Nl.length m) vs H Q E):tSt K (XE1 K E) d m { nx:=fun _ H'=>Q .non H',rt:=Q } (L2.start Nl vs) H:=by
 obtain ⟨hl,ws,r,o⟩:=h
 have hw:ws.length=n:=by rw [<- r.length]; exact hl
 unfold runB at o
 rw [if_pos hw] at o
 refine ⟨H,noLH H,_,PIv.begin (k:=Nl.length-n) r (by rw [hl]),?_⟩
 revert o
 cases m (ws.map Sl.par++List.replicate (Nl.length-n) Sl.un) with
 | stuck=>exact id
 | ex e=>exact id
 | ok f=>
  cases f with
  | nx ρ'=>exact fun o G' σ' H' s' I'=>o .non G' H' I'.hh I'.gh I'.gl (Md.sca rfl (fun _=>.non) d)
  | rt w=>exact fun o v G' H' _ s1 s2 c md=>o v G' H' s2 s1 c md
  | bk _=>exact fun o=>o.elim
  | ct _=>exact fun o=>o.elim
def sRaise (c:Str) (mr:Rho->R (List W)):Rho->R Fl:=fun ρ=>mr ρ>>=fun ws=>match ws with
 | [.int i]=>.ex ⟨c,some i⟩
 | _=>.stuck
def bNew (c:Str) (mr:Rho->R (List W)):Rho->R W:=fun ρ=>mr ρ>>=fun ws=>match ws with
 | [.int i]=>.ok (.exc c (some i))
 | _=>.stuck
theorem PIv.setN {i:Nat} {o:Option V} (I:PIv K H0 G ρ σ H):PIv K H0 G (ρ.set i .un) (σ.set i o) H where
 g0:=I.g0
 gl:=I.gl
 gh:=I.gh
 hh:=I.hh
 len:=by rw [List.length_set,List.length_set]; exact I.len
 sl j x o h1 h2:=by
  by_cases hj:i=j
  ·subst hj
   rw [List.getElem?_set] at h1
   simp only [if_true] at h1
   split at h1 <;> simp only [Option.some.injEq,reduceCtorEq] at h1
   subst h1
   trivial
  ·rw [List.getElem?_set_ne hj] at h1 h2; exact I.sl j x o h1 h2
 ne a b ws us c hab h1 h2 h3 h4:=by
  have na:i≠a:=by
   rintro rfl
   rw [List.getElem?_set] at h1
   simp only [if_true] at h1
   split at h1 <;> simp at h1
  have nb:i≠b:=by
   rintro rfl
   rw [List.getElem?_set] at h2
   simp only [if_true] at h2
   split at h2 <;> simp at h2
  rw [List.getElem?_set_ne na] at h1 h3
  rw [List.getElem?_set_ne nb] at h2 h4
  exact I.ne a b ws us c hab h1 h2 h3 h4
def flUn (j:Nat):Fl->R Fl
 | .nx ρ=>.ok (.nx (ρ.set j .un))
 | .bk ρ=>.ok (.bk (ρ.set j .un))
 | .ct ρ=>.ok (.ct (ρ.set j .un))
 | .rt w=>.ok (.rt w)
def mExc (c:Str) (j:Nat) (mb:Rho->R Fl) (e:XW) (ρ:Rho):R Fl:=if e.cls=c then mb (ρ.set j (.val (.exc e.cls e.at_)))>>=flUn j else .stuck
def sTry (i:Nat) (c:Str) (j:Nat) (f:List W->R W) (ma:Rho->R (List W)) (mb:Rho->R Fl):Rho->R Fl:=fun ρ=>ma ρ>>=fun ws=>match f ws with
 | .ok w=>.ok (.nx (ρ.set i (slotF w)))
 | .ex e=>mExc c j mb e ρ
 | .stuck=>.stuck
def sTryX (c:Str) (j:Nat) (f:List W->R W) (ma:Rho->R (List W)) (mb:Rho->R Fl):Rho->R Fl:=fun ρ=>ma ρ>>=fun ws=>match f ws with
 | .ok _=>.ok (.nx ρ)
 | .ex e=>mExc c j mb e ρ
 | .stuck=>.stuck
open Classical in
theorem c_exc {X:Cx} {C C1:Addr} {c:Str} {j:Nat} {mb:Rho->R Fl} {e:XW} {H':Hp} (hK:X.K=K) (hc:PySem.W.nsIn K mainGlobals c=some (some (.ref C1))) (hm:PySem.W.exmOne K (.ref C1) (.ref C)=some true) (I1:PIv K H0 G1 ρ σ H1) (o:OutS K EX d H0 G1 (mExc c j mb e ρ) D) (sH:Same H1 H'):XE1 K (tCatch X C j (tSt K EX d mb) D σ) e H':=by
 intro C' od hns hxd
 unfold mExc at o
 by_cases hcl:e.cls=c
 ·rw [if_pos hcl] at o
  rw [hcl] at hns
  rw [hc] at hns; cases hns
  refine ⟨C1,rfl,by rw [hK]; exact hm,fun a ob ha hcls hod hvs=>?_⟩
  obtain ⟨vs,hvs⟩:=hvs
  let G':Hp:=fun b=>if b=a then some (.ext fun h=>h.get? a=some ob) else if od=some b then H' b else G1 b
  have ga:G1 a=none:=by
   cases q:G1 a with
   | none=>rfl
   | some u=>have:=sH a u (I1.gh a u q); rw [ha] at this; cases this
  have hG:∀ b,b≠a->od≠some b->G' b=G1 b:=fun b h1 h2=>by
   show (if b=a then _ else if od=some b then _ else _)=_
   rw [if_neg h1,if_neg h2]
  have hGa:G' a=some (.ext fun h=>h.get? a=some ob):=if_pos rfl
  have xdn:∀ b,od=some b->∃ fs,H' b=some (.xd fs):=fun b hb=>by
   cases q:e.at_ with
   | none=>rw [q] at hxd; rw [show od=none from hxd] at hb; cases hb
   | some i=>rw [q] at hxd; obtain ⟨dd,h1,h2⟩:=hxd; rw [h1] at hb; cases hb; exact ⟨_,h2⟩
  have hGd:∀ b,b≠a->od=some b->G' b=H' b:=fun b h1 h2=>by
   show (if b=a then _ else if od=some b then _ else _)=_
   rw [if_neg h1,if_pos h2]
  have gg:Same G1 G':=fun b u q=>by
   have h1:b≠a:=by rintro rfl; rw [ga] at q; cases q
   by_cases h2:od=some b
   ·rw [hGd b h1 h2]; exact sH b u (I1.gh b u q)
   ·rw [hG b h1 h2]; exact q
  have x:Ext G1 H1 G' (upd H' a (.ext fun h=>h.get? a=some ob)):=by
   refine ⟨gg,fun b u q=>?_,fun b u q=>?_,fun b u q l g=>?_⟩
   ·have q':=sH b u q
    rw [upd_ne (ne_of_none q' ha)]; exact q'
   ·by_cases h1:b=a
    ·subst h1; rw [hGa] at q; rw [upd_same]; exact q
    ·rw [upd_ne h1]
     by_cases h2:od=some b
     ·rw [hGd b h1 h2] at q; exact q
     ·rw [hG b h1 h2] at q; exact sH b u (I1.gh b u q)
   ·have q':=sH b u q
    have h1:b≠a:=ne_of_none q' ha
    have h2:od≠some b:=fun z=>by
     obtain ⟨fs,z⟩:=xdn b z
     rw [q'] at z; cases z; cases l
    rw [hG b h1 h2]; exact g
  have I2:=(I1.ext x).setV (i:=j) (v:=.ref a) (w:=.exc e.cls e.at_) (by
   refine .exc hGa hcls hvs (by rw [hcl]; exact hc) ?_
   rw [hod]
   cases q:e.at_ with
   | none=>rw [q] at hxd; exact hxd
   | some i=>
    rw [q] at hxd
    obtain ⟨dd,h1,h2⟩:=hxd
    refine ⟨dd,h1,?_⟩
    rw [hGd dd (by rintro rfl; rw [ha] at h2; cases h2) h1]; exact h2)
  refine ⟨H0,G',_,I2,?_⟩
  have o2:=OutS.move gg o
  revert o2
  cases mb (ρ.set j (.val (.exc e.cls e.at_))) with
  | stuck=>exact id
  | ex y=>exact id
  | ok f=>
   cases f with
   | nx ρ2=>exact fun o2 G3 σ3 H3 s3 I3=>o2 G3 _ H3 s3 I3.setN
   | bk ρ2=>exact fun o2 G3 σ3 H3 s3 I3=>o2 G3 _ H3 s3 I3.setN
   | ct ρ2=>exact fun o2 G3 σ3 H3 s3 I3=>o2 G3 _ H3 s3 I3.setN
   | rt w=>exact id
 ·rw [if_neg hcl] at o; exact o.elim
theorem c_tryX {X:Cx} {C C1:Addr} {c:Str} {j n:Nat} {dd:Mode} {f:List W->R W} {ma:Rho->R (List W)} {mb:Rho->R Fl} (hK:X.K=K) (hf:∀ ws,f ws≠.stuck->ws.length=n) (hc:PySem.W.nsIn K mainGlobals c=some (some (.ref C1))) (hm:PySem.W.exmOne K (.ref C1) (.ref C)=some true)
  (h:tSt K EX d (sTryX c j f ma mb) D σ H):tTryX X (spR K n dd f) C j (tA K EX .B ma) (tSt K EX d mb) D σ H:=by
 obtain ⟨H0,G,ρ,I,o⟩:=h
 refine ⟨H0,G,ρ,I,OutS.bind I o fun xs G1 H1 ws e1 m1 o1=>?_⟩
 have I1:=I.ext e1
 have r:=MdA.whole I1 m1
 refine ⟨?_,ws,r,?_⟩
 ·rw [r.length]
  refine hf ws fun z=>?_
  rw [z] at o1; exact o1
 ·revert o1
  cases f ws with
  | stuck=>exact id
  | ex e=>exact fun o1 H' sH=>c_exc hK hc hm I1 o1 sH
  | ok w=>
   intro o1 v G' H' sH gH cl md
   obtain ⟨sB',x⟩:=call_ext I1 sH gH cl
   exact o1 _ _ H' x.gg (I1.ext x)
theorem excB {Ha:Hp} {v:V} {c:Str} {i:Option Int} (I:PIv K H0 G ρ σ H) (m:Md K H0 Ha G H v (.exc c i) .B):Rep K H v (.exc c i):=by
 rcases m with m | ⟨a,vs,ws,_,e,_⟩
 ·exact m.same I.join_H
 ·cases e
def fAt (c:Str):W->R W
 | .exc c' (some i)=>if c'=c then .ok (.int i) else .stuck
 | _=>.stuck
def rXIs (C:Addr) (cv:V) (b:Bool):List V->Hp->VK->Prop:=fun xs H Q=>∃ (a:Addr) (ox:Obj) (vs:Array Value),xs = [.ref a,cv]/\H a=some (.ext fun h=>h.get? a=some ox)/\ox.cls=.ref C/\ox.data=.fields vs/\(∀ d,ox.dict=some d->∃ fs,H d=some (.xd fs))/\Q (.bl b) H
theorem call_xis {X:Cx} {C:Addr} {cv:V} {u:Value} {b:Bool} (hu:∀ x,RelV cv x->x=u) (g:XIs X.K C) (e:PySem.W.kitOne X.K (.ref C) u=some b):CallR X (.builtin "isinstance") (rXIs C cv b):=by
 rintro pins s σ H xs us Q I rv ⟨a,ox,vs,rfl,ea,hc,hd,hx,q⟩
 cases rv with
 | cons r1 rv=>
  cases rv with
  | cons r2 rv=>
   cases rv
   cases hu _ r2
   cases r1
   exact xis_ok I ea hc hd hx g e fun tk=>⟨.bl b,H,I.tok _,rfl,q⟩
theorem call_xisC {X:Cx} {C D0:Addr} {b:Bool} (g:XIs X.K C) (e:PySem.W.kitOne X.K (.ref C) (.ref D0)=some b):CallR X (.builtin "isinstance") (rXIs C (.ref D0) b):=call_xis (u:=.ref D0) (fun _ z=>z) g e
theorem call_xisT {X:Cx} {C:Addr} {T:String} {b:Bool} (g:XIs X.K C) (e:PySem.W.kitOne X.K (.ref C) (.type T)=some b):CallR X (.builtin "isinstance") (rXIs C (.ty T) b):=call_xis (u:=.type T) (fun _ z=>z) g e
def fXIs (c:Str) (k:W) (b:Bool):List W->R W
 | [.exc c' _,k']=>match k,k' with
  | .cls n,.cls n'=>if c'=c/\n'=n then .ok (.bl b) else .stuck
  | .ty n,.ty n'=>if c'=c/\n'=n then .ok (.bl b) else .stuck
  | _,_=>.stuck
 | _=>.stuck
theorem b_xis {C D0:Addr} {c n:Str} {b:Bool} (hc:PySem.W.nsIn K mainGlobals c=some (some (.ref C))) (hn:PySem.W.nsIn K mainGlobals n=some (some (.ref D0))):Cal K .B d (rXIs C (.ref D0) b) (fXIs c (.cls n) b):=by
 intro EX H0 Hs G H ρ σ Ha vs ws Q I s m o
 unfold fXIs at o
 split at o
 ·rename_i c' i k'
  split at o
  ·rename_i n1 n' e1
   cases e1
   by_cases h:c'=c/\n'=n
   ·rw [if_pos h] at o
    obtain ⟨rfl,rfl⟩:=h
    cases m with
    | cons a t=>
     cases t with
     | cons a2 t=>
      cases t
      have m1:=excB I a
      rename_i v1 v2
      have m2:Rep K (join H0 G) v2 (.cls n'):=by
       rcases a2 with a2 | ⟨_,_,_,_,z,_⟩
       ·exact a2
       ·cases z
      cases m2 with
      | cls hn'=>
       rw [hn] at hn'; cases hn'
       cases m1 with
       | dct h1 h2 h3=>exact absurd hc (h3 _)
       | exc h1 h2 h3 h4 h5=>
        rw [hc] at h4; cases h4
        refine ⟨_,_,_,rfl,h1,h2,h3,fun dd hdd=>?_,o _ G H (Ext.refl I.gh) (Md.sca rfl (fun _=>.bl) d)⟩
        cases i with
        | none=>rw [show _=none from h5] at hdd; cases hdd
        | some i=>obtain ⟨d1,e2,e3⟩:=h5; rw [e2] at hdd; cases hdd; exact ⟨_,e3⟩
   ·rw [if_neg h] at o; exact o.elim
  ·rename_i e1; cases e1
  ·exact o.elim
 ·exact o.elim
theorem b_xisT {C:Addr} {c:Str} {n:String} {b:Bool} (hc:PySem.W.nsIn K mainGlobals c=some (some (.ref C))):Cal K .B d (rXIs C (.ty n) b) (fXIs c (.ty n) b):=by
 intro EX H0 Hs G H ρ σ Ha vs ws Q I s m o
 unfold fXIs at o
 split at o
 ·rename_i c' i k'
  split at o
  ·rename_i e1; cases e1
  ·rename_i n1 n' e1
   cases e1
   by_cases h:c'=c/\n'=n
   ·rw [if_pos h] at o
    obtain ⟨rfl,rfl⟩:=h
    cases m with
    | cons a t=>
     cases t with
     | cons a2 t=>
      cases t
      have m1:=excB I a
      cases a2.tyB
      cases m1 with
      | dct h1 h2 h3=>exact absurd hc (h3 _)
      | exc h1 h2 h3 h4 h5=>
       rw [hc] at h4; cases h4
       refine ⟨_,_,_,rfl,h1,h2,h3,fun dd hdd=>?_,o _ G H (Ext.refl I.gh) (Md.sca rfl (fun _=>.bl) d)⟩
       cases i with
       | none=>rw [show _=none from h5] at hdd; cases hdd
       | some i=>obtain ⟨d1,e2,e3⟩:=h5; rw [e2] at hdd; cases hdd; exact ⟨_,e3⟩
   ·rw [if_neg h] at o; exact o.elim
  ·exact o.elim
 ·exact o.elim
end
section
variable {X:Cx} {K:Frag} {EX:EXT} {d:Mode} {e:Expr} {es:List Expr} {pos:Pos} {ma:Rho->R W} {mr:Rho->R (List W)} {mb:Rho->R Fl}
theorem q_cls {x:Str} {C:Addr} (hg:Gl X x) (hm:X.mg x=some (.ref C)) (hc:PySem.W.nsIn K mainGlobals x=some (some (.ref C))) (hd:(x == ("__debug__" : Str))=false:=by decide):PE X (.Name x pos) (tM K EX .B (mC (.cls x))):=
 (pe_glob (v:=.ref C) hg hm rfl hd).mono fun _ H Q q=>by
  obtain ⟨H0,G,ρ,I,o⟩:=q
  exact o _ G H (Ext.refl I.gh) (.inl (.cls hc))
theorem q_callC {k:Nat} {f:Addr} {fd:FuncData} {ps:List Str} {x:Str} {p:Pos} {n N:Nat} {m:Rho->R Fl} (F:FnOk X.prog X.w X.K X.mg X.base CX0 k f fd ps (spM K n d (runB n N m))) (hd:d=.F\/d=.V) (hr:Room k X.A) (hg:Gl X x) (hm:X.mg x=some (.ref f)) (hk:PySem.W.keepIn X.K (.ref f)=true) (hb:Binds X.K fd ps [])
  (ha:PA X (e::es) (tA K EX .B mr)) (hdb:(x == ("__debug__" : Str))=false:=by decide) (he:starEach (e::es) X.env=(false,eval e X.env)::starEach es X.env:=by rfl) (hpl:(backTo pos (starEach es X.env)).any (·.1)=false:=by rfl) :
  PE X (.Call (.Name x p) (e::es) [] pos) (tM K EX d (bA (calm (runB n N m)) mr)):=
 (pe_call (F.imp fun _ _ _ _ q=>spM.calm q) hr hg hm hk hb .nil pass0 ha hdb he hpl).mono fun _ _ _ q=>c_callC hd (fun ws h=>runB_len ws h) q
theorem q_callR {k:Nat} {f:Addr} {fd:FuncData} {ps:List Str} {x:Str} {p:Pos} {n N:Nat} {m:Rho->R Fl} (F:FnOk X.prog X.w X.K X.mg X.base (CXW X.prog X.w) k f fd ps (spR K n d (runB n N m))) (hd:d=.F\/d=.V) (hr:Room k X.A) (hg:Gl X x) (hm:X.mg x=some (.ref f)) (hk:PySem.W.keepIn X.K (.ref f)=true) (hb:Binds X.K fd ps [])
  (ha:PA X (e::es) (tA K EX .B mr)) (hdb:(x == ("__debug__" : Str))=false:=by decide) (he:starEach (e::es) X.env=(false,eval e X.env)::starEach es X.env:=by rfl) (hpl:(backTo pos (starEach es X.env)).any (·.1)=false:=by rfl) :
  PE X (.Call (.Name x p) (e::es) [] pos) (tM K EX d (bA (calm (runB n N m)) mr)):=
 (pe_call (F.imp fun _ _ _ _ q=>spR.calm q) hr hg hm hk hb .nil (passF cxwF) ha hdb he hpl).mono fun _ _ _ q=>c_callC hd (fun ws h=>runB_len ws h) q
theorem q_tryX {C C1:Addr} {c fn cn x:Str} {j k n N:Nat} {dd:Mode} {f:Addr} {fd:FuncData} {ps:List Str} {m:Rho->R Fl} {fp cp ap np hpos:Pos} {b0:Stmt} {suite:List Stmt} (hN:X.N.Nodup)
  (F:FnOk X.prog X.w X.K X.mg X.base (CXW X.prog X.w) k f fd ps (spR K n dd (runB n N m))) (hr:Room k X.A) (hg:Gl X fn) (hm:X.mg fn=some (.ref f)) (hk:PySem.W.keepIn X.K (.ref f)=true) (hb:Binds X.K fd ps []) (ha:PA X.nox (e::es) (tA K EX .B mr)) (hn:X.N[j]?=some x)
  (hcg:Gl X cn) (hcm:X.mg cn=some (.ref C)) (hc:PySem.W.nsIn K mainGlobals c=some (some (.ref C1))) (hx:PySem.W.exmOne K (.ref C1) (.ref C)=some true) (hsu:∀ e E,PSs (X.marked e E) (b0::suite) (tSt K EX d mb))
  (hnk:X.env.kindOf x=some .local:=by rfl) (hex:X.ex = []:=by rfl) (hst:X.stack=X.env::X.outer:=by rfl) (hfr:X.env.frame=some X.env.locals:=by rfl) (hK:X.K=K:=by rfl) (hdb:(fn == ("__debug__" : Str))=false:=by decide)
  (he:starEach (e::es) X.env=(false,eval e X.env)::starEach es X.env:=by rfl) (hpl:(backTo cp (starEach es X.env)).any (·.1)=false:=by rfl) (hsw:swapsWith (.Call (.Name fn fp) (e::es) [] cp) none ap.line X.env=Pure.pure false:=by rfl) (hcd:(cn == ("__debug__" : Str))=false:=by decide) :
  PS X (.Try [.Expr (.Call (.Name fn fp) (e::es) [] cp) ap] [.ExceptHandler (some (.Name cn np)) (some x) (b0::suite) hpos] [] [] pos) (tSt K EX d (sTryX c j (runB n N m) mr mb)):=
 (ps_tryx hex hst hfr hN F hr hg hm hk hb ha hdb he hpl hsw hcg hcm hcd hn hnk hsu).mono fun _ _ _ q=>c_tryX hK (fun ws h=>runB_len ws h) hc hx q
end
section
variable {P:Program} {w:World} {K:Frag} {mg:Str->Option Value} {base:Heap} {N:List Str} {qual:Str} {scope:Scope} {f0:Addr} {cd:Value} {A:Around} {outer:List Env} {s0:Shared} {H0:Hp} {E:XK} {d:Mode} {e:Expr} {es:List Expr} {pos:Pos} {mr:Rho->R (List W)}
theorem q_callP {k:Nat} {f:Addr} {fd:FuncData} {ps:List Str} {x:Str} {p:Pos} {n N':Nat} {m:Rho->R Fl} (F:FnOk P w K mg base (CXW P w) k f fd ps (spR K n d (runB n N' m))) (hd:d=.F\/d=.V) (hr:Room k (cxOf (CXW P w) P w K mg base N qual scope f0 cd A outer s0 H0 E).A) (hg:Gl (cxOf (CXW P w) P w K mg base N qual scope f0 cd A outer s0 H0 E) x) (hm:mg x=some (.ref f)) (hk:PySem.W.keepIn K (.ref f)=true) (hb:Binds K fd ps [])
  (ha:PA (cxOf (CXW P w) P w K mg base N qual scope f0 cd A outer s0 H0 E) (e::es) (tA K (XE1 K E) .B mr)) (hdb:(x == ("__debug__" : Str))=false:=by decide) (he:starEach (e::es) (envOfC qual scope s0.heap.objs.size f0 cd)=(false,eval e (envOfC qual scope s0.heap.objs.size f0 cd))::starEach es (envOfC qual scope s0.heap.objs.size f0 cd):=by rfl) (hpl:(backTo pos (starEach es (envOfC qual scope s0.heap.objs.size f0 cd))).any (·.1)=false:=by rfl) :
  PE (cxOf (CXW P w) P w K mg base N qual scope f0 cd A outer s0 H0 E) (.Call (.Name x p) (e::es) [] pos) (tM K (XE1 K E) d (bA (runB n N' m) mr)):=
 (pe_call F hr hg hm hk hb .nil passW ha hdb he hpl).mono fun _ _ _ q=>c_callP hd (fun ws h=>runB_len ws h) q
end
end TP
namespace TP
open PySem L2
def big8:Int:=2^2000
def CDivL (_ j:Int):Prop:=0<j/\j<big8
instance (i j:Int):Decidable (CDivL i j):=by unfold CDivL; infer_instance
def CDivZ (_ j:Int):Prop:=j≠0/\j.natAbs<2^8999
instance (i j:Int):Decidable (CDivZ i j):=by unfold CDivZ; infer_instance
def cModZ (_ j:Int):Prop:=j≠0
instance (i j:Int):Decidable (cModZ i j):=by unfold cModZ; infer_instance
section
variable {K:Frag} {EX:EXT} {H:Hp} {σ:St} {d:Mode} {D:Ends} {i j:Nat} {m:Rho->R (List W)}
end
end TP
namespace TP
open PySem L2
section
variable {X:Cx}
end
section
variable {K:Frag} {EX:EXT} {H0 G H:Hp} {ρ:Rho} {σ:St} {d:Mode} {D:Ends} {Q:VK}
end
section
variable {X:Cx} {K:Frag} {EX:EXT} {d:Mode} {a e:Expr} {pos:Pos} {ma:Rho->R W} {mr:Rho->R (List W)}
end
end TP
namespace TP
open PySem L2
section
variable {X:Cx}
end
section
variable {K:Frag} {EX:EXT} {H0 G H:Hp} {ρ:Rho} {σ:St} {d:Mode} {D:Ends}
end
section
variable {X:Cx} {K:Frag} {EX:EXT} {d:Mode} {e1 e:Expr} {pos:Pos} {mk ma:Rho->R W}
end
end TP
namespace HT
open PySem PySem.Spec PyProof.Rows PySem.W
section
variable {prog:Program} {w:World} {A:Around} {E:Value->Shared->Prop} {s:Shared}
end
end HT
namespace TP
open PySem L2
section
open PySem.W PyProof.Rows
variable {X:Cx} {e:Expr} {te:TE} {st:Expr} {tk:TO} {pos p2:Pos}
end
section
variable {K:Frag} {EX:EXT} {σ:St} {H:Hp} {Q:VK}
end
section
variable {X:Cx} {K:Frag} {EX:EXT} {e:Expr} {pos:Pos} {ma:Rho->R W}
end
end TP
namespace TP
open PySem L2
section
variable {K:Frag} {H0 G H G1 H1:Hp} {ρ:Rho} {σ:St} {d:Mode} {D:Ends}
end
section
variable {X:Cx} {K:Frag} {d:Mode} {e:Expr} {es:List Expr} {pos:Pos} {mr:Rho->R (List W)} {mt:Rho->R Bool}
end
end TP
namespace TP
open PySem L2
section
variable {K:Frag} {EX:EXT} {D:Ends} {d:Mode} {σ:St} {H:Hp}
end
section
variable {X:Cx} {K:Frag} {EX:EXT} {d:Mode} {e k v:Expr} {pos:Pos} {mk me:Rho->R W}
end
end TP
namespace TP
open PySem L2
section
variable {K:Frag} {EX:EXT} {Hb H0 G H G1 H1 G2 H2:Hp} {ρ:Rho} {σ:St} {d:Mode} {D:Ends}
end
section
variable {X:Cx} {K:Frag} {EX:EXT} {d:Mode} {e:Expr} {pos:Pos} {ma:Rho->R W}
end
end TP
namespace L2
open PySem PySem.Spec PyProof.Rows
section
variable {X:Cx} {cs:Scope} {N':List Str} {y:Str} {tg iter elt:Expr} {ifs:List Expr} {wi:TI} {g:TG} {tc:TT} {te:TE} {pos:Pos}
end
end L2
namespace TP
open PySem L2
section
variable {X:Cx} {K:Frag} {EX:EXT} {pos:Pos} {ma:Rho->R W} {ta:Rho->R Bool}
end
end TP
namespace TP
open PySem L2
end TP
namespace L2
open PySem PySem.Spec PyProof.Rows
section
variable {X:Cx} {cs:Scope} {N':List Str} {yc:Str} {tg iter elt:Expr} {ifs:List Expr} {wi:TI} {g:TG} {tc:TT} {te:TE} {pos:Pos}
end
end L2
namespace TP
open PySem L2
section
variable {X:Cx} {K:Frag} {EX:EXT} {d:Mode} {pos:Pos} {ma:Rho->R W} {ta:Rho->R Bool}
end
end TP
namespace TP
open PySem L2
section
variable {X:Cx}
end
section
variable {X:Cx} {K:Frag} {EX:EXT} {d:Mode} {a b:Expr} {pos:Pos} {ma mb:Rho->R W}
end
end TP
namespace L2
open PySem PySem.Spec PyProof.Rows
theorem Cx.Ok.xe {X:Cx} {f:Value->Shared->Prop} (ok:X.Ok):({ X with xe:=f }:Cx).Ok:=by
 cases ok; constructor <;> assumption
theorem Inv.xe {X:Cx} {f:Value->Shared->Prop} {pins:List (Addr×Obj)} {σ:St} {H:Hp} {s:Shared} (I:Inv X pins σ H s):Inv { X with xe:=f } pins σ H s:=
 ⟨I.ok.xe,I.os,I.bare,I.base,I.loc,I.cell,I.free,I.freeC,I.pin,I.hok,I.len⟩
abbrev cxCompX (X:Cx) (E:XK) (cs:Scope) (cl:List (Str×Addr)) (N':List Str) (ex:List Addr) (s:Shared) (H:Hp):Cx:=
 { cxComp X cs cl N' ex s H with xe:=fun e s'=>∃ pins σ H1 s1,Inv (cxComp X cs cl N' ex s H) pins σ H1 s1/\CXW X.prog X.w X.stack H1 s1 E e s' }
theorem passX {X:Cx} {E:XK} {cs:Scope} {cl:List (Str×Addr)} {N':List Str} {ex:List Addr} {s:Shared} {H:Hp}:Passes (CXW X.prog X.w) (cxCompX X E cs cl N' ex s H) E:=
 fun pins σ H1 s1 e s' I q=>⟨pins,σ,H1,s1,I.xe,q⟩
def compPostX (M:Model) (A:Around) (E:Value->Shared->Prop) (env:Env) (Q:Value->Shared->Prop) (acc:Value) (C:Addr) (r:Result) (s':Shared):Prop:=
 match r with
 | .ok _=>∃ m,s'.heap.Ns C m/\∀ h',Heap.SameBut C s'.heap h'->Q acc { s' with heap:=h' }
 | .error x=>∃ m,s'.heap.Ns C m/\∀ h',Heap.SameBut C s'.heap h'->wpAny M A (PySem.passOn "comprehension.variables-let-go" x env:Sem Value) (fun _ _=>False) E { s' with heap:=h' }
theorem compX {M:Model} {A:Around} {E:Value->Shared->Prop} {env:Env} {s:Shared} {e:Expr} {scope:Scope} {pos:Pos} {newAcc first:Sem Value} {g:Comprehension} {gs:List Comprehension} {cl:List (Str×Addr)} {Q:Value->Shared->Prop}
  (hcl:clausesOf e=g::gs) (hs:∀ x,foldedSetIterable g.iter env x=pure x) (hclos:closureFor scope env=pure cl)
  (hkind:scope.kind=.function) (hnames:∀ x∈scope.names,x.2=.local->scope.names.lookup x.1=some .local)
  (h:wpAny M A first (fun x s₁=>wpAny M A (pyIter x) (fun it s₂=>wpAny M A newAcc (fun acc s₃=>
   wpAny M A (newFunctionEnv scope env.globals cl [] env.qual none .none (some env)) (fun cenv s₄=>
    cenv.frame=env.frame/\codeAny M A (.compStart e 0 it acc { cenv with scope:=relabel scope env }) (compPostX M A E env Q acc cenv.locals) s₄) E s₃) E s₂) E s₁) E s) :
  wpAny M A (comprehension e scope env pos newAcc false first none) Q E s:=by
 unfold comprehension
 rw [hclos,hcl]
 refine wpAny_bind (thn h fun x s1 h1=>wpAny_bind (wpAny_standAt (wpAny_bind (wpAny_of_eq (hs x) (wpAny_bind (wpAny_holding (thn h1 fun it s2 h2=>?_)))))))
 refine wpAny_standIf (wpAny_bind (thn h2 fun acc s3 h3=>wpAny_bind (wpAny_pure (wpAny_bind (thn h3 fun cenv s4 h4=>?_)))))
 obtain ⟨hfr,h4⟩:=h4
 dsimp only
 have hv:∀ x∈(scope.names.filter fun x=>(x.2 == .local||x.2 == .cell)&&x.1 != (".0" : Str)).reverse,x.2=.local->Env.kindOf { cenv with scope:=relabel scope env } x.1=some .local:=fun x hx hl=>
  lookup_relabel_local (hnames x (List.mem_filter.mp (List.mem_reverse.mp hx)).1 hl)
 refine wpAny_holding (wpAny_bind (wpAny_attempt (wpAny_holding (wpAny_run (codeAny_mono h4 fun r s' hr=>?_)))))
 cases r with
 | ok f=>
  obtain ⟨m,hn,hr⟩:=hr
  exact wpAny_bind (wpAny_holding (wpAny_comp_letGo (cenv:={ cenv with scope:=relabel scope env }) hkind _ s' m hv hn fun h' m' _ hs'=>wpAny_pure (hr h' hs')))
 | error x=>
  obtain ⟨m,hn,hr⟩:=hr
  refine wpAny_bind (wpAny_holding (wpAny_comp_letGo (cenv:={ cenv with scope:=relabel scope env }) hkind _ s' m hv hn fun h' m' _ hs'=>?_))
  have e:(PySem.passOn "comprehension.variables-let-go" x { cenv with scope:=relabel scope env }:Sem Value)=PySem.passOn "comprehension.variables-let-go" x env:=by
   unfold PySem.passOn; rw [show ({ cenv with scope:=relabel scope env }:Env).frame=env.frame from hfr]
  show wpAny M A (PySem.passOn "comprehension.variables-let-go" x { cenv with scope:=relabel scope env }:Sem Value) _ _ _
  rw [e]
  exact wpAny_mono (hr h' hs') (fun _ _ f=>f.elim) fun _ _ y=>y
theorem Un.fly' {fs:List Addr} {H H':Hp} {h0 h h' B:Heap} (u:Un fs [] H H' h0 h) (st:B.StaysIn h) (st':B.StaysIn h')
  (up:∀ b∈fs,∀ o,h.get? b=some o->(∀ vs:Array Value,o.data≠.fields vs)->∃ sl,h'.get? b=some { o with slots:=sl })
  (all:∀ b o,h0.get? b=some o->b∉fs->∃ o',B.get? b=some o') (fr:∀ b∈fs,∃ o,h.get? b=some o/\∀ vs:Array Value,o.data≠.fields vs):Un fs [] H H' h0 h' where
 keep b o q n hb hx:=by
  have t:=u.keep b o q n hb hx
  obtain ⟨o',y⟩:=all b o q hb
  have z:=st b o' y
  rw [t] at z; cases z
  exact st' b _ y
 slot b o q n hb hx:=by
  obtain ⟨sl,e⟩:=u.slot b o q n hb hx
  obtain ⟨o2,e2,nd⟩:=fr b hb
  rw [e] at e2; cases e2
  obtain ⟨sl',e'⟩:=up b hb _ e nd
  exact ⟨sl',e'⟩
 free:=u.free
 there b o q hx:=by
  by_cases hb:b∈fs
  ·obtain ⟨o2,e2,nd⟩:=fr b hb
   obtain ⟨sl',e'⟩:=up b hb _ e2 nd
   exact ⟨_,e'⟩
  ·obtain ⟨o',y⟩:=all b o q hb
   exact ⟨_,st' b _ y⟩
 tups:=u.tups
 frzs:=u.frzs
 tbls:=u.tbls
theorem FunFrames.but {h h' base B:Heap} {C:Addr}:∀ {l:List Env},C∉frs l->(∀ b o,b≠C->h.get? b=some o->h'.get? b=some o)->(∀ L∈frs l,B.get? L=none)->h.FunFrames base l->h'.FunFrames B l
 | [],_,_,_,_=>trivial
 | env::l,hC,k,n,⟨hk,⟨L,o,hf,_,ho,hd⟩,r⟩=>by
  have e:frs (env::l)=L::frs l:=by unfold frs; rw [List.filterMap_cons,hf]
  rw [e] at hC n
  exact ⟨hk,⟨L,o,hf,n L List.mem_cons_self,k L o (fun z=>hC (z ▸ List.mem_cons_self)) ho,hd⟩,FunFrames.but (fun z=>hC (List.mem_cons_of_mem _ z)) k (fun L' z=>n L' (List.mem_cons_of_mem _ z)) r⟩
section
variable {P:Program} {w:World} {K:Frag} {mg:Str->Option Value} {base:Heap} {N:List Str} {qual:Str} {scope:Scope} {f:Addr} {cd:Value} {A:Around} {outer:List Env} {s:Shared} {H:Hp} {E:XK}
 {pins:List (Addr×Obj)} {σ:St} {H1:Hp} {s1 s2:Shared} {C:Addr}
theorem fly_comp {e:Value} {m:Str->Option Value} (I:Inv (cxOf (CXW P w) P w K mg base N qual scope f cd A outer s H E) pins σ H1 s1) (hn:s1.heap.Ns C m) (hC:H1 C=none) (hfs:C∉frs (envOfC qual scope s.heap.objs.size f cd::outer)) (h0:s.heap.get? C=none)
  (q:CXW P w (envOfC qual scope s.heap.objs.size f cd::outer) H1 s1 E e s2) :
  notedBy (model P w) (A.deeper (envOfC qual scope s.heap.objs.size f cd)) (envOfC qual scope s.heap.objs.size f cd) (fun x s'=>∃ m,s'.heap.Ns C m/\∀ h',Heap.SameBut C s'.heap h' ->
   wpAny (model P w) (A.deeper (envOfC qual scope s.heap.objs.size f cd)) (PySem.passOn "comprehension.variables-let-go" x (envOfC qual scope s.heap.objs.size f cd):Sem Value) (fun _ _=>False) (cxOf (CXW P w) P w K mg base N qual scope f cd A outer s H E).xe { s' with heap:=h' }) e s2:=by
 obtain ⟨a,B,H',cls,od,rfl,F,hE⟩:=q
 have I2:=I.call' F.os F.un F.hok F.bare (fun b z=>absurd z (by simp))
 obtain ⟨a0,fl⟩:=F.fl
 obtain ⟨oC,es,ep,eC,dC,rC⟩:=id hn
 obtain ⟨oB,bC⟩:=F.all C oC eC hfs
 have c2:s2.heap.get? C=some oC:=F.un.keep C oC eC hC hfs (by simp)
 have hn2:s2.heap.Ns C m:=⟨oC,es,ep,c2,dC,rC⟩
 have fC:H' C=none:=F.un.free C oC eC hC (by simp)
 have naC:a≠C:=by rintro rfl; rw [fl.2.1] at bC; cases bC
 refine wpAny_mono (KD.any (KD.noteFrame _ _) (wpAny_looks_onW (Q:=fun _ s''=>∃ h',s''={ s2 with heap:=h' }/\B.HeldW (envOfC qual scope s.heap.objs.size f cd::outer) a cls a0 s.heap.objs.size h'/\s2.heap.UpToSlots h') I.ok.frames rfl fl fun h' f u=>⟨h',rfl,f,u⟩)) (fun _ s'' zz87=>?_) fun _ _ x=>x
 obtain ⟨⟨h',e,hd,u⟩,d⟩:=zz87
 subst e
 refine ⟨m,u.ns hn2,fun h3 sb=>?_⟩
 have kp:∀ b o,b≠C->h'.get? b=some o->h3.get? b=some o:=fun b o hb q=>sb.extBut b o hb q
 obtain ⟨k1,k2,k3,oe,vs,T,oT,ts,g1,g2,g3,g4,g5,g6,g7,g8,g9⟩:=hd
 have nT:T≠C:=by rintro rfl; rw [g5] at bC; cases bC
 have e1:=kp a oe naC g1
 have e7:=kp T oT nT g7
 have nB:∀ L∈frs (envOfC qual scope s.heap.objs.size f cd::outer),(cut B [C]).get? L=none:=fun L hL=>by
  rw [cut_out (by rintro z; rw [List.mem_singleton] at z; exact hfs (z ▸ hL))]; exact (k3.mem hL).1
 have st3:(cut B [C]).StaysIn h3:=fun b o q=>by
  by_cases hb:b=C
  ·rw [cut_in (List.mem_singleton.mpr hb)] at q; cases q
  ·exact kp b o hb (k1 b o (cut_stays b o q))
 have held:(cut B [C]).HeldW (envOfC qual scope s.heap.objs.size f cd::outer) a cls a0 s.heap.objs.size h3:=
  ⟨st3,by rw [cut_out (by simpa using naC)]; exact k2,FunFrames.but hfs kp nB k3,oe,vs,T,oT,ts,e1,g2,g3,g4,by rw [cut_out (by simpa using nT)]; exact g5,g6,e7,g8,g9⟩
 unfold PySem.passOn
 refine wpAny_bind (wpAny_field e1 g3 g4 ?_)
 rw [if_neg (by intro z; cases z)]
 refine wpAny_bind (flight_in ⟨a,oe,vs,rfl,e1,g3,g4⟩ e7 g8 g9 ?_)
 rw [show h3.update T (Obj.mapFields (·.setIfInBounds 3 ((envOfC qual scope s.heap.objs.size f cd).frame.elim .none fun f=>rawInt f)))=h3 from upd_id e7 (mapF_same g8 g9)]
 refine wpAny_throw ?_
 show wpAny _ _ (leaving _ _) _ _ _
 unfold leaving
 refine wpAny_bind (wpAny_noteFrame_againW rfl held.2.2.2 ?_)
 refine wpAny_mono (KD.any (KD.setFlight _ _) (wpAny_landsW (Q:=fun _ s''=>∃ h4,s''={ s2 with heap:=h4 }/\(cut B [C]).FlyingW (envOfC qual scope s.heap.objs.size f cd::outer) a cls a0 h4/\h3.UpToSlots h4) held fun h4 f u=>⟨h4,rfl,f,u⟩)) (fun _ s'' zz88=>?_) fun _ _ x=>x
 obtain ⟨⟨h4,e,f4,u4⟩,d4⟩:=zz88
 subst e
 obtain ⟨j1,j2,⟨_,_,j3⟩,j4⟩:=f4
 have fin:∀ b∈frs outer,b∈frs (envOfC qual scope s.heap.objs.size f cd::outer):=fun b hb=>List.mem_cons_of_mem _ hb
 have inC:∀ b o,H' b=some o->∃ ob,(cut B [C]).get? b=some ob:=fun b o q=>by
  obtain ⟨ob,z⟩:=F.inB b o q
  refine ⟨ob,?_⟩
  rw [cut_out (by simp; rintro rfl; rw [fC] at q; cases q)]; exact z
 have st2:(cut B [C]).StaysIn s2.heap:=fun b o q=>fl.1 b o (cut_stays b o q)
 have all:∀ b o,s.heap.get? b=some o->b∉frs outer->∃ o',(cut B [C]).get? b=some o':=fun b o q hb=>by
  obtain ⟨o1,q1⟩:=I.base.there b o q (by simp [cxOf])
  obtain ⟨o',z⟩:=F.all b o1 q1 (notin_frs q hb)
  refine ⟨o',?_⟩
  rw [cut_out (by simp; rintro rfl; rw [h0] at q; cases q)]; exact z
 refine ⟨a,cut B [C],H',cls,od,rfl,⟨⟨a0,j1,j2,j3,j4⟩,?_,I2.os,I2.bare,?_,HOk.fly I2.hok st2 j1 inC,inC,all⟩,hE⟩
 ·obtain ⟨o,e,q⟩:=F.dict
  obtain ⟨o',e',_,q'⟩:=d a o e
  obtain ⟨o'',e'',_,q''⟩:=d4 a o' (kp a o' naC e')
  exact ⟨o'',e'',q''.trans (q'.trans q)⟩
 ·refine Un.fly' I2.base st2 j1 (fun b hb o q nd=>?_) all (fr_of I2.funs)
  obtain ⟨sl,z⟩:=u b o q nd
  obtain ⟨sl',z'⟩:=u4 b _ (kp b _ (fun z=>hfs (z ▸ fin b hb)) z) nd
  exact ⟨sl',z'⟩
end
section
variable {X:Cx} {cs:Scope} {N':List Str} {tg iter elt:Expr} {ifs:List Expr} {wi:TI} {g:TG} {tc:TT} {te:TE} {pos:Pos}
theorem comp_loopX {E:XK} {cl:List (Str×Addr)} {pins:List (Addr×Obj)} {σ:St} {R:Result->Shared->Prop} {Q:Hp->Prop} {s3 s4:Shared} {H3:Hp} {it D:Addr} {fp:List Addr} {tn:Nat->Heap->Prop} {J:It} {W:Nat->Nat->Hp->Prop} {m0:Nat}
  (hc:X.calm=true) (hg:PG (cxComp X cs cl N' fp s3 H3) tg g) (hk:GKeep X.N.length g) (ht:PIf (cxComp X cs cl N' fp s3 H3) ifs tc) (he:PE (cxCompX X E cs cl N' fp s3 H3) elt te) (hX:∀ e s',(cxCompX X E cs cl N' fp s3 H3).xe e s'->notedBy (model X.prog X.w) X.A (cxComp X cs cl N' fp s3 H3).env (fun e s'=>R (.error e) s') e s')
  (hcl1:∀ x c,cl.lookup x=some c->X.env.cells.lookup x=some c)
  (I3:Inv X pins σ H3 s3) (I4:Inv (cxComp X cs cl N' fp s3 H3) [] (inner N' σ) H3 s4) (T:Turn X.prog X.w X.K tg J fp it tn) (st:tn 0 s4.heap) (hf3:∀ b∈fp,FpOk X pins H3 b) (hlt:∀ b∈fp,b<s3.heap.objs.size)
  (w0:W 0 m0 H3)
  (turn:∀ i m H2,W i m H2->(J.stop i H2/\Q H2)\/(J.go i H2/\∀ x H3,J.yld i H2 x H3->g x (inner N' σ) H3 fun σ4 H4=>tc σ4 H4 fun b H5=>
   if b=true then te σ4 H5 fun y H6=>∃ ys,H6 D=some (.lst ys)/\ys.length<sizeLine/\∃ m',m'<m/\W (i+1) m' (upd H6 D (.lst (ys ++ [y])))
   else ∃ m',m'<m/\W (i+1) m' H5))
  (hR:∀ (H':Hp) (s':Shared),Inv X pins σ H' s'->Q H'->(∃ m,s'.heap.Ns s3.heap.objs.size m)->FpOk X pins H' s3.heap.objs.size->R (.ok .next) s') :
  codeAny (model X.prog X.w) X.A (.compLoop (.ListComp elt [⟨tg,iter,ifs,0⟩] cs pos) 0 (.ref it) (.ref D) (cxComp X cs cl N' fp s3 H3).env) R s4:=by
 have fpx:∀ {H':Hp},(∀ b∈fp,H' b=none)->∀ b∈fp,FpOk (cxComp X cs cl N' fp s3 H3) [] H' b:=fun hn=>fp_in hcl1 I3.stkSub hf3 hlt hn
 have lσ:(inner N' σ).length=N'.length:=I4.len
 refine codeAny_loop rfl (fun n s'=>∃ i H',Inv (cxComp X cs cl N' fp s3 H3) [] (inner N' σ) H' s'/\tn i s'.heap/\(∀ b∈fp,H' b=none)/\W i n H') (fun n s5 hI=>?_) m0 ⟨0,H3,I4,st,fun b hb=>(hf3 b hb).1,w0⟩
 obtain ⟨i,H5,I5,st5,fr5,w5⟩:=hI
 show wpAny _ _ ((compTurn (.ListComp elt [⟨tg,iter,ifs,0⟩] cs pos) 0 (.ref it) (.ref D) (cxComp X cs cl N' fp s3 H3).env).onRaise _) _ _ s5
 refine wpAny_noted ?_
 rw [compTurn_list]
 refine wpAny_bind (wpAny_standAt (wpAny_bind ?_))
 have cvt:∀ {α:Type} {t:Sem α} {P:α->Shared->Prop} {E':Value->Shared->Prop} {s:Shared},wpAny (model X.prog X.w) X.A t P (fun _ _=>False) s->wpAny (model X.prog X.w) X.A t P E' s:=fun h=>wpAny_mono h (fun _ _ q=>q) fun _ _ q=>q.elim
 rcases turn i n H5 w5 with ⟨stop,q⟩ | ⟨go,step⟩
 ·refine thn (T.done (cxComp X cs cl N' fp s3 H3) rfl rfl rfl hc i [] s5 _ H5 _ I5 (fpx fr5) st5 stop) fun r s6 ⟨hr,I6⟩=>?_
  subst hr
  refine wpAny_pure ?_
  have J6:Inv X pins σ H5 s6:=I3.call' (H':=H5) (ch:=fp) I6.os I6.base I6.hok I6.bare fun b hb=>by
   obtain ⟨f0,f1,f2,f3,f4,f5⟩:=hf3 b hb
   exact ⟨f3,f1,f4,f5⟩
  obtain ⟨m,hn,_⟩:=I6.loc
  exact hR H5 s6 J6 q ⟨m,hn⟩ (I3.fpOk (Nat.le_refl _) I6.free)
 ·refine thn (T.item (cxComp X cs cl N' fp s3 H3) rfl rfl rfl hc i [] s5 _ H5 _ I5 (fpx fr5) st5 go) fun r s6 ⟨u,hr,h6⟩=>?_
  subst hr
  refine wpAny_bind (thn h6 fun _ s7 zz91=>?_)
  obtain ⟨x,H7,I7,r7,y7,st7,fr7⟩:=zz91
  have I7':=I7.pinned (fpx fr7) (T.obj _ _ st7)
  refine wpAny_bind (cvt (thn (hg _ s7 _ H7 x u _ I7' r7 (hk x _ H7 _ (step x H7 y7))) fun _ s8 zz92=>?_))
  obtain ⟨σ8,H8,I8,q8,l8,k8⟩:=zz92
  refine wpAny_bind (cvt (thn (ht _ s8 σ8 H8 _ I8 q8) fun b s9 zz93=>?_))
  obtain ⟨H9,I9,q9⟩:=zz93
  have again:∀ {s':Shared} {H':Hp},Inv (cxComp X cs cl N' fp s3 H3) ([]++pinsAt fp s7.heap) σ8 H' s'->(∃ m',m'<n/\W (i+1) m' H') ->
    ∃ m',m'<n/\∃ i H',Inv (cxComp X cs cl N' fp s3 H3) [] (inner N' σ) H' s'/\tn i s'.heap/\(∀ b∈fp,H' b=none)/\W i m' H':=fun {s' H'} I' zz94=>by
   obtain ⟨m',hm,w'⟩:=zz94
   refine ⟨m',hm,i+1,H',(I'.unpinned).weak (by rw [l8]) (fun j v e=>?_),T.keep _ _ _ st7 fun b hb o e=>(I'.pin (b,o) (List.mem_append_right _ (List.mem_append_right _ (mem_pinsAt hb e)))).1,fun b hb=>?_,w'⟩
   ·have hj:j<X.N.length:=by rw [<- I3.len]; exact (List.getElem?_eq_some_iff.mp (inner_get e)).1
    rw [k8 j hj]; exact e
   ·obtain ⟨o,e,d⟩:=T.obj _ _ st7 b hb
    exact (I'.pin (b,o) (List.mem_append_right _ (List.mem_append_right _ (mem_pinsAt hb e)))).2.1
  cases b with
  | false=>
   have q9':∃ m',m'<n/\W (i+1) m' H9:=q9
   exact wpAny_pure ⟨rfl,again I9 q9'⟩
  | true=>
   have q9':te σ8 H9 _:=q9
   refine wpAny_bind (wpAny_bind (wpAny_mono (he _ s9 σ8 H9 _ I9.xe q9') (fun v s10 zz95=>?_) hX))
   obtain ⟨y,H10,I10',r10,ys,hD,hy,q10⟩:=zz95
   have I10:Inv (cxComp X cs cl N' fp s3 H3) ([]++pinsAt fp s7.heap) σ8 H10 s10:=I10'.xe
   refine wpAny_bind (cvt (thn (mt_append _ s10 σ8 H10 (.ref D) [y] (.ref D) [v] (fun _ H'=>∃ m',m'<n/\W (i+1) m' H') I10 rfl (.cons r10 .nil) ⟨D,ys,y,rfl,rfl,hD,hy,q10⟩) fun _ s11 zz96=>?_))
   obtain ⟨_,H11,I11,_,q11⟩:=zz96
   exact wpAny_pure (wpAny_pure ⟨rfl,again I11 q11⟩)
theorem comp_coreX {E:XK} {cl:List (Str×Addr)} {pins:List (Addr×Obj)} {σ:St} {R:Value->Addr->Result->Shared->Prop} {Q:V->Hp->Prop} {s2:Shared} {itv:Value} (S:CompScope X.env.scope cs X.N N') (hc:X.calm=true)
  (hg:∀ cl ex s H,PG (cxComp X cs cl N' ex s H) tg g) (hk:GKeep X.N.length g) (ht:∀ cl ex s H,PIf (cxComp X cs cl N' ex s H) ifs tc) (he:∀ cl ex s H,PE (cxCompX X E cs cl N' ex s H) elt te)
  (hcl1:∀ x c,cl.lookup x=some c->X.env.cells.lookup x=some c) (hcl2:∀ x,(x,NameKind.free)∈cs.names->∃ c,cl.lookup x=some c)
  (h:PIE X pins σ tg (fun J H1=>∀ D,H1 D=none->CompW J D g tc te (inner N' σ) H1 (Q (.ref D))) itv s2)
  (hR:∀ (D C:Addr) (H':Hp) (s':Shared),Inv X pins σ H' s'->Q (.ref D) H'->(∃ m,s'.heap.Ns C m)->FpOk X pins H' C->R (.ref D) C (.ok .next) s')
  (hX:∀ (fp:List Addr) (s3:Shared) (H3:Hp),Inv X pins σ H3 s3->(∀ b∈fp,FpOk X pins H3 b)->∀ acc e s',(cxCompX X E cs cl N' fp s3 H3).xe e s'->notedBy (model X.prog X.w) X.A (cxComp X cs cl N' fp s3 H3).env (fun e s'=>R acc s3.heap.objs.size (.error e) s') e s') :
  wpAny (model X.prog X.w) X.A (newList []) (fun acc s₃=>wpAny (model X.prog X.w) X.A (newFunctionEnv cs X.env.globals cl [] X.env.qual none .none (some X.env)) (fun cenv s₄=>
   cenv.frame=X.env.frame/\codeAny (model X.prog X.w) X.A (.compStart (.ListComp elt [⟨tg,iter,ifs,0⟩] cs pos) 0 itv acc { cenv with scope:=relabel cs X.env }) (R acc cenv.locals) s₄) X.xe s₃) X.xe s2:=by
 obtain ⟨it,fp,tn,J,H2,e,I2,T,st2,f2,hw⟩:=h
 subst e
 refine wpAny_newObj_type (wpAny_newFunctionEnv S.ncell (by intro y hy; simp at hy) (fun h1 hns1 hsb1=>?_) S.kind)
 dsimp only at hns1 hsb1 ⊢
 have hD:=I2.hok.fresh (Nat.le_refl _)
 obtain ⟨W,⟨m0,w0⟩,turn⟩:=hw s2.heap.objs.size hD
 have I3:Inv X pins σ (upd H2 s2.heap.objs.size (.lst [])) { s2 with heap:=s2.heap.push { cls:=.type "list",dict:=none,data:=.seq ([]:List Value).toArray } }:=I2.lnew (t':=s2.toks) .nil (Nat.zero_le _)
 have hfp3:∀ b∈fp,b<s2.heap.objs.size:=fun b hb=>by
  obtain ⟨o,e,_⟩:=T.obj 0 _ st2 b hb
  exact Heap.lt_size e
 have hf3:∀ b∈fp,FpOk X pins (upd H2 s2.heap.objs.size (.lst [])) b:=fun b hb=>by
  obtain ⟨f0,r⟩:=f2 b hb
  exact ⟨by rw [upd_ne (Nat.ne_of_lt (hfp3 b hb))]; exact f0,r⟩
 have hlt:∀ b∈fp,b<(s2.heap.push { cls:=.type "list",dict:=none,data:=.seq ([]:List Value).toArray }).objs.size:=fun b hb=>by rw [Heap.size_push]; exact Nat.lt_succ_of_lt (hfp3 b hb)
 have kp:∀ b o,(s2.heap.push { cls:=.type "list",dict:=none,data:=.seq ([]:List Value).toArray }).get? b=some o->h1.get? b=some o:=fun b o e=>hsb1.extBut b o (Nat.ne_of_lt (Heap.lt_size e)) (Heap.get?_push_of_some _ e)
 have I4:=comp_inv (cs:=cs) (cl:=cl) (N':=N') (fp:=fp) (s4:={ s2 with heap:=h1,toks:=s2.toks+([]:List (Str×Value)).length }) S I3 hcl1 hcl2 hf3 hlt kp hns1 rfl rfl
 have st4:tn 0 h1:=T.keep 0 _ _ st2 fun b hb o e=>kp b o (Heap.get?_push_of_some _ e)
 have loop:=comp_loopX (E:=E) (R:=R (.ref s2.heap.objs.size) (s2.heap.push { cls:=.type "list",dict:=none,data:=.seq ([]:List Value).toArray }).objs.size) (D:=s2.heap.objs.size) (iter:=iter) (pos:=pos) (it:=it) (Q:=Q (.ref s2.heap.objs.size)) hc (hg cl fp _ _) hk (ht cl fp _ _) (he cl fp _ _) (hX fp _ _ I3 hf3 _) hcl1 I3 I4 T st4 hf3 hlt w0 turn fun H' s' I' q n f=>hR _ _ H' s' I' q n f
 exact ⟨rfl,codeAny_compStart_list loop (T.self _ 0 _ _ _ st4 loop)⟩
end
theorem pe_compX {P:Program} {w:World} {K:Frag} {mg:Str->Option Value} {base:Heap} {N:List Str} {qual:Str} {scope:Scope} {f:Addr} {cd:Value} {A:Around} {outer:List Env} {s0:Shared} {H0:Hp} {E:XK}
  {cs:Scope} {N':List Str} {tg iter elt:Expr} {ifs:List Expr} {wi:TI} {g:TG} {tc:TT} {te:TE} {pos:Pos} (X:Cx) (hXX:X=cxOf (CXW P w) P w K mg base N qual scope f cd A outer s0 H0 E) (S:CompScope X.env.scope cs X.N N') (hc:X.calm=true) (hi:PI X tg iter wi)
  (hg:∀ cl ex s H,PG (cxComp X cs cl N' ex s H) tg g) (hk:GKeep X.N.length g) (ht:∀ cl ex s H,PIf (cxComp X cs cl N' ex s H) ifs tc) (he:∀ cl ex s H,PE (cxCompX X E cs cl N' ex s H) elt te)
  (hs:∀ x,foldedSetIterable iter X.env x=pure x:=by intro _; rfl):PE X (.ListComp elt [⟨tg,iter,ifs,0⟩] cs pos) (tComp N' wi g tc te):=by
 intro pins s σ H Q I h
 obtain ⟨cl,e,h1,h2,_⟩:=closure_of (env:=X.env) cs.names [] (fun x hx hk=>I.ok.has x.1 (S.free x hx hk)) (fun _ _ z=>nomatch z)
 have hclos:closureFor cs X.env=pure cl:=by
  simp only [closureFor]
  rw [e]; rfl
 rw [eval_ListComp]
 refine compX rfl hs hclos S.kind S.loc (thn (hi pins s σ H _ I h) fun v s1 q1=>thn q1 fun itv s2 q2=>?_)
 refine comp_coreX (E:=E) (R:=fun acc C=>compPostX (model X.prog X.w) X.A X.xe X.env (EP X pins σ Q) acc C) (Q:=Q) S hc hg hk ht he h1 h2 q2 (fun D C H' s' I' q n f=>?_) fun fp s3 H3 I3 hf3 acc e s' hx=>?_
 ·obtain ⟨m,hn⟩:=n
  obtain ⟨f0,f1,f2,f3,f4,f5⟩:=f
  exact ⟨m,hn,fun h' sb=>⟨.ref D,H',I'.turned (t':=s'.toks) (fun b o hb e=>sb.extBut b o hb e) f0 f1 f3 f4 f5,rfl,q⟩⟩
 ·obtain ⟨pins1,σ1,H1,s1,I1,q⟩:=hx
  have J1:Inv X pins σ H1 s1:=I3.call' (H':=H1) (ch:=fp) I1.os I1.base I1.hok I1.bare fun b hb=>by
   obtain ⟨f0,f1,f2,f3,f4,f5⟩:=hf3 b hb
   exact ⟨f3,f1,f4,f5⟩
  obtain ⟨m,hn,_⟩:=I1.loc
  have fr:=I1.free
  subst hXX
  have big:∀ {o:Obj},s3.heap.get? s3.heap.objs.size=some o->False:=fun {o} z=>absurd (Heap.lt_size z) (Nat.lt_irrefl _)
  refine fly_comp (C:=s3.heap.objs.size) J1 hn fr (fun z=>?_) ?_ q
  ·obtain ⟨_,o,eo,_⟩:=I3.stack.mem z
   exact big eo
  ·cases z:s0.heap.get? s3.heap.objs.size with
   | none=>rfl
   | some o=>
    obtain ⟨o',z'⟩:=I3.base.there _ o z (by simp [cxOf])
    exact (big z').elim
end L2
namespace TP
open PySem L2
open PyProof.Rows (envOfC)
section
variable {K:Frag} {EX:EXT} {H0 G H G1 H1 G2 H2:Hp} {ρ:Rho} {σ:St} {d:Mode} {D:Ends}
def elX (mg:W->Rho->Option Rho) (me:Rho->R W) (ρ:Rho) (w:W):R W:=match mg w ρ with
 | none=>.stuck
 | some ρ1=>me ρ1
def mapX (f:W->R W):List W->R (List W)
 | []=>.ok []
 | w::ws=>f w>>=fun y=>mapX f ws>>=fun ys=>.ok (y::ys)
def mCompX (N':Nat) (mg:W->Rho->Option Rho) (me:Rho->R W) (ws:List W) (ρ:Rho):R W:=
 if ws.length<=1000 then mapX (elX mg me (ρ++List.replicate (N'-ρ.length) Sl.un)) ws>>=fun ys=>.ok (.lst ys) else .stuck
def vCompX (n:Nat) (mi:Rho->R (List W)) (mg:W->Rho->Option Rho) (me:Rho->R W):Rho->R W:=fun ρ=>mi ρ>>=fun ws=>mCompX n mg me ws ρ
theorem mapX_append {f:W->R W}:∀ (us ws:List W),mapX f (us++ws)=(mapX f us>>=fun ys=>mapX f ws>>=fun zs=>.ok (ys++zs))
 | [],ws=>by
  show mapX f ws=(mapX f ws>>=fun zs=>.ok zs)
  cases mapX f ws <;> rfl
 | u::us,ws=>by
  show (f u>>=fun y=>mapX f (us++ws)>>=fun ys=>.ok (y::ys))=((f u>>=fun y=>mapX f us>>=fun ys=>.ok (y::ys))>>=_)
  rw [mapX_append us ws]
  cases f u with
  | stuck=>rfl
  | ex e=>rfl
  | ok y=>
   cases mapX f us with
   | stuck=>rfl
   | ex e=>rfl
   | ok ys=>cases mapX f ws <;> rfl
theorem mapX_at {f:W->R W} {ws ys:List W} {i:Nat} (hi:i<ws.length) (h:mapX f (ws.take i)=.ok ys):mapX f ws=(f ws[i]>>=fun y=>mapX f (ws.drop (i+1))>>=fun zs=>.ok (ys++y::zs)):=by
 have e:ws=ws.take i++ws[i]::ws.drop (i+1):=by rw [List.getElem_cons_drop,List.take_append_drop]
 conv=>lhs; rw [e]
 rw [mapX_append,h]
 show ((f ws[i]>>=fun y=>mapX f (ws.drop (i+1))>>=fun ys=>.ok (y::ys))>>=fun zs=>.ok (ys++zs))=_
 cases f ws[i] with
 | stuck=>rfl
 | ex e=>rfl
 | ok y=>cases mapX f (ws.drop (i+1)) <;> rfl
theorem mapX_snoc {f:W->R W} {ws ys:List W} {i:Nat} {z:W} (hi:i<ws.length) (h:mapX f (ws.take i)=.ok ys) (hz:f ws[i]=.ok z):mapX f (ws.take (i+1))=.ok (ys ++ [z]):=by
 rw [List.take_succ_eq_append_getElem hi,mapX_append,h]
 show ((f ws[i]>>=fun y=>R.ok [y])>>=fun zs=>.ok (ys++zs))=_
 rw [hz]; rfl
theorem c_compX {Q:VK} {e:Mode} {N':List Str} {g:TG} {mg:W->Rho->Option Rho} {mi:Rho->R (List W)} {me:Rho->R W} (hg:Gt K e g mg) (h:tM K EX .F (vCompX N'.length mi mg me) σ H Q) :
  tComp N' (tIt K EX false e mi) g (tT K EX yes) (tM K EX .V me) σ H Q:=by
 obtain ⟨H0,G,ρ,I,o⟩:=h
 refine ⟨H0,G,ρ,I,?_⟩
 replace o:Out EX G H (mdW K .F H0 H) (mi ρ>>=fun ws=>mCompX N'.length mg me ws ρ) Q:=o
 revert o
 cases mi ρ with
 | stuck=>exact id
 | ex x=>exact id
 | ok ws=>
  intro o J G1 H1 e1 T Dd hD
  have I1:=I.ext e1
  replace o:Out EX G H (mdW K .F H0 H) (mCompX N'.length mg me ws ρ) Q:=o
  unfold mCompX at o
  by_cases hlen:ws.length<=1000
  ·rw [if_pos hlen] at o
   have T':ItOk K e H0 H1 G1 J ws:=by
    have:=T
    rw [if_neg Bool.false_ne_true] at this
    exact this
   generalize hρ:ρ++List.replicate (N'.length-ρ.length) Sl.un=ρi at o
   refine ⟨fun i m H2=>m=ws.length-i/\i<=ws.length/\Same H1 H2/\∃ vs ys,H2 Dd=some (.lst vs)/\vs.length<=i/\mapX (elX mg me ρi) (ws.take i)=.ok ys/\Reps K (rest G1 H1 Dd H2) vs ys,
    ⟨_,rfl,Nat.zero_le _,fun b u q=>by rw [upd_ne (ne_of_none q hD)]; exact q,[],[],upd_same,Nat.le_refl _,rfl,.nil⟩,?_⟩
   rintro i m H2 ⟨rfl,hi,s2,vs,ys,hDv,hvl,hm,r2⟩
   by_cases hlt:i<ws.length
   ·refine .inr ⟨T'.go i H2 hlt s2,fun x H3 y=>?_⟩
    obtain ⟨sG,I2⟩:=I1.rest (Dd:=Dd) hD s2
    have I2i:=I2.inner (N':=N')
    obtain ⟨G3,e3,m3⟩:=T'.yld i H2 x H3 ws[i] (by simp) s2 y _ _ _ I2i sG
    rw [mapX_at hlt hm] at o
    rw [hρ] at I2i
    have hel:elX mg me ρi ws[i]=match mg ws[i] ρi with
     | none=>.stuck
     | some ρ1=>me ρ1:=rfl
    cases q:mg ws[i] ρi with
    | none=>rw [q] at hel; rw [hel] at o; exact o.elim
    | some ρ1=>
     rw [q] at hel
     dsimp only at hel
     refine hg H0 H2 G3 _ _ H3 x _ ρ1 _ (I2i.ext e3) m3 q fun σ4 I4=>⟨H0,G3,ρ1,I4,?_⟩
     intro b' G5 H5 e5 eb
     cases eb
     rw [if_pos rfl]
     refine ⟨H0,G5,ρ1,I4.ext e5,?_⟩
     cases hme:me ρ1 with
     | stuck=>rw [hel,hme] at o; exact o.elim
     | ex x=>
      rw [hel,hme] at o
      intro H' s'
      exact o H' ((e1.hh.trans s2).trans ((e3.hh.trans e5.hh).trans s'))
     | ok z=>
      intro yv G6 H6 e6 m6
      have e36:Ext (TP.rest G1 H1 Dd H2) H2 G6 H6:=(e3.trans e5).trans e6
      have s6:Same H2 H6:=e36.hh
      refine ⟨vs,s6 _ _ hDv,Nat.lt_of_le_of_lt hvl (Nat.lt_of_lt_of_le (by omega:i<1000) (by decide)),ws.length-(i+1),by omega,rfl,hlt,fun b u q=>by rw [upd_ne (ne_of_none q hD)]; exact s6 b u (s2 b u q),vs ++ [yv],ys ++ [z],upd_same,by rw [List.length_append]; simp; omega,mapX_snoc hlt hm (hel.trans hme),?_⟩
      have k1:Same (TP.rest G1 H1 Dd H2) (TP.rest G1 H1 Dd (upd H6 Dd (.lst (vs ++ [yv])))):=rest_mono fun b o hb q=>by rw [upd_ne hb]; exact s6 b o q
      have k2:Same G6 (TP.rest G1 H1 Dd (upd H6 Dd (.lst (vs ++ [yv])))):=(rest_ext ⟨vs,hDv⟩ s2 e36).trans (rest_mono fun b o hb q=>by rw [upd_ne hb]; exact q)
      exact (r2.same k1).snoc (Rep.same k2 m6)
   ·have ei:i=ws.length:=by omega
    subst ei
    refine .inl ⟨T'.stop H2 s2,?_⟩
    rw [List.take_length] at hm
    rw [hm] at o
    obtain ⟨sG,I2⟩:=I1.rest (Dd:=Dd) hD s2
    refine o _ (TP.rest G1 H1 Dd H2) H2 ⟨e1.gg.trans sG,e1.hh.trans s2,I2.gh,fun b u q l g=>rest_none (.inr ⟨u,e1.hh b u q,l,e1.keep b u q l g⟩)⟩ ⟨Dd,vs,rfl,hDv,rest_none (.inl rfl),e1.hh.free hD,r2⟩
  ·rw [if_neg hlen] at o; exact o.elim
def sRaise0 (c:Str) (mr:Rho->R (List W)):Rho->R Fl:=fun ρ=>mr ρ>>=fun ws=>if ws.length<=1000 then .ex ⟨c,none⟩ else .stuck
theorem c_raise0 {C:Addr} {c:Str} {mr:Rho->R (List W)} {E:XK} (hc:PySem.W.nsIn K mainGlobals c=some (some (.ref C))) (h:tSt K (XE1 K E) d (sRaise0 c mr) D σ H):tXRaise0 C E (tA K (XE1 K E) .B mr) D σ H:=by
 obtain ⟨H0,G,ρ,I,o⟩:=h
 refine ⟨H0,G,ρ,I,OutS.bind I o fun xs G1 H1 ws e1 m1 o1=>?_⟩
 have I1:=I.ext e1
 by_cases hl:ws.length<=1000
 ·rw [if_pos hl] at o1
  exact ⟨by rw [(MdA.whole I1 m1).length]; exact hl,o1 _ I1.hh C none hc rfl⟩
 ·rw [if_neg hl] at o1; exact o1.elim
end
section
variable {P:Program} {w:World} {K:Frag} {mg:Str->Option Value} {base:Heap} {N:List Str} {qual:Str} {scope:Scope} {f0:Addr} {cd:Value} {A:Around} {outer:List Env} {s0:Shared} {H0:Hp} {E:XK} {d:Mode} {e:Expr} {es:List Expr} {pos:Pos} {mr:Rho->R (List W)}
theorem q_raise0 {C:Addr} {cn:Str} {np cp:Pos} (M:XMk0 K C) (hg:Gl (cxOf (CXW P w) P w K mg base N qual scope f0 cd A outer s0 H0 E) cn) (hm:mg cn=some (.ref C)) (hc:PySem.W.nsIn K mainGlobals cn=some (some (.ref C)))
  (ha:PA (cxOf (CXW P w) P w K mg base N qual scope f0 cd A outer s0 H0 E) (e::es) (tA K (XE1 K E) .B mr)) (hdb:(cn == ("__debug__" : Str))=false:=by decide) (he:starEach (e::es) (envOfC qual scope s0.heap.objs.size f0 cd)=(false,eval e (envOfC qual scope s0.heap.objs.size f0 cd))::starEach es (envOfC qual scope s0.heap.objs.size f0 cd):=by rfl)
  (hpl:(backTo cp (starEach es (envOfC qual scope s0.heap.objs.size f0 cd))).any (·.1)=false:=by rfl) :
  PS (cxOf (CXW P w) P w K mg base N qual scope f0 cd A outer s0 H0 E) (.Raise (some (.Call (.Name cn np) (e::es) [] cp)) none pos) (tSt K (XE1 K E) d (sRaise0 cn mr)):=
 (ps_xraise0 M hg hm ha hdb he hpl).mono fun _ _ _ q=>c_raise0 hc q
theorem q_compX {cs:Scope} {N':List Str} {tg iter elt:Expr} {dd:Mode} {g:TG} {mgt:W->Rho->Option Rho} {mi:Rho->R (List W)} {ma:Rho->R W}
  (S:CompScope (cxOf (CXW P w) P w K mg base N qual scope f0 cd A outer s0 H0 E).env.scope cs N N') (hi:PI (cxOf (CXW P w) P w K mg base N qual scope f0 cd A outer s0 H0 E) tg iter (tIt K (XE1 K E) false dd mi))
  (hg:∀ cl ex s H,PG (cxComp (cxOf (CXW P w) P w K mg base N qual scope f0 cd A outer s0 H0 E) cs cl N' ex s H) tg g) (hgt:Gt K dd g mgt) (hk:GKeep N.length g) (he:∀ cl ex s H,PE (cxCompX (cxOf (CXW P w) P w K mg base N qual scope f0 cd A outer s0 H0 E) E cs cl N' ex s H) elt (tM K (XE1 K E) .V ma))
  (hs:∀ x,foldedSetIterable iter (cxOf (CXW P w) P w K mg base N qual scope f0 cd A outer s0 H0 E).env x=pure x:=by intro _; rfl):PE (cxOf (CXW P w) P w K mg base N qual scope f0 cd A outer s0 H0 E) (.ListComp elt [⟨tg,iter,[],0⟩] cs pos) (tM K (XE1 K E) .F (vCompX N'.length mi mgt ma)):=
 (pe_compX _ rfl S rfl hi hg hk (fun _ _ _ _=>q_pifN) he hs).mono fun _ _ _ q=>c_compX hgt q
theorem q_callCX {cs:Scope} {cl:List (Str×Addr)} {N1:List Str} {ex:List Addr} {s1:Shared} {H1:Hp} {k:Nat} {f:Addr} {fd:FuncData} {ps:List Str} {x:Str} {p:Pos} {n N':Nat} {m:Rho->R Fl} (F:FnOk P w K mg base (CXW P w) k f fd ps (spR K n d (runB n N' m))) (hd:d=.F\/d=.V)
  (hr:Room k (cxOf (CXW P w) P w K mg base N qual scope f0 cd A outer s0 H0 E).A) (hg:Gl (cxCompX (cxOf (CXW P w) P w K mg base N qual scope f0 cd A outer s0 H0 E) E cs cl N1 ex s1 H1) x) (hm:mg x=some (.ref f)) (hk:PySem.W.keepIn K (.ref f)=true) (hb:Binds K fd ps [])
  (ha:PA (cxCompX (cxOf (CXW P w) P w K mg base N qual scope f0 cd A outer s0 H0 E) E cs cl N1 ex s1 H1) (e::es) (tA K (XE1 K E) .B mr)) (hdb:(x == ("__debug__" : Str))=false:=by decide)
  (he:starEach (e::es) (cxCompX (cxOf (CXW P w) P w K mg base N qual scope f0 cd A outer s0 H0 E) E cs cl N1 ex s1 H1).env=(false,eval e (cxCompX (cxOf (CXW P w) P w K mg base N qual scope f0 cd A outer s0 H0 E) E cs cl N1 ex s1 H1).env)::starEach es (cxCompX (cxOf (CXW P w) P w K mg base N qual scope f0 cd A outer s0 H0 E) E cs cl N1 ex s1 H1).env:=by rfl)
  (hpl:(backTo pos (starEach es (cxCompX (cxOf (CXW P w) P w K mg base N qual scope f0 cd A outer s0 H0 E) E cs cl N1 ex s1 H1).env)).any (·.1)=false:=by rfl) :
  PE (cxCompX (cxOf (CXW P w) P w K mg base N qual scope f0 cd A outer s0 H0 E) E cs cl N1 ex s1 H1) (.Call (.Name x p) (e::es) [] pos) (tM K (XE1 K E) d (bA (runB n N' m) mr)):=
 (pe_call (X:=cxCompX (cxOf (CXW P w) P w K mg base N qual scope f0 cd A outer s0 H0 E) E cs cl N1 ex s1 H1) F hr hg hm hk hb .nil passX ha hdb he hpl).mono fun _ _ _ q=>c_callP hd (fun ws h=>runB_len ws h) q
end
end TP
namespace L2
open PySem PySem.Spec PyProof.Rows
section
variable {X:Cx} {pins:List (Addr×Obj)} {σ:St} {H:Hp} {s:Shared}
theorem Inv.trackX {a:Addr} {o:Obj} (I:Inv X pins σ H s) (f:FpOk X pins H a) (h0:X.s₀.heap.objs.size<=a) (ho:s.heap.get? a=some o):Inv X pins σ (upd H a (.ext fun h=>h.get? a=some o)) s:=by
 obtain ⟨f0,f1,f2,f3,f4,f5⟩:=f
 have us:∀ {b:Addr} {w:HO},H b=some w->upd H a (.ext fun h=>h.get? a=some o) b=some w:=fun {b w} e=>by
  rw [upd_ne (ne_of_none e f0)]; exact e
 have un:∀ {b:Addr},b≠a->H b=none->upd H a (.ext fun h=>h.get? a=some o) b=none:=fun {b} n e=>by rw [upd_ne n]; exact e
 refine ⟨I.ok,I.os,I.bare,⟨I.base.keep,I.base.slot,fun b ob e n q=>un (fun z=>absurd (Heap.lt_size e) (by rw [z]; exact Nat.not_lt.mpr h0)) (I.base.free b ob e n q),I.base.there,fun b xs e=>us (I.base.tups b xs e),fun b ob w e=>us (I.base.frzs b ob w e),fun b ps e=>?_⟩,
  I.loc,I.cell,un (fun z=>f1 z.symm) I.free,fun x c e=>un (f4 x c e) (I.freeC x c e),fun p hp=>?_,fun b ob e=>?_,I.len⟩
 ·obtain ⟨more,y⟩:=I.base.tbls b ps e
  exact ⟨more,us y⟩
 ·obtain ⟨p1,p2,p3⟩:=I.pin p hp
  exact ⟨p1,un (f5 p hp) p2,p3⟩
 ·by_cases z:b=a
  ·subst z
   rw [upd_same] at e; cases e
   exact ⟨ho,⟨_,ho⟩,fun _ _ q k=>k _ q⟩
  ·rw [upd_ne z] at e
   exact (I.hok b ob e).stay (fun _ _ _ q=>q) (fun c q=>us q) fun c xs q=>us q
def tDct (trs:List (TE×TE)):TE:=fun σ H Q=>tPairs trs σ H fun ps H2=>∃ kvs:List (Key×V),ps=kvs.map (fun kv=>(kV kv.1,kv.2))/\∀ p o,H2 p=none->o.cls=.type "dict" -> Q (.ref p) (upd H2 p (.ext fun h=>h.get? p=some o))
theorem pe_dct {X:Cx} {pos:Pos} {keys:List (Option Expr)} {values:List Expr} {trs:List (TE×TE)} (h:PPs X pos keys values trs) (hall:keys.all (·.isSome)=true) (hl:keys.length=values.length) (h0:keys ≠ [])
  (h15:keys.length<=15):PE X (.Dict keys values pos) (tDct trs):=by
 intro pins s σ H Q I q
 have hn:=I.hok.fresh (Nat.le_refl s.heap.objs.size)
 have I0:Inv X pins σ H { s with heap:=s.heap.push { cls:=.type "dict",data:=.dict #[] } }:=I.kept (t':=s.toks) fun _ _ q=>Heap.get?_push_of_some _ q
 have ob:(s.heap.push { cls:=.type "dict",data:=.dict #[] }).get? s.heap.objs.size=some { cls:=.type "dict",data:=.dict #[] }:=Heap.get?_push_size _ rfl
 have fp:∀ b ∈ [s.heap.objs.size],FpOk X pins H b:=fun b hb=>by
  rw [List.mem_singleton] at hb; subst hb; exact I.fpOk (Nat.le_refl _) hn
 have I1:=I0.pinned fp fun b hb=>by
  rw [List.mem_singleton] at hb; subst hb; exact ⟨_,ob,fun v z=>by cases z⟩
 refine wpAny_Dict_walk (knd:=mixKind X.prog X.w) hall hl h0 h15 (thn (h _ _ σ _ _ I1 q) fun ws s2 zz97=>?_)
 obtain ⟨ps,H2,I2,rel,kvs,ep,q2⟩:=zz97
 subst ep
 obtain ⟨rs,c,rk⟩:=carries_of (P:=X.prog) (w:=X.w) rel
 obtain ⟨e1,e2,_⟩:=I2.pin (s.heap.objs.size,_) (List.mem_append_right _ (List.mem_append_right _ (mem_pinsAt List.mem_cons_self ob)))
 have dd:s2.heap.DictOf (mixKind X.prog X.w) s.heap.objs.size []:=by
  obtain ⟨_,_,vs,r,dd⟩:=(show ObjOk X.prog X.w (upd H s.heap.objs.size (.dK [])) (s.heap.push { cls:=.type "dict",data:=.dict #[] }) s.heap.objs.size (.dK []) from dk_empty s.heap I.big)
  cases r
  obtain ⟨qo,es,ep,hq,r⟩:=dd
  have hq':(s.heap.push { cls:=.type "dict",data:=.dict #[] }).get? s.heap.objs.size=some qo:=hq
  rw [ob] at hq'; cases hq'
  exact ⟨_,es,ep,e1,r⟩
 refine ⟨rs,c,dd,fun h' dd' hs=>?_⟩
 obtain ⟨qo,es,ep,hq,hx,_⟩:=dd'
 have f:=I.fpOk (H':=H2) (Nat.le_refl _) e2
 obtain ⟨f0,f1,f2,f3,f4,f5⟩:=id f
 have I3:Inv X pins σ H2 { s2 with heap:=h' }:=I2.unpinned.turned (t':=s2.toks) (fun b o hb e=>hs.extBut b o hb e) f0 f1 f3 f4 f5
 exact ⟨.ref s.heap.objs.size,_,(I3.trackX f I.sz hq).tok _,rfl,q2 _ qo e2 hx.1⟩
end
end L2
namespace TP
open PySem L2
def tFs (te:TE) (y:Str):TE:=fun σ H Q=>te σ H fun v H1=>∃ x,v=.str x/\x.length<=1000/\y.length<=1000/\Q (.str (Str.empty++x++y)) H1
theorem pe_fs {X:Cx} {e:Expr} {te:TE} {y:Str} {j} {p1 p2 pos:Pos} (he:PE X e te):PE X (.JoinedStr [.FormattedValue e (-1) none p1,.Constant (.str y) j p2] pos) (tFs te y):=by
 intro pins s σ H Q I h
 refine PyProof.Rows.JoinedStr_many (PyProof.Rows.joinParts_cons (PyProof.Rows.FormattedValue_plain (thn (he pins s σ H _ I h) fun u s1 zz98=>?_)))
 obtain ⟨v,H1,I1,r,x,hv,hx,hy,q⟩:=zz98
 subst hv
 obtain ⟨t,rfl⟩:=r
 have big:2000<=sizeLine:=by decide
 have l1:(Str.empty++x).length=x.length:=by rw [strLen_append]; exact Nat.zero_add _
 have l2:(Str.empty++x++y).length=x.length+y.length:=by rw [strLen_append,l1]
 refine PyProof.Rows.formatField_str (fun t' tk=>⟨by rw [l1]; omega,?_⟩) (by omega)
 refine PyProof.Rows.joinParts_cons (Calls.Constant_str ⟨by rw [l2]; omega,PyProof.Rows.joinParts_nil ⟨.str (Str.empty++x++y),H1,(I1.tok _).tok _,⟨_,rfl⟩,q⟩ (by rw [l2]; omega)⟩)
section
variable {K:Frag} {EX:EXT} {H0 G H G1 H1:Hp} {ρ:Rho} {σ:St}
def bFs (y:Str) (ma:Rho->R W):Rho->R W:=fun ρ=>ma ρ>>=fun w=>match w with
 | .str x=>if x.length<=1000/\y.length<=1000 then .ok (.str (Str.empty++x++y)) else .stuck
 | _=>.stuck
theorem c_fs {y:Str} {ma:Rho->R W} {d:Mode} {Q:VK} (h:tM K EX d (bFs y ma) σ H Q):tFs (tM K EX .B ma) y σ H Q:=by
 obtain ⟨H0,G,ρ,I,o⟩:=h
 refine ⟨H0,G,ρ,I,Out.bind o fun v G1 H1 w e1 m1 o1=>?_⟩
 have I1:=I.ext e1
 split at o1
 ·rename_i x
  split at o1
  ·rename_i hl
   exact ⟨x,m1.strB,hl.1,hl.2,o1 _ G1 H1 (Ext.refl I1.gh) (Md.sca rfl (fun _=>.str) d)⟩
  ·exact o1.elim
 ·exact o1.elim
def bDct (c:Str) (mk mv:Rho->R W):Rho->R W:=fun ρ=>mk ρ>>=fun w=>mv ρ>>=fun _=>match w with
 | .int _=>.ok (.exc c none)
 | _=>.stuck
theorem c_dct {c:Str} {mk mv:Rho->R W} {Q:VK} (hn:∀ C,PySem.W.nsIn K mainGlobals c≠some (some (.ref C))) (h:tM K EX .V (bDct c mk mv) σ H Q):tDct [(tM K EX .B mk,tM K EX .B mv)] σ H Q:=by
 obtain ⟨H0,G,ρ,I,o⟩:=h
 refine ⟨H0,G,ρ,I,Out.bind o fun v G1 H1 w e1 m1 o1=>?_⟩
 have I1:=I.ext e1
 refine ⟨H0,G1,ρ,I1,Out.bind o1 fun v2 G2 H2 w2 e2 m2 o2=>?_⟩
 have I2:=I1.ext e2
 split at o2
 ·rename_i i
  refine ⟨[(.inl i,v2)],by rw [m1.intB]; rfl,fun p ob hp hc=>?_⟩
  have gp:G2 p=none:=I2.gh.free hp
  refine o2 _ (upd G2 p (.ext fun h=>h.get? p=some ob)) _ ⟨fun b u q=>?_,fun b u q=>?_,fun b u q=>?_,fun b u q l g=>?_⟩ (.dct upd_same hc hn)
  ·rw [upd_ne (ne_of_none q gp)]; exact q
  ·rw [upd_ne (ne_of_none q hp)]; exact q
  ·by_cases h1:b=p
   ·subst h1; rw [upd_same] at q ⊢; exact q
   ·rw [upd_ne h1] at q ⊢; exact I2.gh b u q
  ·rw [upd_ne (ne_of_none q hp)]; exact g
 ·exact o2.elim
end
section
variable {X:Cx} {K:Frag} {EX:EXT} {d:Mode} {e k v:Expr} {pos:Pos} {ma mk mv:Rho->R W}
theorem q_fs {y:Str} {j} {p1 p2:Pos} (h:PE X e (tM K EX .B ma)):PE X (.JoinedStr [.FormattedValue e (-1) none p1,.Constant (.str y) j p2] pos) (tM K EX d (bFs y ma)):=(pe_fs h).mono fun _ _ _ q=>c_fs q
theorem q_dct {c:Str} (hn:∀ C,PySem.W.nsIn K mainGlobals c≠some (some (.ref C))) (hk:PE X k (tM K EX .B mk)) (hv:PE X v (tM K EX .B mv)):PE X (.Dict [some k] [v] pos) (tM K EX .V (bDct c mk mv)):=
 (pe_dct (pps_cons hk hv pps_nil) rfl rfl (by simp) (Nat.le_of_ble_eq_true rfl)).mono fun _ _ _ q=>c_dct hn q
end
end TP
namespace L2
open PySem PySem.Spec PyProof.Rows
def rIsiD:List V->Hp->VK->Prop:=fun xs H Q=>rIsiT xs H Q\/∃ b a o,xs = [.ref b,.ref a]/\H a=some (.tup [.ty "list",.ty "tuple"])/\H b=some (.ext fun h=>h.get? b=some o)/\o.cls=.type "dict" /\ Q (.bl false) H
theorem call_isiD {X:Cx}:CallR X (.builtin "isinstance") rIsiD:=by
 intro pins s σ H xs us Q I r h
 rcases h with h | ⟨b,a,o,rfl,ha,hb,hc,k⟩
 ·exact call_isiT pins s σ H xs us Q I r h
 ·obtain ⟨u,w',rfl,r1,r2⟩:=vals2 r
  have e3:w'=Value.ref a:=r2
  have e4:u=Value.ref b:=r1
  subst e3 e4
  obtain ⟨its,rv,ht,_⟩:=I.tuple (SqT.of ha)
  obtain ⟨v1,v2,rfl,s1,s2⟩:=vals2 rv
  have f1:v1=Value.type "list" := s1
  have f2:v2=Value.type "tuple" := s2
  subst f1 f2
  have e:PySem.W.kitAny X.K (.type "dict") [.type "list",.type "tuple"]=some false:=by
   unfold PySem.W.kitAny
   rw [isiB_ok (show isiB "dict" "list" = some false from by decide)]
   show PySem.W.kitAny X.K (.type "dict") [.type "tuple"]=_
   unfold PySem.W.kitAny
   rw [isiB_ok (show isiB "dict" "tuple" = some false from by decide)]
   rfl
  obtain ⟨⟨c,dd,da,sl⟩,ho,hcl,n,hd⟩:=ht
  replace hcl:c=.type "tuple" := hcl
  replace hd:da=.seq [Value.type "list",Value.type "tuple"].toArray n:=hd
  subst hcl hd
  have hob:s.heap.get? b=some o:=(I.hok b _ hb).1
  exact PySem.W.kia_tup PySem.W.kitx_dict I.kIn ⟨o,hob,hc⟩ ho e (fun z=>nomatch z) fun tk=>⟨.bl false,H,I.tok tk,rfl,k⟩
end L2
namespace TP
open PySem L2
def fIsiD (c:Str):List W->R W
 | [.exc c' none,.tup [.ty p,.ty q]]=>if c'=c/\p = "list" /\ q = "tuple" then .ok (.bl false) else .stuck
 | ws=>fIsiT ws
section
variable {K:Frag} {d:Mode}
theorem b_isiD {c:Str} (hn:∀ C,PySem.W.nsIn K mainGlobals c≠some (some (.ref C))):Cal K .B d rIsiD (fIsiD c):=by
 intro EX H0 Hs G H ρ σ Ha vs ws Q I s m o
 unfold fIsiD at o
 split at o
 ·rename_i c' p q
  split at o
  ·rename_i hpq
   obtain ⟨rfl,rfl,rfl⟩:=hpq
   cases m with
   | cons a t=>
    cases t with
    | cons b t=>
     cases t
     obtain ⟨x,ks,rfl,hx,rx⟩:=Md.tupB I b
     cases rx with
     | cons r1 rx=>
      cases rx with
      | cons r2 rx=>
       cases rx
       cases r1
       cases r2
       have m2:=excB I a
       cases m2 with
       | exc h1 h2 h3 h4 h5=>exact absurd h4 (hn _)
       | dct h1 h2 h3=>exact .inr ⟨_,x,_,rfl,hx,h1,h2,o _ G H (Ext.refl I.gh) (Md.sca rfl (fun _=>.bl) d)⟩
  ·exact o.elim
 ·exact .inl (b_isiT EX H0 Hs G H ρ σ Ha vs _ Q I s m o)
end
end TP
namespace L2
open PySem PySem.Spec PyProof.Rows
theorem xok0_mk {K:Frag} {C:Addr} {nm q:Str} {N:Addr} {bs bm:List Value} {hdct:Bool} {sn:List Str} {sub:List Value} {ab:Bool} {col:Option Bool} {dd:Option Addr} {k0 k1 k2 k3 k5:Option Value}
  (lk:K.lookup C=some (excClassObj nm q C N bs bm hdct sn sub ab col dd k0 k1 k2 k3 k5 "ValueError.__new__")) (ht:PySem.W.excIn K C vErr "ValueError.__new__" = true)
  (ty:PySem.W.typeIn K (.ref C)=some (.type "type")) (be:PySem.W.mroIn K C (.type "BaseException")=some true) (kp:PySem.W.keepIn K (.ref C)=true) (ob:PySem.W.mroIn K C (.type "object")=some true)
  (ga:PySem.W.findIn K (.ref C) (Str.ofString "__getattribute__")=some (some (.builtin "BaseException.__getattribute__"))) (gh:PySem.W.findIn K (.ref C) (Str.ofString "__getattr__")=some none)
  (cl:PySem.W.findIn K (.ref C) (Str.ofString "__class__")=some (some (.builtin "object.__class__"))) (gt:PySem.W.specialIn K (.builtin "object.__class__") (Str.ofString "__get__")=some (some (.builtin "getset_descriptor.__get__")))
  (tk:PySem.W.takesIn K (.builtin "object.__class__")=some true) (su:PySem.W.subIn K (.ref C) (.ref C)=some true):XMk0 K C/\XIs K C:=by
 unfold PySem.W.excIn at ht
 rw [lk] at ht
 replace ht:(C == C && "ValueError.__new__" == "ValueError.__new__" && !false&&PySem.W.tailIn K vErr bm&&PySem.W.nsOkIn K N&&PySem.W.nsIn K N "__init__" == some none)=true:=ht
 simp only [Bool.and_eq_true,beq_iff_eq] at ht
 exact ⟨xmk0_mk lk ht.1.1.2 ht.1.2 ht.2 ty be kp,⟨ga,gh,be,ob,cl,gt,tk,kitCls_ref (cls_of lk) ty su⟩⟩
end L2
namespace TP
open PySem L2
abbrev tI (ns:List Int):W:=.tup (ns.map W.int)
abbrev lI (ns:List Int):W:=.lst (ns.map W.int)
theorem noLs_ints (ns:List Int):noLs (ns.map W.int)=true:=by
 induction ns with
 | nil=>rfl
 | cons n ns ih=>rw [List.map_cons]; simp only [noLs,noL,ih,Bool.and_self]
theorem fEqS_ii (n:Bool) (i j:Int):fEqS n (.int i) (.int j)=.ok (.bl (if n then !decide (i=j) else decide (i=j))):=by
 show R.ok (W.bl (if n then !decide (V.int i=V.int j) else decide (V.int i=V.int j)))=_
 rw [show decide (V.int i=V.int j)=decide (i=j) from decide_eq_decide.mpr ⟨V.int.inj,congrArg _⟩]
theorem fEqS_bb (n:Bool) (i j:Bool):fEqS n (.bl i) (.bl j)=.ok (.bl (if n then !decide (i=j) else decide (i=j))):=by
 show R.ok (W.bl (if n then !decide (V.bl i=V.bl j) else decide (V.bl i=V.bl j)))=_
 rw [show decide (V.bl i=V.bl j)=decide (i=j) from decide_eq_decide.mpr ⟨V.bl.inj,congrArg _⟩]
theorem fEqS_ss (n:Bool) (i j:Str):fEqS n (.str i) (.str j)=.ok (.bl (if n then !decide (i=j) else decide (i=j))):=by
 show R.ok (W.bl (if n then !decide (V.str i=V.str j) else decide (V.str i=V.str j)))=_
 rw [show decide (V.str i=V.str j)=decide (i=j) from decide_eq_decide.mpr ⟨V.str.inj,congrArg _⟩]
theorem fEqS_nn (n:Bool):fEqS n .non .non=.ok (.bl (!n)):=by cases n <;> rfl
theorem fEqS_ni (n:Bool) (i:Int):fEqS n .non (.int i)=.ok (.bl n):=by cases n <;> rfl
theorem fEqS_in (n:Bool) (i:Int):fEqS n (.int i) .non=.ok (.bl n):=by cases n <;> rfl
theorem atW {ns:List Int} {i:Int} (h0:0<=i) (h1:i<ns.length):L2.atI (ns.map W.int) i=some (.int (ns.getD i.toNat 0)):=by
 unfold L2.atI
 rw [List.length_map,ixN_int h0 h1]
 show (ns.map W.int)[i.toNat]?=_
 rw [List.getElem?_map,some_getD (by omega)]; rfl
def andThen (r:R Fl) (n:Rho->R Fl):R Fl:=r>>=fun f=>match f with
 | .nx ρ'=>n ρ'
 | .rt w=>.ok (.rt w)
 | .bk ρ'=>.ok (.bk ρ')
 | .ct ρ'=>.ok (.ct ρ')
theorem mSeq_ap (m n:Rho->R Fl) (ρ:Rho):mSeq m n ρ=andThen (m ρ) n:=rfl
theorem andThen_nx (ρ:Rho) (n:Rho->R Fl):andThen (.ok (.nx ρ)) n=n ρ:=rfl
theorem andThen_rt (w:W) (n:Rho->R Fl):andThen (.ok (.rt w)) n=.ok (.rt w):=rfl
theorem andThen_bk (ρ:Rho) (n:Rho->R Fl):andThen (.ok (.bk ρ)) n=.ok (.bk ρ):=rfl
theorem andThen_ct (ρ:Rho) (n:Rho->R Fl):andThen (.ok (.ct ρ)) n=.ok (.ct ρ):=rfl
theorem mC_ap (w:W) (ρ:Rho):mC w ρ=.ok w:=rfl
theorem b1_ap (f:W->R W) (ma:Rho->R W) (ρ:Rho):b1 f ma ρ=(ma ρ>>=f):=rfl
def R2b (a b:R W) (f:W->W->R W):R W:=a>>=fun x=>b>>=fun y=>f x y
theorem b2_ap (f:W->W->R W) (ma mb:Rho->R W) (ρ:Rho):b2 f ma mb ρ=R2b (ma ρ) (mb ρ) f:=rfl
theorem R2b_ok (x y:W) (f:W->W->R W):R2b (.ok x) (.ok y) f=f x y:=rfl
theorem bA_ap (f:List W->R W) (ma:Rho->R (List W)) (ρ:Rho):bA f ma ρ=(ma ρ>>=f):=rfl
theorem bI_ap (f:List W->R (List W)) (ma:Rho->R (List W)) (ρ:Rho):bI f ma ρ=(ma ρ>>=f):=rfl
theorem bS_ap (ma:Rho->R W) (ρ:Rho):bS ma ρ=(ma ρ>>=seqW):=rfl
theorem aN_ap (ρ:Rho):aN ρ=.ok []:=rfl
def Rcons (a:R W) (b:R (List W)):R (List W):=a>>=fun x=>b>>=fun xs=>.ok (x::xs)
theorem aC_ap (ma:Rho->R W) (mr:Rho->R (List W)) (ρ:Rho):aC ma mr ρ=Rcons (ma ρ) (mr ρ):=rfl
theorem Rcons_ok (x:W) (xs:List W):Rcons (.ok x) (.ok xs)=.ok (x::xs):=rfl
theorem bChk_ap (ma:Rho->R W) (ρ:Rho):bChk ma ρ=(ma ρ>>=chk):=rfl
theorem bTest_ap (ma:Rho->R W) (ρ:Rho):bTest ma ρ=(ma ρ>>=toB):=rfl
theorem tAnd_ap (a b:Rho->R Bool) (ρ:Rho):tAnd' a b ρ=rAnd (a ρ) (b ρ):=rfl
theorem tOr_ap (a b:Rho->R Bool) (ρ:Rho):tOr' a b ρ=rOr (a ρ) (b ρ):=rfl
theorem tNot_ap (a:Rho->R Bool) (ρ:Rho):tNot' a ρ=rNot (a ρ):=rfl
theorem rAnd_ok (x y:Bool):rAnd (.ok x) (.ok y)=.ok (x&&y):=by cases x <;> rfl
theorem rAnd_ff (r:R Bool):rAnd (.ok false) r=.ok false:=rfl
theorem rAnd_tt (r:R Bool):rAnd (.ok true) r=r:=rfl
theorem rOr_ok (x y:Bool):rOr (.ok x) (.ok y)=.ok (x||y):=by cases x <;> rfl
theorem rOr_tt (r:R Bool):rOr (.ok true) r=.ok true:=rfl
theorem rOr_ff (r:R Bool):rOr (.ok false) r=r:=rfl
theorem rNot_ok (x:Bool):rNot (.ok x)=.ok (!x):=rfl
theorem vAnd_ap (a b:Rho->R W) (ρ:Rho):vAnd a b ρ=rAndV (a ρ) (b ρ):=rfl
theorem vOr_ap (a b:Rho->R W) (ρ:Rho):vOr a b ρ=rOrV (a ρ) (b ρ):=rfl
theorem vNot_ap (a:Rho->R W) (ρ:Rho):vNot a ρ=rNotV (a ρ):=rfl
theorem rAndV_ok (x y:Bool):rAndV (.ok (.bl x)) (.ok (.bl y))=.ok (.bl (x&&y)):=by cases x <;> rfl
theorem rAndV_ff (r:R W):rAndV (.ok (.bl false)) r=.ok (.bl false):=rfl
theorem rAndV_tt (r:R W):rAndV (.ok (.bl true)) r=r:=rfl
theorem rOrV_ok (x y:Bool):rOrV (.ok (.bl x)) (.ok (.bl y))=.ok (.bl (x||y)):=by cases x <;> rfl
theorem rOrV_tt (r:R W):rOrV (.ok (.bl true)) r=.ok (.bl true):=rfl
theorem rOrV_ff (r:R W):rOrV (.ok (.bl false)) r=r:=rfl
theorem rNotV_ok (x:Bool):rNotV (.ok (.bl x))=.ok (.bl (!x)):=rfl
def rIfW (c:R Bool) (a b:R W):R W:=c>>=fun t=>if t then a else b
theorem vIf_ap (c:Rho->R Bool) (a b:Rho->R W) (ρ:Rho):vIf c a b ρ=rIfW (c ρ) (a ρ) (b ρ):=rfl
theorem rIfW_tt (a b:R W):rIfW (.ok true) a b=a:=rfl
theorem rIfW_ff (a b:R W):rIfW (.ok false) a b=b:=rfl
theorem rIfW_ok (t:Bool) (x y:W):rIfW (.ok t) (.ok x) (.ok y)=.ok (if t then x else y):=by cases t <;> rfl
def Rchain (f f':W->W->R W) (a b c:R W):R W:=a>>=fun x=>b>>=fun y=>f x y>>=fun z=>toB z>>=fun t=>if t then c>>=fun u=>f' y u else .ok (.bl false)
theorem vChain_ap (f f':W->W->R W) (ma mb mc:Rho->R W) (ρ:Rho):vChain f f' ma mb mc ρ=Rchain f f' (ma ρ) (mb ρ) (mc ρ):=rfl
theorem Rchain_ii (g g':Int->Int->Bool) (i j k:Int):Rchain (fI0 fun i j=>.bl (g i j)) (fI0 fun i j=>.bl (g' i j)) (.ok (.int i)) (.ok (.int j)) (.ok (.int k))=.ok (.bl (g i j&&g' j k)):=by
 unfold Rchain
 show (if g i j=true then _ else _)=_
 cases h:g i j <;> simp [fI0]
def mkTup (ws:List W):R W:=lim ws.length (.tup ws)
def mkLst (ws:List W):R W:=lim ws.length (.lst ws)
theorem vTup_ap (ma:Rho->R (List W)) (ρ:Rho):vTup ma ρ=(ma ρ>>=mkTup):=rfl
theorem vLst_ap (ma:Rho->R (List W)) (ρ:Rho):vLst ma ρ=(ma ρ>>=mkLst):=rfl
theorem pN_ap (ρ:Rho):pN ρ=.ok none:=rfl
theorem pS_ap (m:Rho->R W) (ρ:Rho):pS m ρ=(m ρ>>=partW):=rfl
theorem partW_int (i:Int):partW (.int i)=.ok (some i):=rfl
def Rsl (c:Bool) (x:R W) (l u:R (Option Int)):R W:=x>>=fun x=>l>>=fun l=>u>>=fun u=>toR (lstOf x)>>=fun ws=>chks c (cutW ws l u)
theorem vSl_ap (c:Bool) (m:Rho->R W) (ml mh:Rho->R (Option Int)) (ρ:Rho):vSl c m ml mh ρ=Rsl c (m ρ) (ml ρ) (mh ρ):=rfl
theorem Rsl_lst (c:Bool) (ws:List W) (l u:Option Int):Rsl c (.ok (.lst ws)) (.ok l) (.ok u)=chks c (cutW ws l u):=rfl
theorem Rsl_scr (c:Bool) (ws:List W) (l u:Option Int):Rsl c (.ok (.scr ws)) (.ok l) (.ok u)=chks c (cutW ws l u):=rfl
def Rcomp (r:R (List W)) (n:Nat) (mg:W->Rho->Option Rho) (mc:Rho->R Bool) (me:Rho->R W) (ρ:Rho):R W:=r>>=fun ws=>mComp n mg mc me ws ρ
theorem vComp_ap (n:Nat) (mi:Rho->R (List W)) (mg:W->Rho->Option Rho) (mc:Rho->R Bool) (me:Rho->R W) (ρ:Rho):vComp n mi mg mc me ρ=Rcomp (mi ρ) n mg mc me ρ:=rfl
theorem Rcomp_ok (ws:List W) (n:Nat) (mg:W->Rho->Option Rho) (mc:Rho->R Bool) (me:Rho->R W) (ρ:Rho):Rcomp (.ok ws) n mg mc me ρ=mComp n mg mc me ws ρ:=rfl
theorem sNx_ap (ρ:Rho):sNx ρ=.ok (.nx ρ):=rfl
theorem sBk_ap (ρ:Rho):sBk ρ=.ok (.bk ρ):=rfl
theorem sCt_ap (ρ:Rho):sCt ρ=.ok (.ct ρ):=rfl
def Rdrop (r:R W) (ρ:Rho):R Fl:=r>>=fun _=>.ok (.nx ρ)
theorem sDrop_ap (m:Rho->R W) (ρ:Rho):sDrop m ρ=Rdrop (m ρ) ρ:=rfl
theorem Rdrop_ok (w:W) (ρ:Rho):Rdrop (.ok w) ρ=.ok (.nx ρ):=rfl
def retK (w:W):R Fl:=.ok (.rt w)
theorem sRet_ap (m:Rho->R W) (ρ:Rho):sRet m ρ=(m ρ>>=retK):=rfl
theorem retK_ap (w:W):retK w=.ok (.rt w):=rfl
theorem sRetN_ap (ρ:Rho):sRetN ρ=.ok (.rt .non):=rfl
def Rset (r:R W) (f:W->Sl) (i:Nat) (ρ:Rho):R Fl:=r>>=fun w=>.ok (.nx (ρ.set i (f w)))
theorem sV_ap (i:Nat) (m:Rho->R W) (ρ:Rho):sV i m ρ=Rset (m ρ) Sl.val i ρ:=rfl
theorem sU_ap (i:Nat) (m:Rho->R W) (ρ:Rho):sU i m ρ=Rset (m ρ) Sl.par i ρ:=rfl
theorem sF_ap (i:Nat) (m:Rho->R W) (ρ:Rho):sF i m ρ=Rset (m ρ) slotF i ρ:=rfl
theorem Rset_ok (w:W) (f:W->Sl) (i:Nat) (ρ:Rho):Rset (.ok w) f i ρ=.ok (.nx (ρ.set i (f w))):=rfl
theorem slotF_lst (ws:List W):slotF (.lst ws)=.own ws:=rfl
theorem slotF_tup (ws:List W):slotF (.tup ws)=.val (.tup ws):=rfl
theorem slotF_int (i:Int):slotF (.int i)=.val (.int i):=rfl
theorem slotF_bl (i:Bool):slotF (.bl i)=.val (.bl i):=rfl
theorem slotF_non:slotF .non=.val .non:=rfl
theorem slotF_str (i:Str):slotF (.str i)=.val (.str i):=rfl
def toNx:Option Rho->R Fl
 | some ρ=>.ok (.nx ρ)
 | none=>.stuck
def Rasg (r:R W) (mg:W->Rho->Option Rho) (ρ:Rho):R Fl:=r>>=fun w=>toR (mg w ρ)>>=fun ρ'=>.ok (.nx ρ')
theorem sG_ap (mg:W->Rho->Option Rho) (m:Rho->R W) (ρ:Rho):sG mg m ρ=Rasg (m ρ) mg ρ:=rfl
theorem Rasg_ok (w:W) (mg:W->Rho->Option Rho) (ρ:Rho):Rasg (.ok w) mg ρ=toNx (mg w ρ):=by
 show (toR (mg w ρ)>>=_)=_
 cases mg w ρ <;> rfl
theorem toNx_some (ρ:Rho):toNx (some ρ)=.ok (.nx ρ):=rfl
def Rfor (r:R (List W)) (mg:W->Rho->Option Rho) (mb:Rho->R Fl) (ρ:Rho):R Fl:=r>>=fun ws=>mFor mg mb ws ρ
theorem sFor_ap (mi:Rho->R (List W)) (mg:W->Rho->Option Rho) (mb:Rho->R Fl) (ρ:Rho):sFor mi mg mb ρ=Rfor (mi ρ) mg mb ρ:=rfl
theorem Rfor_ok (ws:List W) (mg:W->Rho->Option Rho) (mb:Rho->R Fl) (ρ:Rho):Rfor (.ok ws) mg mb ρ=mFor mg mb ws ρ:=rfl
theorem sFrz_ap (i:Nat) (m:Rho->R Fl) (ρ:Rho):sFrz i m ρ=m (frz i ρ):=rfl
def frzS:Option Sl->Nat->Rho->Rho
 | some (.own ws),i,ρ=>ρ.set i (.val (.lst ws))
 | _,_,ρ=>ρ
theorem frz_ap (i:Nat) (ρ:Rho):frz i ρ=frzS (ρ[i]?) i ρ:=by
 unfold frz frzS
 rcases h:ρ[i]? with _ | s
 ·rfl
 ·cases s <;> rfl
theorem frzS_own (ws:List W) (i:Nat) (ρ:Rho):frzS (some (.own ws)) i ρ=ρ.set i (.val (.lst ws)):=rfl
theorem frzS_val (w:W) (i:Nat) (ρ:Rho):frzS (some (.val w)) i ρ=ρ:=rfl
theorem frzS_par (w:W) (i:Nat) (ρ:Rho):frzS (some (.par w)) i ρ=ρ:=rfl
theorem frzS_un (i:Nat) (ρ:Rho):frzS (some .un) i ρ=ρ:=rfl
def rdS (d:Mode):Option Sl->R W
 | some (.val w)=>(match d with | .F=>chk w | _=>.ok w)
 | some (.par w)=>(match d with | .F=>chk w | .V=>chk w | .C=>chk w | _=>.ok w)
 | some (.own ws)=>(match d with | .C=>.ok (.lst ws) | .B=>.ok (.lst ws) | _=>.stuck)
 | some (.iop _ ws)=>(match d with | .B=>.ok (.lst ws) | .U=>.ok (.lst ws) | _=>.stuck)
 | some (.hz w)=>(match d with | .B=>.ok w | .U=>.ok w | _=>.stuck)
 | _=>.stuck
theorem mVar_ap (d:Mode) (i:Nat) (ρ:Rho):mVar d i ρ=rdS d (ρ[i]?):=by
 unfold mVar rdS
 rfl
theorem rdS_vF (w:W):rdS .F (some (.val w))=chk w:=rfl
theorem rdS_vV (w:W):rdS .V (some (.val w))=.ok w:=rfl
theorem rdS_vU (w:W):rdS .U (some (.val w))=.ok w:=rfl
theorem rdS_vC (w:W):rdS .C (some (.val w))=.ok w:=rfl
theorem rdS_vB (w:W):rdS .B (some (.val w))=.ok w:=rfl
theorem rdS_pF (w:W):rdS .F (some (.par w))=chk w:=rfl
theorem rdS_pV (w:W):rdS .V (some (.par w))=chk w:=rfl
theorem rdS_pU (w:W):rdS .U (some (.par w))=.ok w:=rfl
theorem rdS_pC (w:W):rdS .C (some (.par w))=chk w:=rfl
theorem rdS_pB (w:W):rdS .B (some (.par w))=.ok w:=rfl
theorem rdS_oC (ws:List W):rdS .C (some (.own ws))=.ok (.lst ws):=rfl
theorem rdS_oB (ws:List W):rdS .B (some (.own ws))=.ok (.lst ws):=rfl
def retS (d:Mode):Option Sl->R Fl
 | some (.own ws)=>.ok (.rt (.lst ws))
 | o=>rdS d o>>=retK
theorem mRetVar_ap (d:Mode) (i:Nat) (ρ:Rho):mRetVar d i ρ=retS d (ρ[i]?):=by
 unfold mRetVar retS
 rw [mVar_ap]
 rcases h:ρ[i]? with _ | s
 ·rfl
 ·cases s <;> rfl
theorem retS_own (d:Mode) (ws:List W):retS d (some (.own ws))=.ok (.rt (.lst ws)):=rfl
theorem retS_val (d:Mode) (w:W):retS d (some (.val w))=(rdS d (some (.val w))>>=retK):=rfl
theorem retS_par (d:Mode) (w:W):retS d (some (.par w))=(rdS d (some (.par w))>>=retK):=rfl
def appS (o:Option Sl) (r:R W) (i:Nat) (ρ:Rho):R Fl:=match o with
 | some (.own ws)=>r>>=fun w=>if ws.length<1000 then .ok (.nx (ρ.set i (.own (ws ++ [w])))) else .stuck
 | _=>.stuck
theorem mApp_ap (i:Nat) (m:Rho->R W) (ρ:Rho):mApp i m ρ=appS (ρ[i]?) (m ρ) i ρ:=rfl
theorem appS_ok (ws:List W) (w:W) (i:Nat) (ρ:Rho):appS (some (.own ws)) (.ok w) i ρ=if ws.length<1000 then .ok (.nx (ρ.set i (.own (ws ++ [w])))) else .stuck:=rfl
def setS (o:Option Sl) (a b:R W) (i:Nat) (ρ:Rho):R Fl:=match o with
 | some (.own ws)=>b>>=fun w=>a>>=fun k=>(match k with
  | .int k=>(match ixN ws.length k with
   | some j=>.ok (.nx (ρ.set i (.own (ws.set j w))))
   | none=>.stuck)
  | _=>.stuck)
 | _=>.stuck
theorem mSet_ap (i:Nat) (mk me:Rho->R W) (ρ:Rho):mSet i mk me ρ=setS (ρ[i]?) (mk ρ) (me ρ) i ρ:=rfl
def setJ (o:Option Nat) (ws:List W) (w:W) (i:Nat) (ρ:Rho):R Fl:=match o with
 | some j=>.ok (.nx (ρ.set i (.own (ws.set j w))))
 | none=>.stuck
theorem setS_ok (ws:List W) (w:W) (k:Int) (i:Nat) (ρ:Rho):setS (some (.own ws)) (.ok (.int k)) (.ok w) i ρ=setJ (ixN ws.length k) ws w i ρ:=rfl
theorem setJ_some (j:Nat) (ws:List W) (w:W) (i:Nat) (ρ:Rho):setJ (some j) ws w i ρ=.ok (.nx (ρ.set i (.own (ws.set j w)))):=rfl
def augS (f:Int->Int->Int) (a b:R W) (i:Nat) (ρ:Rho):R Fl:=a>>=fun x=>b>>=fun y=>match x,y with
 | .int a,.int b=>.ok (.nx (ρ.set i (.val (.int (f a b)))))
 | _,_=>.stuck
theorem mAug_ap (i:Nat) (f:Int->Int->Int) (m:Rho->R W) (ρ:Rho):mAug i f m ρ=augS f (rdS .B (ρ[i]?)) (m ρ) i ρ:=by
 rw [<- mVar_ap]; rfl
theorem augS_ok (f:Int->Int->Int) (a b:Int) (i:Nat) (ρ:Rho):augS f (.ok (.int a)) (.ok (.int b)) i ρ=.ok (.nx (ρ.set i (.val (.int (f a b))))):=rfl
def ifS (c:R Bool) (m n:Rho->R Fl) (ρ:Rho):R Fl:=c>>=fun b=>if b then m ρ else n ρ
theorem mIf_ap (c:Rho->R Bool) (m n:Rho->R Fl) (ρ:Rho):mIf c m n ρ=ifS (c ρ) m n ρ:=rfl
theorem ifS_tt (m n:Rho->R Fl) (ρ:Rho):ifS (.ok true) m n ρ=m ρ:=rfl
theorem ifS_ff (m n:Rho->R Fl) (ρ:Rho):ifS (.ok false) m n ρ=n ρ:=rfl
def endB (r:R Fl):R W:=r>>=fun f=>match f with
 | .rt w=>.ok w
 | .nx _=>.ok .non
 | _=>.stuck
theorem runB_ap {n N:Nat} {m:Rho->R Fl} {ws:List W} (h:ws.length=n):runB n N m ws=endB (m (ws.map Sl.par++List.replicate (N-n) Sl.un)):=by unfold runB; rw [if_pos h]; rfl
theorem runB_1 {N:Nat} {m:Rho->R Fl} (a:W):runB 1 N m [a]=endB (m (Sl.par a::List.replicate (N-1) Sl.un)):=runB_ap rfl
theorem runB_2 {N:Nat} {m:Rho->R Fl} (a b:W):runB 2 N m [a,b]=endB (m (Sl.par a::Sl.par b::List.replicate (N-2) Sl.un)):=runB_ap rfl
theorem runB_3 {N:Nat} {m:Rho->R Fl} (a b c:W):runB 3 N m [a,b,c]=endB (m (Sl.par a::Sl.par b::Sl.par c::List.replicate (N-3) Sl.un)):=runB_ap rfl
theorem runB_4 {N:Nat} {m:Rho->R Fl} (a b c d:W):runB 4 N m [a,b,c,d]=endB (m (Sl.par a::Sl.par b::Sl.par c::Sl.par d::List.replicate (N-4) Sl.un)):=runB_ap rfl
theorem runB_5 {N:Nat} {m:Rho->R Fl} (a b c d e:W):runB 5 N m [a,b,c,d,e]=endB (m (Sl.par a::Sl.par b::Sl.par c::Sl.par d::Sl.par e::List.replicate (N-5) Sl.un)):=runB_ap rfl
theorem endB_rt (w:W):endB (.ok (.rt w))=.ok w:=rfl
theorem endB_nx (ρ:Rho):endB (.ok (.nx ρ))=.ok .non:=rfl
theorem fI0_ii (g:Int->Int->W) (i j:Int):fI0 g (.int i) (.int j)=.ok (g i j):=rfl
theorem fU_i (g:Int->W) (i:Int):fU g (.int i)=.ok (g i):=rfl
theorem fIx_l (ws:List W) (i:Int):fIx (.lst ws) (.int i)=toR (L2.atI ws i):=rfl
theorem fIx_t (ws:List W) (i:Int):fIx (.tup ws) (.int i)=toR (L2.atI ws i):=rfl
theorem fIx_s (ws:List W) (i:Int):fIx (.scr ws) (.int i)=toR (L2.atI ws i):=rfl
theorem toR_some {α:Type} (a:α):toR (some a)=.ok a:=rfl
theorem toB_bl (b:Bool):toB (.bl b)=.ok b:=rfl
theorem fLen_l (ws:List W):fLen [.lst ws]=.ok (.int ws.length):=rfl
theorem fLen_t (ws:List W):fLen [.tup ws]=.ok (.int ws.length):=rfl
theorem fLen_s (ws:List W):fLen [.scr ws]=.ok (.int ws.length):=rfl
theorem fList_l (c:Bool) (ws:List W):fList c [.lst ws]=chks c ws:=rfl
theorem fList_t (c:Bool) (ws:List W):fList c [.tup ws]=chks c ws:=rfl
theorem fTup_l (c:Bool) (ws:List W):fTup c [.lst ws]=chkT c ws:=rfl
theorem fTup_t (c:Bool) (ws:List W):fTup c [.tup ws]=chkT c ws:=rfl
theorem chks_t (ws:List W):chks true ws=.ok (.lst ws):=rfl
theorem chkT_t (ws:List W):chkT true ws=.ok (.tup ws):=rfl
theorem chks_no {c:Bool} {ws:List W} (h:noLs ws=true):chks c ws=.ok (.lst ws):=by unfold chks; rw [h,Bool.or_true,if_pos rfl]
theorem chkT_no {c:Bool} {ws:List W} (h:noLs ws=true):chkT c ws=.ok (.tup ws):=by unfold chkT; rw [h,Bool.or_true,if_pos rfl]
theorem chks_I (c:Bool) (ns:List Int):chks c (ns.map W.int)=.ok (.lst (ns.map W.int)):=chks_no (noLs_ints ns)
theorem chkT_I (c:Bool) (ns:List Int):chkT c (ns.map W.int)=.ok (.tup (ns.map W.int)):=chkT_no (noLs_ints ns)
theorem chk_no {w:W} (h:noL w=true):chk w=.ok w:=by unfold chk; rw [if_pos h]
theorem chk_int (i:Int):chk (.int i)=.ok (.int i):=rfl
theorem chk_bl (i:Bool):chk (.bl i)=.ok (.bl i):=rfl
theorem chk_str (i:Str):chk (.str i)=.ok (.str i):=rfl
theorem chk_non:chk .non=.ok .non:=rfl
theorem chk_tI (ns:List Int):chk (.tup (ns.map W.int))=.ok (.tup (ns.map W.int)):=chk_no (noLs_ints ns)
theorem f2_ii (g:Int->Int->Int) (i j:Int):f2 g [.int i,.int j]=.ok (.int (g i j)):=rfl
theorem seqW_l (ws:List W):seqW (.lst ws)=.ok ws:=rfl
theorem seqW_t (ws:List W):seqW (.tup ws)=.ok ws:=rfl
theorem seqW_s (ws:List W):seqW (.scr ws)=.ok ws:=rfl
theorem rng1_i (j:Int):rng1 [.int j]=rngW 0 j:=rfl
theorem rng2_i (i j:Int):rng2 [.int i,.int j]=rngW i j:=rfl
theorem gN_U (i:Nat) (w:W) (ρ:Rho):gN .U i w ρ=some (ρ.set i (.par w)):=rfl
theorem gN_V (i:Nat) (w:W) (ρ:Rho):gN .V i w ρ=some (ρ.set i (.val w)):=rfl
theorem gT_t (n:Nat) (g:List W->Rho->Option Rho) (ws:List W) (ρ:Rho):gT n g (.tup ws) ρ=if ws.length=n then g ws ρ else none:=rfl
theorem gsCons_c (f:W->Rho->Option Rho) (g:List W->Rho->Option Rho) (w:W) (ws:List W) (ρ:Rho):gsCons f g (w::ws) ρ=(f w ρ).bind (g ws):=rfl
theorem gsNil_n (ρ:Rho):gsNil [] ρ=some ρ:=rfl
theorem mkTup_ap (ws:List W):mkTup ws=if ws.length<=1000 then .ok (.tup ws) else .stuck:=rfl
theorem mkLst_ap (ws:List W):mkLst ws=if ws.length<=1000 then .ok (.lst ws) else .stuck:=rfl
theorem fIsi_ap (x:W) (T:String):fIsi [x,.ty T]=(toR ((tyW x).bind fun A=>isiB A T)>>=fun b=>.ok (.bl b)):=rfl
theorem isi_nt:isiB "NoneType" "tuple" = some false:=by decide
theorem isi_nl:isiB "NoneType" "list" = some false:=by decide
theorem isi_lt:isiB "list" "tuple" = some false:=by decide
theorem isi_tl:isiB "tuple" "list" = some false:=by decide
theorem fIsN_n (n:Bool) (u:W):fIsN n u .non=.ok (.bl (if n then !isN u else isN u)):=rfl
theorem mapR_all {f:W->R (Option W)} {α:Type} (g:α->W) (s:α->W):∀ (as:List α),(∀ a∈as,f (s a)=.ok (some (g a)))->mapR f (as.map s)=.ok (as.map g):=by
 intro as
 induction as with
 | nil=>exact fun _=>rfl
 | cons a as ih=>
  intro h
  rw [List.map_cons,mapR,h a List.mem_cons_self,ih fun b hb=>h b (List.mem_cons_of_mem _ hb)]
  rfl
theorem mComp_all {N':Nat} {mg:W->Rho->Option Rho} {me:Rho->R W} {α:Type} (g:α->W) (s:α->W) (as:List α) (ρ:Rho) (hl:as.length<=1000)
  (h:∀ a∈as,∃ ρ1,mg (s a) (ρ++List.replicate (N'-ρ.length) Sl.un)=some ρ1/\me ρ1=.ok (g a)):mComp N' mg yes me (as.map s) ρ=.ok (.lst (as.map g)):=by
 unfold mComp
 rw [List.length_map,if_pos hl,mapR_all g s as]
 intro a ha
 obtain ⟨ρ1,e1,e2⟩:=h a ha
 unfold elR
 rw [e1]
 have hy:yes ρ1=.ok true:=rfl
 dsimp only
 rw [hy]
 dsimp only
 rw [e2]
theorem rngW_int {z:Int} (h0:-1000000<=z) (h:z<=1000000):rngW 0 z=.ok ((List.range z.toNat).map fun k=>W.int (k:Nat)):=by
 unfold rngW
 rw [if_pos (by omega)]
 simp
theorem rng_at {n i:Nat} {w:W} (h:((List.range n).map fun k=>W.int (k:Nat))[i]?=some w):i<n/\w=.int (i:Nat):=by
 rw [List.getElem?_map] at h
 cases q:(List.range n)[i]? with
 | none=>rw [q] at h; cases h
 | some k=>
  rw [q] at h
  obtain ⟨h1,h2⟩:=List.getElem?_eq_some_iff.mp q
  simp at h1 h2
  subst h2
  cases h
  exact ⟨h1,rfl⟩
theorem map_at {ns:List Int} {i:Nat} {w:W} (h:(ns.map W.int)[i]?=some w):i<ns.length/\w=.int (ns.getD i 0):=by
 rw [List.getElem?_map] at h
 cases q:ns[i]? with
 | none=>rw [q] at h; cases h
 | some k=>
  rw [q] at h
  cases h
  exact ⟨(List.getElem?_eq_some_iff.mp q).1,by rw [getD_of q]⟩
def cutI (xs:List Int) (lo hi:Option Int):List Int:=(xs.drop (HT.sIx xs.length 0 lo)).take (HT.sIx xs.length xs.length hi-HT.sIx xs.length 0 lo)
theorem cutW_I (ns:List Int) (lo hi:Option Int):cutW (ns.map W.int) lo hi=(cutI ns lo hi).map W.int:=by
 unfold cutW cutI
 rw [List.length_map,<- List.map_drop,<- List.map_take]
theorem setW_I (ns:List Int) (j:Nat) (z:Int):(ns.map W.int).set j (.int z)=(ns.set j z).map W.int:=by rw [List.map_set]
theorem appW_I (ns:List Int) (z:Int):ns.map W.int ++ [.int z]=(ns ++ [z]).map W.int:=by rw [List.map_append]; rfl
theorem repW_I (k:Nat) (z:Int):(List.replicate k [W.int z]).flatten=(List.replicate k z).map W.int:=by
 induction k with
 | zero=>rfl
 | succ k ih=>rw [List.replicate_succ,List.flatten_cons,ih,List.replicate_succ,List.map_cons]; rfl
theorem mapI {α:Type} (as:List α) (f:α->Int):(as.map fun a=>W.int (f a))=(as.map f).map W.int:=by rw [List.map_map]; rfl
theorem mul_L {i j:Int} (h:-18446744073709551616<i/\i<18446744073709551616):fI CMul gMul (.int i) (.int j)=.ok (.int (i*j)):=by
 show (if CMul i j then _ else _)=_
 rw [if_pos (.inl (by simpa using h))]
theorem mul_R {i j:Int} (h:-18446744073709551616<j/\j<18446744073709551616):fI CMul gMul (.int i) (.int j)=.ok (.int (i*j)):=by
 show (if CMul i j then _ else _)=_
 rw [if_pos (.inr (by simpa using h))]
theorem mod_ii {i j:Int} (h:0<j):fI cMod gMod (.int i) (.int j)=.ok (.int (i%j)):=by
 show (if cMod i j then _ else _)=_
 rw [if_pos h]
theorem div_ii {i j:Int} (h:0<j/\j<1073741824):fI CDiv gDiv (.int i) (.int j)=.ok (.int (i/j)):=by
 show (if CDiv i j then _ else _)=_
 rw [if_pos (show CDiv i j from h)]
theorem pow_ii {i j:Int} (h:0<=j/\j<=1000000 /\ -18446744073709551616<i/\i<18446744073709551616):fI CPow gPow (.int i) (.int j)=.ok (.int (i^j.toNat)):=by
 show (if CPow i j then _ else _)=_
 rw [if_pos ⟨h.1,h.2.1,by omega⟩]
theorem appS_c {ws:List W} {w:W} {i:Nat} {ρ:Rho} (h:ws.length<1000):appS (some (.own ws)) (.ok w) i ρ=.ok (.nx (ρ.set i (.own (ws ++ [w])))):=by rw [appS_ok,if_pos h]
theorem mkTup_c {ws:List W} (h:ws.length<=1000):mkTup ws=.ok (.tup ws):=by rw [mkTup_ap,if_pos h]
theorem mkLst_c {ws:List W} (h:ws.length<=1000):mkLst ws=.ok (.lst ws):=by rw [mkLst_ap,if_pos h]
theorem fCat_c {c:Bool} {us vs:List W} (h:us.length+vs.length<=1000):fCat c (.lst us) (.lst vs)=chks c (us++vs):=by
 show (if us.length+vs.length<=1000 then _ else _)=_
 rw [if_pos h]
theorem fRep_1 {c:Bool} {z:W} {k:Int} (h:0<=k/\k<=1000):fRep c (.lst [z]) (.int k)=chks c (List.replicate k.toNat [z]).flatten:=by
 show (if [z].length*k.toNat<=1000 /\ -1000<=k/\k<=1000 then _ else _)=_
 rw [if_pos ⟨by simp only [List.length_cons,List.length_nil]; omega,by omega,h.2⟩]
theorem atW_c {ns:List Int} {i:Int} (h:0<=i/\i<ns.length):L2.atI (ns.map W.int) i=some (.int (ns.getD i.toNat 0)):=atW h.1 h.2
theorem ixN_c {n:Nat} {i:Int} (h:0<=i/\i<n):ixN n i=some i.toNat:=ixN_int h.1 h.2
theorem rngW_c {z:Int} (h:-1000000<=z/\z<=1000000):rngW 0 z=.ok ((List.range z.toNat).map fun k=>W.int (k:Nat)):=rngW_int h.1 h.2
def Ok (r:R W) (P:W->Prop):Prop:=∃ w,r=.ok w/\P w
def Po (r:R Fl) (Jn:Rho->Prop) (Jr:W->Prop):Prop:=match r with
 | .ok (.nx ρ)=>Jn ρ
 | .ok (.rt w)=>Jr w
 | _=>False
theorem ok_end {r:R Fl} {P:W->Prop} (h:Po r (fun _=>P .non) P):Ok (endB r) P:=by
 cases r with
 | ex _=>exact h.elim
 | stuck=>exact h.elim
 | ok f=>cases f with
  | nx ρ=>exact ⟨_,rfl,h⟩
  | rt w=>exact ⟨_,rfl,h⟩
  | bk _=>exact h.elim
  | ct _=>exact h.elim
theorem po_seq {r:R Fl} {n:Rho->R Fl} {Jn:Rho->Prop} {Jr:W->Prop} (h:Po r (fun ρ=>Po (n ρ) Jn Jr) Jr):Po (andThen r n) Jn Jr:=by
 cases r with
 | ex _=>exact h.elim
 | stuck=>exact h.elim
 | ok f=>cases f with
  | nx ρ=>exact h
  | rt w=>exact h
  | bk _=>exact h.elim
  | ct _=>exact h.elim
theorem po_nx {ρ:Rho} {Jn:Rho->Prop} {Jr:W->Prop}:Po (.ok (.nx ρ)) Jn Jr=Jn ρ:=rfl
theorem po_rt {w:W} {Jn:Rho->Prop} {Jr:W->Prop}:Po (.ok (.rt w)) Jn Jr=Jr w:=rfl
theorem po_if {b:Bool} {m n:Rho->R Fl} {ρ:Rho} {Jn:Rho->Prop} {Jr:W->Prop} (h1:b=true->Po (m ρ) Jn Jr) (h2:b=false->Po (n ρ) Jn Jr):Po (ifS (.ok b) m n ρ) Jn Jr:=by
 cases b with
 | true=>exact h1 rfl
 | false=>exact h2 rfl
theorem po_ifs {b:Bool} {m n:Rho->R Fl} {ρ:Rho} {k:Rho->R Fl} {Jn:Rho->Prop} {Jr:W->Prop} (h1:b=true->Po (andThen (m ρ) k) Jn Jr) (h2:b=false->Po (andThen (n ρ) k) Jn Jr):Po (andThen (ifS (.ok b) m n ρ) k) Jn Jr:=by
 cases b with
 | true=>exact h1 rfl
 | false=>exact h2 rfl
theorem Po.mono {r:R Fl} {Jn Jn':Rho->Prop} {Jr Jr':W->Prop} (h:Po r Jn Jr) (h1:∀ ρ,Jn ρ->Jn' ρ) (h2:∀ w,Jr w->Jr' w):Po r Jn' Jr':=by
 cases r with
 | ex _=>exact h
 | stuck=>exact h
 | ok f=>cases f with
  | nx ρ=>exact h1 ρ h
  | rt w=>exact h2 w h
  | bk _=>exact h
  | ct _=>exact h
theorem po_for_go {mg:W->Rho->Option Rho} {mb:Rho->R Fl} {Jr:W->Prop} (I:Nat->Rho->Prop):∀ (ws:List W) (k:Nat) (ρ:Rho),I k ρ ->
  (∀ (i:Nat) (w:W) (ρ:Rho),ws[i]?=some w->I (k+i) ρ->∃ ρ1,mg w ρ=some ρ1/\Po (mb ρ1) (I (k+i+1)) Jr)->Po (mFor mg mb ws ρ) (I (k+ws.length)) Jr:=by
 intro ws
 induction ws with
 | nil=>exact fun k ρ h _=>h
 | cons w ws ih=>
  intro k ρ h st
  obtain ⟨ρ1,e1,p⟩:=st 0 w ρ rfl h
  unfold mFor
  rw [e1]
  show Po (mb ρ1>>=_) _ _
  revert p
  cases mb ρ1 with
  | ex _=>exact fun p=>p.elim
  | stuck=>exact fun p=>p.elim
  | ok f=>cases f with
   | bk _=>exact fun p=>p.elim
   | ct _=>exact fun p=>p.elim
   | rt w=>exact fun p=>p
   | nx ρ2=>
    intro p
    have:=ih (k+1) ρ2 p fun i w ρ hw hp=>by
     have:=st (i+1) w ρ hw (by rw [<- Nat.succ_add_eq_add_succ k i]; exact hp)
     rw [<- Nat.succ_add_eq_add_succ k i] at this
     exact this
    rw [List.length_cons,<- Nat.succ_add_eq_add_succ k ws.length]
    exact this
theorem po_for {mg:W->Rho->Option Rho} {mb:Rho->R Fl} {ws:List W} {ρ:Rho} {Jn:Rho->Prop} {Jr:W->Prop} (I:Nat->Rho->Prop) (h0:I 0 ρ)
  (st:∀ (i:Nat) (w:W) (ρ:Rho),ws[i]?=some w->I i ρ->∃ ρ1,mg w ρ=some ρ1/\Po (mb ρ1) (I (i+1)) Jr) (hn:∀ ρ,I ws.length ρ->Jn ρ):Po (mFor mg mb ws ρ) Jn Jr:=by
 have:=po_for_go (mg:=mg) (mb:=mb) (Jr:=Jr) I ws 0 ρ h0 fun i w ρ hw hp=>by rw [Nat.zero_add] at hp ⊢; exact st i w ρ hw hp
 rw [Nat.zero_add] at this
 exact this.mono hn fun _ h=>h
theorem po_fors {mg:W->Rho->Option Rho} {mb n:Rho->R Fl} {ws:List W} {ρ:Rho} {Jn:Rho->Prop} {Jr:W->Prop} (I:Nat->Rho->Prop) (h0:I 0 ρ)
  (st:∀ (i:Nat) (w:W) (ρ:Rho),ws[i]?=some w->I i ρ->∃ ρ1,mg w ρ=some ρ1/\Po (mb ρ1) (I (i+1)) Jr) (hn:∀ ρ,I ws.length ρ->Po (n ρ) Jn Jr):Po (andThen (mFor mg mb ws ρ) n) Jn Jr:=po_seq (po_for I h0 st hn)
theorem gMax_max (i j:Int):gMax i j=max i j:=by unfold gMax; omega
theorem gMin_min (i j:Int):gMin i j=min i j:=by unfold gMin; omega
def oW:Option Int->W
 | none=>.non
 | some i=>.int i
theorem oW_n:oW none=.non:=rfl
theorem oW_s (i:Int):oW (some i)=.int i:=rfl
theorem noL_oW (o:Option Int):noL (oW o)=true:=by cases o <;> rfl
theorem chk_oW (o:Option Int):chk (oW o)=.ok (oW o):=chk_no (noL_oW o)
theorem noLs_map {α:Type} (f:α->W) (h:∀ a,noL (f a)=true) (as:List α):noLs (as.map f)=true:=by
 induction as with
 | nil=>rfl
 | cons a as ih=>rw [List.map_cons]; simp only [noLs,h,ih,Bool.and_self]
theorem noLs_oW (cs:List (Option Int)):noLs (cs.map oW)=true:=noLs_map oW noL_oW cs
theorem chks_O (c:Bool) (cs:List (Option Int)):chks c (cs.map oW)=.ok (.lst (cs.map oW)):=chks_no (noLs_oW cs)
theorem chkT_O (c:Bool) (cs:List (Option Int)):chkT c (cs.map oW)=.ok (.tup (cs.map oW)):=chkT_no (noLs_oW cs)
theorem isN_oW (o:Option Int):isN (oW o)=o.isNone:=by cases o <;> rfl
theorem slotF_oW (o:Option Int):slotF (oW o)=.val (oW o):=by cases o <;> rfl
theorem at_map {α:Type} (f:α->W) {as:List α} {d:α} {i:Int} (h:0<=i/\i<as.length):L2.atI (as.map f) i=some (f (as.getD i.toNat d)):=by
 unfold L2.atI
 rw [List.length_map,ixN_int h.1 h.2]
 show (as.map f)[i.toNat]?=_
 have hi:i.toNat<as.length:=by omega
 rw [List.getElem?_map,List.getD_eq_getElem?_getD]
 simp [hi]
theorem atO_c {cs:List (Option Int)} {i:Int} (h:0<=i/\i<cs.length):L2.atI (cs.map oW) i=some (oW (cs.getD i.toNat none)):=at_map oW h
theorem appO (cs:List (Option Int)) (o:Option Int):cs.map oW ++ [oW o]=(cs ++ [o]).map oW:=by rw [List.map_append]; rfl
theorem noL_tI (ns:List Int):noL (tI ns)=true:=noLs_ints ns
theorem noLs_S (ss:List (List Int)):noLs (ss.map tI)=true:=noLs_map tI noL_tI ss
theorem chks_S (c:Bool) (ss:List (List Int)):chks c (ss.map tI)=.ok (.lst (ss.map tI)):=chks_no (noLs_S ss)
theorem chkT_S (c:Bool) (ss:List (List Int)):chkT c (ss.map tI)=.ok (.tup (ss.map tI)):=chkT_no (noLs_S ss)
theorem atS_c {ss:List (List Int)} {i:Int} (h:0<=i/\i<ss.length):L2.atI (ss.map tI) i=some (tI (ss.getD i.toNat [])):=at_map tI h
theorem appW_S (ss:List (List Int)) (s:List Int):ss.map tI ++ [tI s]=(ss ++ [s]).map tI:=by rw [List.map_append]; rfl
def cutL {α:Type} (xs:List α) (lo hi:Option Int):List α:=(xs.drop (HT.sIx xs.length 0 lo)).take (HT.sIx xs.length xs.length hi-HT.sIx xs.length 0 lo)
theorem cutW_map {α:Type} (f:α->W) (as:List α) (lo hi:Option Int):cutW (as.map f) lo hi=(cutL as lo hi).map f:=by
 unfold cutW cutL
 rw [List.length_map,<- List.map_drop,<- List.map_take]
theorem cutW_S (ss:List (List Int)) (lo hi:Option Int):cutW (ss.map tI) lo hi=(cutL ss lo hi).map tI:=cutW_map tI ss lo hi
theorem catW_S (ss ts:List (List Int)):ss.map tI++ts.map tI=(ss++ts).map tI:=by rw [List.map_append]
theorem catW_I (ss ts:List Int):ss.map W.int++ts.map W.int=(ss++ts).map W.int:=by rw [List.map_append]
theorem rngW_2 {lo hi:Int} (h:-1000000<=lo/\lo<=1000000 /\ -1000000<=hi/\hi<=1000000):rngW lo hi=.ok ((List.range (hi-lo).toNat).map fun k=>W.int (lo+(k:Nat))):=by
 unfold rngW
 rw [if_pos h]
theorem eqv_refl:∀ w:W,PyData.eqv (pd w) (pd w)=true:=by
 intro w
 refine W.rec (motive_1:=fun w=>PyData.eqv (pd w) (pd w)=true) (motive_2:=fun ws=>PyData.eqvAll (pds ws) (pds ws)=true) ?_ ?_ ?_ ?_ ?_ ?_ ?_ ?_ ?_ ?_ ?_ ?_ w
 ·rfl
 ·intro b; cases b <;> rfl
 ·intro b; exact beq_self_eq_true b
 ·intro b; exact beq_self_eq_true b
 ·intro b; rfl
 ·exact fun ws h=>h
 ·exact fun ws h=>h
 ·exact fun ws h=>h
 ·intro b c; rfl
 ·intro b; rfl
 ·rfl
 ·intro w ws h1 h2; exact (Bool.and_eq_true _ _).mpr ⟨h1,h2⟩
theorem eqW_self (w:W):eqW w w=true:=eqv_refl w
theorem shps_map {α:Type} (f:α->W) (n:Nat) (h:∀ a,shp n (f a)=true) (as:List α):shps n (as.map f)=true:=by
 induction as with
 | nil=>rfl
 | cons a as ih=>rw [List.map_cons]; simp only [shps,h,ih,Bool.and_self]
theorem shp_int (n:Nat) (i:Int):shp n (.int i)=true:=by cases n <;> rfl
theorem shp_bl (n:Nat) (b:Bool):shp n (.bl b)=true:=by cases n <;> rfl
theorem shp_tI (n:Nat) (ns:List Int):shp (n+1) (tI ns)=true:=shps_map W.int n (shp_int n) ns
theorem shp_lI (n:Nat) (ns:List Int):shp (n+1) (lI ns)=true:=shps_map W.int n (shp_int n) ns
theorem shp_lS (n:Nat) (ss:List (List Int)):shp (n+2) (.lst (ss.map tI))=true:=shps_map tI (n+1) (shp_tI n) ss
theorem fEq_self {neg:Bool} {w:W} (h:shp 8 w=true):fEq neg w w=.ok (.bl (!neg)):=by
 unfold fEq
 rw [h,eqW_self]
 cases neg <;> rfl
theorem eqI:∀ (a b:List Int),PyData.eqvAll (pds (a.map W.int)) (pds (b.map W.int))=decide (a=b)
 | [],[]=>by simp [pds,PyData.eqvAll]
 | [],_::_=>by simp [pds,PyData.eqvAll]
 | _::_,[]=>by simp [pds,PyData.eqvAll]
 | x::a,y::b=>by
  simp only [List.map_cons,pds,pd,PyData.eqvAll,PyData.eqv,eqI a b]
  by_cases h:x=y <;> by_cases h':a=b <;> simp [h,h']
theorem fEq_tI (neg:Bool) (a b:List Int):fEq neg (tI a) (tI b)=.ok (.bl (if neg then !decide (a=b) else decide (a=b))):=by
 unfold fEq
 rw [shp_tI,shp_tI]
 have:eqW (tI a) (tI b)=decide (a=b):=eqI a b
 rw [this]; rfl
theorem fEq_lI (neg:Bool) (a b:List Int):fEq neg (lI a) (lI b)=.ok (.bl (if neg then !decide (a=b) else decide (a=b))):=by
 unfold fEq
 rw [shp_lI,shp_lI]
 have:eqW (lI a) (lI b)=decide (a=b):=eqI a b
 rw [this]; rfl
theorem eqSS:∀ (a b:List (List Int)),PyData.eqvAll (pds (a.map tI)) (pds (b.map tI))=decide (a=b)
 | [],[]=>by simp [pds,PyData.eqvAll]
 | [],_::_=>by simp [pds,PyData.eqvAll]
 | _::_,[]=>by simp [pds,PyData.eqvAll]
 | x::a,y::b=>by
  simp only [List.map_cons,pds,pd,PyData.eqvAll,PyData.eqv,eqSS a b,eqI]
  by_cases h:x=y <;> by_cases h':a=b <;> simp [h,h']
theorem fEq_lS (neg:Bool) (a b:List (List Int)):fEq neg (.lst (a.map tI)) (.lst (b.map tI))=.ok (.bl (if neg then !decide (a=b) else decide (a=b))):=by
 unfold fEq
 rw [shp_lS,shp_lS]
 have:eqW (.lst (a.map tI)) (.lst (b.map tI))=decide (a=b):=eqSS a b
 rw [this]; rfl
theorem fEq_ii (neg:Bool) (i j:Int):fEq neg (.int i) (.int j)=.ok (.bl (if neg then !decide (i=j) else decide (i=j))):=by
 unfold fEq
 rw [shp_int,shp_int]
 have:eqW (.int i) (.int j)=decide (i=j):=by
  by_cases h:i=j <;> simp [eqW,pd,PyData.eqv,h]
 rw [this]; rfl
theorem fEq_bb (neg:Bool) (i j:Bool):fEq neg (.bl i) (.bl j)=.ok (.bl (if neg then !decide (i=j) else decide (i=j))):=by
 unfold fEq
 rw [shp_bl,shp_bl]
 have:eqW (.bl i) (.bl j)=decide (i=j):=by cases i <;> cases j <;> rfl
 rw [this]; rfl
theorem fEq_ni (neg:Bool) (j:Int):fEq neg .non (.int j)=.ok (.bl neg):=by cases neg <;> rfl
theorem fEq_in (neg:Bool) (j:Int):fEq neg (.int j) .non=.ok (.bl neg):=by cases neg <;> rfl
theorem fEq_nn (neg:Bool):fEq neg .non .non=.ok (.bl (!neg)):=by cases neg <;> rfl
theorem fBools_m (g:List Bool->Bool) (bs:List Bool):fBools g [.lst (bs.map W.bl)]=.ok (.bl (g bs)):=by
 show (toR (blsW (bs.map W.bl))>>=_)=_
 rw [bls_map]; rfl
theorem fInts_m (g:List Int->Int) (ns:List Int):fInts g [.lst (ns.map W.int)]=.ok (.int (g ns)):=by
 show (toR (intsW (ns.map W.int))>>=_)=_
 rw [ints_map]; rfl
theorem fInt_i (i:Int):fInt [.int i]=.ok (.int i):=rfl
theorem fInt_b (b:Bool):fInt [.bl b]=.ok (.int (if b then 1 else 0)):=rfl
theorem fAbs_i (i:Int):fAbs [.int i]=.ok (.int (if i<0 then -i else i)):=rfl
def extS (o:Option Sl) (r:R W) (c:Bool) (i:Nat) (ρ:Rho):R Fl:=match o with
 | some (.own ws)=>r>>=fun w=>(match w with
  | .lst us=>if ws.length+us.length<=1000 then (if c||noLs us then .ok (.nx (ρ.set i (.own (ws++us)))) else .stuck) else .stuck
  | _=>.stuck)
 | _=>.stuck
theorem mExt_ap (i:Nat) (c:Bool) (m:Rho->R W) (ρ:Rho):mExt i c m ρ=extS (ρ[i]?) (m ρ) c i ρ:=rfl
theorem extS_c {ws us:List W} {c:Bool} {i:Nat} {ρ:Rho} (h:ws.length+us.length<=1000):extS (some (.own ws)) (.ok (.lst us)) c i ρ=if c||noLs us then .ok (.nx (ρ.set i (.own (ws++us)))) else .stuck:=by
 show (if ws.length+us.length<=1000 then _ else _)=_
 rw [if_pos h]
def revS (o:Option Sl) (i:Nat) (ρ:Rho):R Fl:=match o with
 | some (.own ws)=>.ok (.nx (ρ.set i (.own ws.reverse)))
 | _=>.stuck
theorem mRev_ap (i:Nat) (ρ:Rho):mRev i ρ=revS (ρ[i]?) i ρ:=rfl
theorem revS_ok (ws:List W) (i:Nat) (ρ:Rho):revS (some (.own ws)) i ρ=.ok (.nx (ρ.set i (.own ws.reverse))):=rfl
theorem po_cut {r:R Fl} {n:Rho->R Fl} {Jn:Rho->Prop} {Jr:W->Prop} (J:Rho->Prop) (h1:Po r J Jr) (h2:∀ ρ,J ρ->Po (n ρ) Jn Jr):Po (andThen r n) Jn Jr:=po_seq (h1.mono h2 fun _ h=>h)
theorem gAdd_ap (i j:Int):gAdd i j=.int (i+j):=rfl
theorem gSub_ap (i j:Int):TP.gSub i j=.int (i-j):=rfl
theorem gLt_ap (i j:Int):gLt i j=.bl (decide (i<j)):=rfl
theorem gLe_ap (i j:Int):gLe i j=.bl (decide (i<=j)):=rfl
theorem gGt_ap (i j:Int):gGt i j=.bl (decide (j<i)):=rfl
theorem gGe_ap (i j:Int):gGe i j=.bl (decide (j<=i)):=rfl
theorem gNeg_ap (i:Int):gNeg i=.int (-i):=rfl
theorem gAdd__ap (i j:Int):gAdd_ i j=i+j:=rfl
theorem gSub__ap (i j:Int):gSub_ i j=i-j:=rfl
theorem fStr_i {i:Int} (h:0<=i/\i<1000):fStr [.int i]=.ok (.str (toString i)):=by
 show (if i.natAbs.log2<1920 then _ else _)=_
 rw [if_pos]
 refine Nat.lt_of_le_of_lt (Nat.log2_le_self _) ?_
 omega
theorem fIsB_w (neg:Bool) (u:W) (b:Bool):fIsB neg u (.bl b)=.ok (.bl (if neg then !isBW u b else isBW u b)):=rfl
theorem isBW_i (i:Int) (b:Bool):isBW (.int i) b=false:=rfl
theorem isBW_n (b:Bool):isBW .non b=false:=rfl
theorem isBW_s (x:Str) (b:Bool):isBW (.str x) b=false:=rfl
theorem isBW_t (x:List W) (b:Bool):isBW (.tup x) b=false:=rfl
theorem isBW_l (x:List W) (b:Bool):isBW (.lst x) b=false:=rfl
theorem isBW_b (a b:Bool):isBW (.bl a) b=(a == b):=rfl
def Rcu (c:Bool) (r:R (List W)) (f:List W->R W) (i:Nat) (ρ:Rho):R Fl:=if c then (r>>=fun ws=>f ws>>=fun w=>.ok (.nx (ρ.set i (.par w)))) else .stuck
theorem sCU_ap (i:Nat) (f:List W->R W) (ma:Rho->R (List W)) (ρ:Rho):sCU i f ma ρ=Rcu (noOwn ρ) (ma ρ) f i ρ:=rfl
def Rcu2 (r:R W) (i:Nat) (ρ:Rho):R Fl:=r>>=fun w=>.ok (.nx (ρ.set i (.par w)))
theorem Rcu_t (ws:List W) (f:List W->R W) (i:Nat) (ρ:Rho):Rcu true (.ok ws) f i ρ=Rcu2 (f ws) i ρ:=rfl
theorem Rcu2_ok (w:W) (i:Nat) (ρ:Rho):Rcu2 (.ok w) i ρ=.ok (.nx (ρ.set i (.par w))):=rfl
theorem noOwn_nil:noOwn []=true:=rfl
theorem noOwn_v (w:W) (ρ:Rho):noOwn (.val w::ρ)=noOwn ρ:=rfl
theorem noOwn_p (w:W) (ρ:Rho):noOwn (.par w::ρ)=noOwn ρ:=rfl
theorem noOwn_u (ρ:Rho):noOwn (.un::ρ)=noOwn ρ:=rfl
theorem fBest_t {g:List Int->Int} {ns:List Int} (h:0<ns.length):fBest g [tI ns]=.ok (.int (g ns)):=by
 show (toR (intsW (ns.map W.int))>>=_)=_
 rw [ints_map]
 show (if 0<ns.length then _ else _)=_
 rw [if_pos h]
theorem fBest_l {g:List Int->Int} {ns:List Int} (h:0<ns.length):fBest g [lI ns]=.ok (.int (g ns)):=by
 show (toR (intsW (ns.map W.int))>>=_)=_
 rw [ints_map]
 show (if 0<ns.length then _ else _)=_
 rw [if_pos h]
theorem revW_l (ws:List W):revW [.lst ws]=.ok ws.reverse:=rfl
def rp0:=Z1 (@gMax_max) (Z1 (@gMin_min) (Z1 (@po_nx) (Z1 (@po_rt) (Z1 (@mul_L) (Z1 (@mul_R) (Z1 (@mod_ii) (Z1 (@div_ii) (Z1 (@pow_ii) (Z1 (@appS_c) (Z1 (@mkTup_c) (Z1 (@mkLst_c) (Z1 (@fCat_c) (Z1 (@fRep_1) (Z1 (@atW_c) (Z1 (@ixN_c) (Z1 (@rngW_c) (Z1 (@cutW_I) (Z1 (@setW_I) (Z1 (@appW_I) (Z1 (@repW_I) (Z1 (@mSeq_ap) (Z1 (@andThen_nx) (Z1 (@andThen_rt) (@andThen_bk))))))))))))))))))))))))
def rp1:=Z1 (@andThen_ct) (Z1 (@mC_ap) (Z1 (@b1_ap) (Z1 (@b2_ap) (Z1 (@R2b_ok) (Z1 (@bA_ap) (Z1 (@bI_ap) (Z1 (@bS_ap) (Z1 (@aN_ap) (Z1 (@aC_ap) (Z1 (@Rcons_ok) (Z1 (@bChk_ap) (Z1 (@bTest_ap) (Z1 (@tAnd_ap) (Z1 (@tOr_ap) (Z1 (@tNot_ap) (Z1 (@rAnd_ok) (Z1 (@rAnd_ff) (Z1 (@rAnd_tt) (Z1 (@rOr_ok) (Z1 (@rOr_tt) (Z1 (@rOr_ff) (Z1 (@rNot_ok) (Z1 (@vAnd_ap) (@vOr_ap))))))))))))))))))))))))
def rp2:=Z1 (@vNot_ap) (Z1 (@rAndV_ok) (Z1 (@rAndV_ff) (Z1 (@rAndV_tt) (Z1 (@rOrV_ok) (Z1 (@rOrV_tt) (Z1 (@rOrV_ff) (Z1 (@rNotV_ok) (Z1 (@vIf_ap) (Z1 (@rIfW_tt) (Z1 (@rIfW_ff) (Z1 (@rIfW_ok) (Z1 (@vChain_ap) (Z1 (@Rchain_ii) (Z1 (@vTup_ap) (Z1 (@vLst_ap) (Z1 (@pN_ap) (Z1 (@pS_ap) (Z1 (@partW_int) (Z1 (@vSl_ap) (Z1 (@Rsl_lst) (Z1 (@Rsl_scr) (Z1 (@vComp_ap) (Z1 (@Rcomp_ok) (@sNx_ap))))))))))))))))))))))))
def rp3:=Z1 (@sBk_ap) (Z1 (@sCt_ap) (Z1 (@sDrop_ap) (Z1 (@Rdrop_ok) (Z1 (@sRet_ap) (Z1 (@retK_ap) (Z1 (@sRetN_ap) (Z1 (@sV_ap) (Z1 (@sU_ap) (Z1 (@sF_ap) (Z1 (@Rset_ok) (Z1 (@slotF_lst) (Z1 (@slotF_tup) (Z1 (@slotF_int) (Z1 (@slotF_bl) (Z1 (@slotF_non) (Z1 (@slotF_str) (Z1 (@sG_ap) (Z1 (@Rasg_ok) (Z1 (@toNx_some) (Z1 (@sFor_ap) (Z1 (@Rfor_ok) (Z1 (@sFrz_ap) (Z1 (@frz_ap) (@frzS_own))))))))))))))))))))))))
def rp4:=Z1 (@frzS_val) (Z1 (@frzS_par) (Z1 (@frzS_un) (Z1 (@mVar_ap) (Z1 (@rdS_vF) (Z1 (@rdS_vV) (Z1 (@rdS_vU) (Z1 (@rdS_vC) (Z1 (@rdS_vB) (Z1 (@rdS_pF) (Z1 (@rdS_pV) (Z1 (@rdS_pU) (Z1 (@rdS_pC) (Z1 (@rdS_pB) (Z1 (@rdS_oC) (Z1 (@rdS_oB) (Z1 (@mRetVar_ap) (Z1 (@retS_own) (Z1 (@retS_val) (Z1 (@retS_par) (Z1 (@mApp_ap) (Z1 (@mSet_ap) (Z1 (@setS_ok) (Z1 (@setJ_some) (@mAug_ap))))))))))))))))))))))))
def rp5:=Z1 (@augS_ok) (Z1 (@mIf_ap) (Z1 (@ifS_tt) (Z1 (@ifS_ff) ((((((Z1 (@endB_rt) (Z1 (@endB_nx) (Z1 (@fI0_ii) (Z1 (@fU_i) (Z1 (@fIx_l) (Z1 (@fIx_t) (Z1 (@fIx_s) (Z1 (@toR_some) (Z1 (@toB_bl) (Z1 (@fLen_l) (Z1 (@fLen_t) (Z1 (@fLen_s) (Z1 (@fList_l) (Z1 (@fList_t) (Z1 (@fTup_l) (@fTup_t))))))))))))))))))))))))
def rp6:=Z1 (@chks_t) (Z1 (@chkT_t) (Z1 (@chks_I) (Z1 (@chkT_I) (Z1 (@chk_int) (Z1 (@chk_bl) (Z1 (@chk_str) (Z1 (@chk_non) (Z1 (@chk_tI) (Z1 (@f2_ii) (Z1 (@seqW_l) (Z1 (@seqW_t) (Z1 (@seqW_s) (Z1 (@rng1_i) (Z1 (@rng2_i) (Z1 (@gN_U) (Z1 (@gN_V) (Z1 (@gT_t) (Z1 (@gsCons_c) (Z1 (@gsNil_n) (Z1 (@fIsi_ap) (Z1 (@isi_nt) (Z1 (@isi_nl) (Z1 (@isi_lt) (@isi_tl))))))))))))))))))))))))
def rp7:=Z1 (@fIsN_n) (Z1 (@noLs_ints) (Z1 (@fEqS_ii) (Z1 (@fEqS_bb) (Z1 (@fEqS_ss) (Z1 (@fEqS_nn) (Z1 (@fEqS_ni) (@fEqS_in)))))))
def rp8:=Z1 (@oW_n) (Z1 (@oW_s) (Z1 (@chk_oW) (Z1 (@noLs_oW) (Z1 (@chks_O) (Z1 (@chkT_O) (Z1 (@isN_oW) (Z1 (@slotF_oW) (Z1 (@atO_c) (@appO)))))))))
def rp9:=Z1 (@noLs_S) (Z1 (@chks_S) (Z1 (@chkT_S) (Z1 (@atS_c) (Z1 (@appW_S) (Z1 (@cutW_S) (Z1 (@catW_S) (Z1 (@catW_I) (Z1 (@rngW_2) (Z1 (@fEq_tI) (Z1 (@fEq_lI) (Z1 (@fEq_lS) (Z1 (@fEq_ii) (Z1 (@fEq_bb) (Z1 (@fEq_ni) (Z1 (@fEq_in) (Z1 (@fEq_nn) ((Z1 (@fBools_m) (Z1 (@fInts_m) (Z1 (@fInt_i) (Z1 (@fInt_b) (Z1 (@fAbs_i) (Z1 (@mExt_ap) (Z1 (@extS_c) (Z1 (@mRev_ap) (@revS_ok))))))))))))))))))))))))))
def rp10:=Z1 (@gAdd_ap) (Z1 (@gSub_ap) (Z1 (@gLt_ap) (Z1 (@gLe_ap) (Z1 (@gGt_ap) (Z1 (@gGe_ap) (Z1 (@gNeg_ap) (Z1 (@gAdd__ap) (@gSub__ap))))))))
def rp11:=Z1 (@fStr_i) (Z1 (@fIsB_w) (Z1 (@isBW_i) (Z1 (@isBW_n) (Z1 (@isBW_s) (Z1 (@isBW_t) (Z1 (@isBW_l) (@isBW_b)))))))
def rp12:=Z1 (@sCU_ap) (Z1 (@Rcu_t) (Z1 (@Rcu2_ok) (Z1 (@noOwn_nil) (Z1 (@noOwn_v) (Z1 (@noOwn_p) (@noOwn_u))))))
def rp13:=Z1 (@fBest_t) (Z1 (@fBest_l) (@revW_l))
end TP
set_option maxHeartbeats 4000000
open PySem L2 TP
namespace K05
def m_is_count:Rho->R Fl:=
 (mSeq (mIf (tOr' (bTest (bA fIsi (aC (mVar .B 0) (aC (mC (.ty "bool")) aN)))) (tNot' (bTest (bA fIsi (aC (mVar .B 0) (aC (mC (.ty "int")) aN)))))) (sRet (mC (.bl false))) sNx)
  (sRet (vChain (fI0 gLe) (fI0 gLe) (mC (.int 0)) (mVar .B 0) (mC (.int 1000000000)))))
abbrev f_is_count:List W->R W:=runB 1 1 m_is_count
def m_must_be_listed:Rho->R Fl:=
 (mSeq (mIf (tNot' (bTest (bA (fIsiD ".d") (aC (mVar .B 0) (aC (vTup (aC (mC (.ty "list")) (aC (mC (.ty "tuple")) aN))) aN))))) (sRaise0 "NoMoor" (aC (bFs " is no list or tuple" (mVar .B 1)) aN)) sNx)
  (mIf (tNot' (bTest (vChain (fI0 gLe) (fI0 gLe) (mVar .B 2) (bA fLen (aC (mVar .B 0) aN)) (mVar .B 3)))) (sRaise0 "NoMoor" (aC (bFs " is of a wrong length" (mVar .B 1)) aN)) sNx))
abbrev f_must_be_listed:List W->R W:=runB 4 4 m_must_be_listed
def m_made_counts:Rho->R Fl:=
 (mSeq (sDrop (bA f_must_be_listed (aC (mVar .B 0) (aC (mVar .B 1) (aC (mVar .B 2) (aC (mVar .B 2) aN))))))
  (mSeq (sFor (bS (mVar .U 0)) (gN .U 3)
   (mIf (tNot' (bTest (bA (calm f_is_count) (aC (mVar .B 3) aN)))) (sRaise0 "NoMoor" (aC (bFs " has something in it that is no count" (mVar .B 1)) aN)) sNx))
  (sRet (bA (fTup false) (aC (mVar .B 0) aN)))))
abbrev f_made_counts:List W->R W:=runB 3 4 m_made_counts
def m_made_move:Rho->R Fl:=
 (mSeq (sDrop (bA f_must_be_listed (aC (mVar .B 0) (aC (mC (.str "a move")) (aC (mC (.int 2)) (aC (mC (.int 2)) aN))))))
  (sRet (vTup (aC (bA f_made_counts (aC (b2 fIx (mVar .B 0) (mC (.int 0))) (aC (mC (.str "a take")) (aC (mVar .B 1) aN)))) (aC (bA f_made_counts (aC (b2 fIx (mVar .B 0) (mC (.int 1))) (aC (mC (.str "a put")) (aC (mVar .B 1) aN)))) aN)))))
abbrev f_made_move:List W->R W:=runB 2 2 m_made_move
def m_moor:Rho->R Fl:=
 (mSeq (sDrop (bA f_must_be_listed (aC (mVar .B 0) (aC (mC (.str "the beginning")) (aC (mC (.int 1)) (aC (mC (.int 6)) aN))))))
  (mSeq (sF 2 (bA fLen (aC (mVar .B 0) aN)))
  (mSeq (sF 3 (bA f_made_counts (aC (mVar .B 0) (aC (mC (.str "the beginning")) (aC (mVar .B 2) aN)))))
  (mSeq (sDrop (bA f_must_be_listed (aC (mVar .B 1) (aC (mC (.str "the moves")) (aC (mC (.int 0)) (aC (mC (.int 8)) aN))))))
  (sFrz 3 (sRet (vTup (aC (mVar .V 3) (aC (bA (fTup true) (aC (vCompX 5 (bS (mVar .B 1)) (gN .U 4) (bA f_made_move (aC (mVar .B 4) (aC (mVar .B 2) aN)))) aN)) aN)))))))))
abbrev f_moor:List W->R W:=runB 2 4 m_moor
def m__law_cell_at:Rho->R Fl:=
 (mSeq (mIf (bTest (b2 (fI0 gLt) (mVar .B 1) (bA fLen (aC (mVar .B 0) aN)))) (sRet (bChk (b2 fIx (mVar .B 0) (mVar .B 1)))) sNx)
  (sRet (mC (.int 0))))
abbrev f__law_cell_at:List W->R W:=runB 2 2 m__law_cell_at
def m__law_stream:Rho->R Fl:=
 (mSeq (sF 3 (vLst aN))
  (mSeq (sV 4 (b2 (fI cMod gMod) (b2 (fI0 gAdd) (b2 (fI0 gAdd) (b2 (fI CMul gMul) (b2 (fI cMod gMod) (mVar .B 0) (mC (.int 2147483647))) (mC (.int 48271))) (b2 (fI CMul gMul) (b2 (fI CMul gMul) (mVar .B 1) (mVar .B 1)) (mC (.int 69621)))) (mC (.int 11))) (mC (.int 2147483647))))
  (mSeq (sFor (bI rng1 (aC (mVar .B 2) aN)) (gN .U 5)
   (mSeq (sV 4 (b2 (fI cMod gMod) (b2 (fI0 gAdd) (b2 (fI0 gAdd) (b2 (fI0 gAdd) (b2 (fI CMul gMul) (mVar .B 4) (mVar .B 4)) (b2 (fI CMul gMul) (mC (.int 48271)) (mVar .B 4))) (mVar .B 5)) (mVar .B 1)) (mC (.int 2147483647))))
   (mApp 3 (mVar .V 4))))
  (mRetVar .F 3))))
abbrev f__law_stream:List W->R W:=runB 3 6 m__law_stream
def m__law_counts:Rho->R Fl:=
 (mSeq (mIf (bTest (b2 (fEqS false) (b2 (fI cMod gMod) (mVar .B 1) (mC (.int 2))) (mC (.int 0)))) (sRet (vComp 3 (bS (mVar .B 0)) (gN .U 2) yes (b2 (fI cMod gMod) (mVar .B 2) (mC (.int 1000000001))))) sNx)
  (sRet (vComp 3 (bS (mVar .B 0)) (gN .U 2) yes (b2 (fI cMod gMod) (mVar .B 2) (mC (.int 3))))))
abbrev f__law_counts:List W->R W:=runB 2 2 m__law_counts
def m__law_no_count:Rho->R Fl:=
 (mSeq (sF 1 (vLst (aC (b1 (fU gNeg) (mC (.int 1))) (aC (mC (.int 1000000001)) (aC (mC (.bl true)) (aC (mC (.bl false)) (aC (mC .non) (aC (bA fStr (aC (b2 (fI cMod gMod) (mVar .B 0) (mC (.int 10))) aN)) (aC (vLst (aC (b2 (fI cMod gMod) (mVar .B 0) (mC (.int 3))) aN)) (aC (vTup (aC (b2 (fI cMod gMod) (mVar .B 0) (mC (.int 3))) aN)) (aC (b2 (fI CPow gPow) (mC (.int 10)) (mC (.int 60))) (aC (b2 (fI0 gSub) (mC (.int 0)) (b2 (fI CPow gPow) (mC (.int 10)) (mC (.int 60)))) aN))))))))))))
  (sRet (b2 fIx (mVar .C 1) (b2 (fI cMod gMod) (b2 (fI CDiv gDiv) (mVar .B 0) (mC (.int 30))) (mC (.int 10))))))
abbrev f__law_no_count:List W->R W:=runB 1 2 m__law_no_count
def m__law_no_list:Rho->R Fl:=
 (sRet (b2 fIx (vLst (aC (b2 (fI cMod gMod) (mVar .B 0) (mC (.int 7))) (aC (mC .non) (aC (mC (.str "12")) (aC (mC (.str "")) (aC (mC (.bl true)) (aC (bDct ".d" (mC (.int 0)) (b2 (fI cMod gMod) (mVar .B 0) (mC (.int 5)))) aN))))))) (b2 (fI cMod gMod) (b2 (fI CDiv gDiv) (mVar .B 0) (mC (.int 7))) (mC (.int 6)))))
abbrev f__law_no_list:List W->R W:=runB 1 1 m__law_no_list
def m__law_wrong_part:Rho->R Fl:=
 (mSeq (mIf (bTest (b2 (fEqS false) (b2 (fI cMod gMod) (mVar .B 1) (mC (.int 3))) (mC (.int 0)))) (sRet (bA f__law_no_list (aC (mVar .B 2) aN))) sNx)
  (mSeq (mIf (bTest (b2 (fEqS false) (b2 (fI cMod gMod) (mVar .B 1) (mC (.int 3))) (mC (.int 1)))) (sRet (vSl false (mVar .B 0) (pS (mC (.int 1))) pN)) sNx)
  (sRet (b2 (fCat false) (mVar .B 0) (vLst (aC (b2 (fI cMod gMod) (mVar .B 2) (mC (.int 3))) aN))))))
abbrev f__law_wrong_part:List W->R W:=runB 3 3 m__law_wrong_part
def m__law_wrong_move:Rho->R Fl:=
 (mSeq (sV 3 (b2 (fI cMod gMod) (mVar .B 1) (mC (.int 8))))
  (mSeq (mIf (bTest (b2 (fEqS false) (mVar .B 3) (mC (.int 0)))) (sRet (bA f__law_no_list (aC (mVar .B 2) aN))) sNx)
  (mSeq (mIf (bTest (b2 (fEqS false) (mVar .B 3) (mC (.int 1)))) (sRet (b2 fIx (vLst (aC (vLst aN) (aC (vLst (aC (b2 fIx (mVar .C 0) (mC (.int 0))) aN)) (aC (vTup (aC (b2 fIx (mVar .C 0) (mC (.int 1))) aN)) (aC (vLst (aC (b2 fIx (mVar .C 0) (mC (.int 0))) (aC (b2 fIx (mVar .C 0) (mC (.int 1))) (aC (b2 fIx (mVar .C 0) (mC (.int 0))) aN)))) aN))))) (b2 (fI cMod gMod) (mVar .B 2) (mC (.int 4))))) sNx)
  (mSeq (sV 4 (b2 (fI cMod gMod) (b2 (fI CDiv gDiv) (mVar .B 1) (mC (.int 8))) (mC (.int 2))))
  (mSeq (mIf (bTest (b2 (fI0 gLt) (mVar .B 3) (mC (.int 5)))) (sV 5 (bA f__law_wrong_part (aC (b2 fIx (mVar .B 0) (mVar .B 4)) (aC (b2 (fI CDiv gDiv) (mVar .B 1) (mC (.int 16))) (aC (mVar .B 2) aN))))) (mSeq (sF 5 (bA (fList true) (aC (b2 fIx (mVar .C 0) (mVar .C 4)) aN)))
   (mSet 5 (b2 (fI cMod gMod) (b2 (fI CDiv gDiv) (mVar .B 1) (mC (.int 16))) (bA fLen (aC (mVar .B 5) aN))) (bA f__law_no_count (aC (mVar .B 2) aN)))))
  (mSeq (mIf (bTest (b2 (fEqS false) (mVar .B 4) (mC (.int 0)))) (sFrz 5 (sRet (vTup (aC (mVar .V 5) (aC (b2 fIx (mVar .C 0) (mC (.int 1))) aN))))) sNx)
  (sFrz 5 (sRet (vLst (aC (b2 fIx (mVar .C 0) (mC (.int 0))) (aC (mVar .V 5) aN)))))))))))
abbrev f__law_wrong_move:List W->R W:=runX 3 6 m__law_wrong_move
def m__law_spoiled:Rho->R Fl:=
 (mSeq (sV 3 (b2 (fI cMod gMod) (b2 fIx (mVar .B 2) (mC (.int 0))) (mC (.int 12))))
  (mSeq (mIf (bTest (b2 (fEqS false) (mVar .B 3) (mC (.int 0)))) (sRet (vTup (aC (vLst aN) (aC (vComp 8 (bS (mVar .B 1)) (gN .U 7) yes (vTup (aC (vLst aN) (aC (vLst aN) aN)))) aN)))) sNx)
  (mSeq (mIf (bTest (b2 (fEqS false) (mVar .B 3) (mC (.int 1)))) (mSeq (sF 4 (vComp 8 (bI rng1 (aC (mC (.int 7)) aN)) (gN .U 7) yes (b2 fIx (mVar .C 0) (b2 (fI cMod gMod) (mVar .B 7) (bA fLen (aC (mVar .B 0) aN))))))
   (sFrz 4 (sRet (vTup (aC (mVar .V 4) (aC (vComp 8 (bS (mVar .B 1)) (gN .U 7) yes (vTup (aC (bA (fList true) (aC (mVar .C 4) aN)) (aC (bA (fList true) (aC (mVar .C 4) aN)) aN)))) aN)))))) sNx)
  (mSeq (mIf (bTest (b2 (fEqS false) (mVar .B 3) (mC (.int 2)))) (sRet (vTup (aC (bA f__law_no_list (aC (b2 fIx (mVar .B 2) (mC (.int 1))) aN)) (aC (mVar .V 1) aN)))) sNx)
  (mSeq (mIf (tOr' (bTest (b2 (fEqS false) (mVar .B 3) (mC (.int 3)))) (bTest (b2 (fEqS false) (mVar .B 3) (mC (.int 4))))) (mSeq (sF 5 (bA (fList true) (aC (mVar .C 0) aN)))
   (mSeq (mSet 5 (b2 (fI cMod gMod) (b2 fIx (mVar .B 2) (mC (.int 1))) (bA fLen (aC (mVar .B 0) aN))) (bA f__law_no_count (aC (b2 fIx (mVar .B 2) (mC (.int 2))) aN)))
   (sFrz 5 (sRet (vTup (aC (mVar .V 5) (aC (mVar .V 1) aN))))))) sNx)
  (mSeq (mIf (bTest (b2 (fEqS false) (mVar .B 3) (mC (.int 5)))) (sRet (vTup (aC (mVar .V 0) (aC (vComp 8 (bI rng1 (aC (mC (.int 9)) aN)) (gN .U 7) yes (b2 fIx (mVar .C 1) (b2 (fI cMod gMod) (mVar .B 7) (bA fLen (aC (mVar .B 1) aN))))) aN)))) sNx)
  (mSeq (mIf (bTest (b2 (fEqS false) (mVar .B 3) (mC (.int 6)))) (sRet (vTup (aC (mVar .V 0) (aC (bA f__law_no_list (aC (b2 fIx (mVar .B 2) (mC (.int 1))) aN)) aN)))) sNx)
  (mSeq (sF 5 (bA (fList true) (aC (mVar .C 1) aN)))
  (mSeq (sV 6 (b2 (fI cMod gMod) (b2 fIx (mVar .B 2) (mC (.int 3))) (bA fLen (aC (mVar .B 1) aN))))
  (mSeq (mSet 5 (mVar .B 6) (bA f__law_wrong_move (aC (b2 fIx (mVar .C 1) (mVar .C 6)) (aC (b2 fIx (mVar .C 2) (mC (.int 1))) (aC (b2 fIx (mVar .C 2) (mC (.int 2))) aN)))))
  (sFrz 5 (sRet (vTup (aC (mVar .V 0) (aC (mVar .V 5) aN)))))))))))))))
abbrev f__law_spoiled:List W->R W:=runX 3 7 m__law_spoiled
def m__law_no_moor:Rho->R Fl:=
 (mSeq (mIf (tOr' (tNot' (bTest (bA (fXIs "NoMoor" (.cls "NoMoor") true) (aC (mVar .B 0) (aC (mC (.cls "NoMoor")) aN))))) (tOr' (tNot' (bTest (bA (fXIs "NoMoor" (.cls "MoorError") true) (aC (mVar .B 0) (aC (mC (.cls "MoorError")) aN))))) (tNot' (bTest (bA (fXIs "NoMoor" (.ty "ValueError") true) (aC (mVar .B 0) (aC (mC (.ty "ValueError")) aN))))))) (sRet (mC (.bl false))) sNx)
  (mSeq (mIf (tOr' (bTest (bA (fXIs "NoMoor" (.cls "Stuck") false) (aC (mVar .B 0) (aC (mC (.cls "Stuck")) aN)))) (tOr' (bTest (bA (fXIs "NoMoor" (.cls "NoName") false) (aC (mVar .B 0) (aC (mC (.cls "NoName")) aN)))) (bTest (bA (fXIs "NoMoor" (.cls "NoRow") false) (aC (mVar .B 0) (aC (mC (.cls "NoRow")) aN)))))) (sRet (mC (.bl false))) sNx)
  (sRet (vNot (bA (fXIs "NoMoor" (.cls "NoText") false) (aC (mVar .B 0) (aC (mC (.cls "NoText")) aN)))))))
abbrev f__law_no_moor:List W->R W:=runB 1 1 m__law_no_moor
def m__law_refused:Rho->R Fl:=
 (mSeq (sV 3 (mC .non))
  (mSeq (mIf (bTest (mVar .B 2)) (sTryX "NoMoor" 4 f_moor (aC (mVar .B 0) (aC (mVar .B 1) aN)) (sV 3 (mVar .V 4))) (sTryX "NoMoor" 4 f_moor (aC (mVar .B 0) (aC (mVar .B 1) aN)) (sV 3 (mVar .V 4))))
  (sRet (vAnd (b2 (fIsN true) (mVar .B 3) (mC .non)) (bA f__law_no_moor (aC (mVar .B 3) aN))))))
abbrev f__law_refused:List W->R W:=runB 3 5 m__law_refused
def m_law:Rho->R Fl:=
 (mSeq (sF 1 (bA f__law_stream (aC (bA f__law_cell_at (aC (mVar .B 0) (aC (mC (.int 0)) aN))) (aC (mC (.int 1)) (aC (mC (.int 10)) aN)))))
  (mSeq (sV 2 (b2 (fI0 gAdd) (mC (.int 1)) (b2 (fI cMod gMod) (b2 fIx (mVar .B 1) (mC (.int 0))) (mC (.int 6)))))
  (mSeq (sF 3 (bA f__law_counts (aC (vSl true (mVar .C 1) (pS (mC (.int 4))) (pS (b2 (fI0 gAdd) (mC (.int 4)) (mVar .B 2)))) (aC (b2 fIx (mVar .B 1) (mC (.int 1))) aN))))
  (mSeq (sF 4 (vLst aN))
  (mSeq (sFor (bI rng1 (aC (b2 (fI0 gAdd) (mC (.int 1)) (b2 (fI cMod gMod) (b2 fIx (mVar .B 1) (mC (.int 2))) (mC (.int 8)))) aN)) (gN .U 5)
   (mSeq (sF 6 (bA f__law_stream (aC (bA f__law_cell_at (aC (mVar .B 0) (aC (b2 (fI0 gAdd) (mC (.int 2)) (mVar .B 5)) aN))) (aC (b2 (fI0 gAdd) (mC (.int 2)) (mVar .B 5)) (aC (mC (.int 13)) aN)))))
   (mApp 4 (vTup (aC (bA f__law_counts (aC (vSl true (mVar .C 6) (pS (mC (.int 1))) (pS (b2 (fI0 gAdd) (mC (.int 1)) (mVar .B 2)))) (aC (b2 fIx (mVar .B 6) (mC (.int 0))) aN))) (aC (bA f__law_counts (aC (vSl true (mVar .C 6) (pS (mC (.int 7))) (pS (b2 (fI0 gAdd) (mC (.int 7)) (mVar .B 2)))) (aC (b2 (fI CDiv gDiv) (b2 fIx (mVar .B 6) (mC (.int 0))) (mC (.int 2))) aN))) aN))))))
  (mSeq (sCX 7 [3,8,4,1,6] f__law_spoiled (aC (mVar .V 3) (aC (mVar .V 4) (aC (bA f__law_stream (aC (bA f__law_cell_at (aC (mVar .B 0) (aC (mC (.int 1)) aN))) (aC (mC (.int 12)) (aC (mC (.int 4)) aN)))) aN))))
  (mSeq (mIf (tNot' (bTest (bA f__law_refused (aC (b2 fIx (mVar .B 7) (mC (.int 0))) (aC (b2 fIx (mVar .B 7) (mC (.int 1))) (aC (b2 (fEqS false) (b2 (fI cMod gMod) (b2 fIx (mVar .B 1) (mC (.int 3))) (mC (.int 2))) (mC (.int 0))) aN)))))) (sRet (mC (.bl false))) sNx)
  (mSeq (sF 8 (bA (calm f_moor) (aC (mVar .B 3) (aC (mVar .B 4) aN))))
  (mSeq (mIf (bTest (b2 (fEq true) (mVar .B 8) (vTup (aC (bA (fTup true) (aC (mVar .C 3) aN)) (aC (bA (fTup true) (aC (vComp 10 (bS (mVar .B 4)) (gN .U 9) yes (vTup (aC (bA (fTup false) (aC (b2 fIx (mVar .B 9) (mC (.int 0))) aN)) (aC (bA (fTup false) (aC (b2 fIx (mVar .B 9) (mC (.int 1))) aN)) aN)))) aN)) aN))))) (sRet (mC (.bl false))) sNx)
  (sRet (bA f__law_refused (aC (b2 fIx (mVar .B 7) (mC (.int 0))) (aC (b2 fIx (mVar .B 7) (mC (.int 1))) (aC (b2 (fEqS false) (b2 (fI cMod gMod) (b2 fIx (mVar .B 1) (mC (.int 3))) (mC (.int 2))) (mC (.int 1))) aN))))))))))))))
abbrev f_law:List W->R W:=runB 1 9 m_law
end K05
set_option maxHeartbeats 4000000
open PySem L2 TP
namespace K05
def rp14:=Z1 (@isi_bb) (Z1 (@isi_bi) (Z1 (@isi_ib) (Z1 (@isi_ii) (Z1 (@isi_tt) (Z1 (@isi_ll) (Z1 (@isi_ni) (Z1 (@isi_nb) (Z1 (@isi_si) (Z1 (@isi_sb) (Z1 (@isi_li) (Z1 (@isi_lb) (Z1 (@isi_ti) (@isi_tb)))))))))))))
def rp15:=Z1 (@Bool.not_true) (Z1 (@Bool.not_false) (Z1 (@Bool.true_or) (Z1 (@Bool.or_true) (Z1 (@Bool.false_or) (Z1 (@Bool.or_false) (Z1 (@Bool.true_and) (Z1 (@Bool.and_true) (Z1 (@Bool.false_and) (Z1 (@Bool.and_false) (Z1 (@Int.sub_zero) (Z1 (@Int.zero_add) (Z1 (@Int.toNat_natCast) (Z1 (@Bool.false_eq_true) (Z1 (@Bool.true_eq_false) (Z1 (@and_true) (Z1 (@true_and) (Z1 (@or_true) (Z1 (@true_or) (@and_self)))))))))))))))))))
def rp18:=Z1 (@List.length_cons.{0}) (Z1 (@List.length_nil.{0}) (Z1 (@List.length_map.{0,0}) (Z1 (@List.length_append.{0}) (Z1 (@List.length_set.{0}) (@List.length_range)))))
def rp16:=Z1 rp14 (Z1 rp15 (Z1 rp13 (Z1 rp12 (Z1 rp11 (Z1 rp10 (Z1 rp9 (Z1 rp8 (Z1 rp0 (Z1 rp1 (Z1 rp2 (Z1 rp3 (Z1 rp4 (Z1 rp5 (Z1 rp6 rp7))))))))))))))
def rp17:=Z1 (@List.map_cons.{0,0}) (Z1 (@List.map_nil.{0,0}) (Z1 (@List.replicate_succ.{0}) (Z1 (@List.replicate_zero.{0}) (Z1 (@List.cons_append.{0}) (Z1 (@List.nil_append.{0}) (Z1 (@List.append_nil.{0}) (Z1 (@R.ok_bind) (Z1 (@R.stuck_bind) (@R.ex_bind)))))))))
def rp19:=Z1 (@beq_self_eq_true.{0}) (Z1 (@Option.isNone_none.{0}) (Z1 (@Option.isNone_some.{0}) (Z1 (@Option.bind_some.{0,0}) (Z1 (@if_true.{1}) (Z1 (@if_false.{1}) (Z1 (@decide_true) (@decide_false)))))))
theorem endB_ex (e:XW):endB (.ex e)=.ex e:=rfl
theorem andThen_ex (e:XW) (n:Rho->R Fl):andThen (.ex e) n=.ex e:=rfl
def Rraise (c:Str):R (List W)->R Fl:=fun r=>r>>=fun ws=>match ws with
 | [.int i]=>.ex ⟨c,some i⟩
 | _=>.stuck
theorem sRaise_ap (c:Str) (mr:Rho->R (List W)) (ρ:Rho):sRaise c mr ρ=Rraise c (mr ρ):=rfl
theorem Rraise_ok (c:Str) (i:Int):Rraise c (.ok [.int i])=.ex ⟨c,some i⟩:=rfl
def unS (j:Nat):R Fl->R Fl:=fun r=>r>>=flUn j
theorem unS_nx (j:Nat) (ρ:Rho):unS j (.ok (.nx ρ))=.ok (.nx (ρ.set j .un)):=rfl
def Rtry (i:Nat) (c:Str) (j:Nat) (mb:Rho->R Fl) (ρ:Rho):R W->R Fl
 | .ok w=>.ok (.nx (ρ.set i (slotF w)))
 | .ex e=>mExc c j mb e ρ
 | .stuck=>.stuck
def Rtr (i:Nat) (c:Str) (j:Nat) (f:List W->R W) (mb:Rho->R Fl) (ρ:Rho):R (List W)->R Fl:=fun r=>r>>=fun ws=>Rtry i c j mb ρ (f ws)
theorem sTry_ap (i:Nat) (c:Str) (j:Nat) (f:List W->R W) (ma:Rho->R (List W)) (mb:Rho->R Fl) (ρ:Rho):sTry i c j f ma mb ρ=Rtr i c j f mb ρ (ma ρ):=by
 unfold sTry Rtr
 cases ma ρ with
 | stuck=>rfl
 | ex e=>rfl
 | ok ws=>show (match f ws with | .ok w=>_ | .ex e=>_ | .stuck=>_)=Rtry i c j mb ρ (f ws); cases f ws <;> rfl
theorem Rtr_ok (i:Nat) (c:Str) (j:Nat) (f:List W->R W) (mb:Rho->R Fl) (ρ:Rho) (ws:List W):Rtr i c j f mb ρ (.ok ws)=Rtry i c j mb ρ (f ws):=rfl
theorem Rtry_ok (i:Nat) (c:Str) (j:Nat) (mb:Rho->R Fl) (ρ:Rho) (w:W):Rtry i c j mb ρ (.ok w)=.ok (.nx (ρ.set i (slotF w))):=rfl
theorem Rtry_ex (i:Nat) (c:Str) (j:Nat) (mb:Rho->R Fl) (ρ:Rho) (v:Option Int):Rtry i c j mb ρ (.ex ⟨c,v⟩)=unS j (mb (ρ.set j (.val (.exc c v)))):=by
 show mExc c j mb ⟨c,v⟩ ρ=_
 unfold mExc
 rw [if_pos rfl]; rfl
def RtryX (c:Str) (j:Nat) (mb:Rho->R Fl) (ρ:Rho):R W->R Fl
 | .ok _=>.ok (.nx ρ)
 | .ex e=>mExc c j mb e ρ
 | .stuck=>.stuck
def RtrX (c:Str) (j:Nat) (f:List W->R W) (mb:Rho->R Fl) (ρ:Rho):R (List W)->R Fl:=fun r=>r>>=fun ws=>RtryX c j mb ρ (f ws)
theorem sTryX_ap (c:Str) (j:Nat) (f:List W->R W) (ma:Rho->R (List W)) (mb:Rho->R Fl) (ρ:Rho):sTryX c j f ma mb ρ=RtrX c j f mb ρ (ma ρ):=by
 unfold sTryX RtrX
 cases ma ρ with
 | stuck=>rfl
 | ex e=>rfl
 | ok ws=>show (match f ws with | .ok w=>_ | .ex e=>_ | .stuck=>_)=RtryX c j mb ρ (f ws); cases f ws <;> rfl
theorem RtrX_ok (c:Str) (j:Nat) (f:List W->R W) (mb:Rho->R Fl) (ρ:Rho) (ws:List W):RtrX c j f mb ρ (.ok ws)=RtryX c j mb ρ (f ws):=rfl
theorem RtryX_ok (c:Str) (j:Nat) (mb:Rho->R Fl) (ρ:Rho) (w:W):RtryX c j mb ρ (.ok w)=.ok (.nx ρ):=rfl
theorem RtryX_ex (c:Str) (j:Nat) (mb:Rho->R Fl) (ρ:Rho) (v:Option Int):RtryX c j mb ρ (.ex ⟨c,v⟩)=unS j (mb (ρ.set j (.val (.exc c v)))):=by
 show mExc c j mb ⟨c,v⟩ ρ=_
 unfold mExc
 rw [if_pos rfl]; rfl
theorem fAt_e (c:Str) (i:Int):fAt c (.exc c (some i))=.ok (.int i):=by
 show (if c=c then _ else _)=_
 rw [if_pos rfl]
theorem fXIs_c (c n:Str) (b:Bool) (v:Option Int):fXIs c (.cls n) b [.exc c v,.cls n]=.ok (.bl b):=by
 show (if c=c/\n=n then _ else _)=_
 rw [if_pos ⟨rfl,rfl⟩]
theorem fXIs_t (c:Str) (n:String) (b:Bool) (v:Option Int):fXIs c (.ty n) b [.exc c v,.ty n]=.ok (.bl b):=by
 show (if c=c/\n=n then _ else _)=_
 rw [if_pos ⟨rfl,rfl⟩]
def Rnew (c:Str):R (List W)->R W:=fun r=>r>>=fun ws=>match ws with
 | [.int i]=>.ok (.exc c (some i))
 | _=>.stuck
theorem bNew_ap (c:Str) (mr:Rho->R (List W)) (ρ:Rho):bNew c mr ρ=Rnew c (mr ρ):=rfl
theorem Rnew_ok (c:Str) (i:Int):Rnew c (.ok [.int i])=.ok (.exc c (some i)):=rfl
theorem R2b_ex (e:XW) (b:R W) (f:W->W->R W):R2b (.ex e) b f=.ex e:=rfl
theorem chk_exc (c:Str) (v:Option Int):chk (.exc c v)=.ok (.exc c v):=rfl
theorem slotF_exc (c:Str) (v:Option Int):slotF (.exc c v)=.val (.exc c v):=rfl
theorem isN_exc (c:Str) (v:Option Int):isN (.exc c v)=false:=rfl
def rpxc:=Z1 (@endB_ex) (Z1 (@andThen_ex) (Z1 (@sRaise_ap) (Z1 (@Rraise_ok) (Z1 (@unS_nx) (Z1 (@sTry_ap) (Z1 (@Rtr_ok) (Z1 (@Rtry_ok) (Z1 (@Rtry_ex) (Z1 (@sTryX_ap) (Z1 (@RtrX_ok) (Z1 (@RtryX_ok) (Z1 (@RtryX_ex) (Z1 (@fAt_e) (Z1 (@fXIs_c) (Z1 (@fXIs_t) (Z1 (@bNew_ap) (Z1 (@Rnew_ok) (Z1 (@chk_exc) (Z1 (@slotF_exc) (Z1 (@R2b_ex) (@isN_exc)))))))))))))))))))))
theorem for_ex {mg:W->Rho->Option Rho} {mb:Rho->R Fl} {e:XW} (I:Nat->Rho->Prop):∀ (ws:List W) (n k:Nat) (ρ:Rho),I k ρ->n<ws.length ->
  (∀ (i:Nat) (w:W) (ρ:Rho),ws[i]?=some w->i<n->I (k+i) ρ->∃ ρ1,mg w ρ=some ρ1/\Po (mb ρ1) (I (k+i+1)) (fun _=>False)) ->
  (∀ (w:W) (ρ:Rho),ws[n]?=some w->I (k+n) ρ->∃ ρ1,mg w ρ=some ρ1/\mb ρ1=.ex e)->mFor mg mb ws ρ=.ex e
 | [],n,k,ρ,h,hn,_,_=>absurd hn (Nat.not_lt_zero _)
 | w::ws,0,k,ρ,h,hn,st,hx=>by
  obtain ⟨ρ1,e1,e2⟩:=hx w ρ rfl h
  unfold mFor
  rw [e1]
  show (mb ρ1>>=_)=_
  rw [e2]; rfl
 | w::ws,n+1,k,ρ,h,hn,st,hx=>by
  obtain ⟨ρ1,e1,p⟩:=st 0 w ρ rfl (Nat.succ_pos n) h
  unfold mFor
  rw [e1]
  show (mb ρ1>>=_)=_
  revert p
  cases mb ρ1 with
  | ex _=>exact fun p=>p.elim
  | stuck=>exact fun p=>p.elim
  | ok f=>cases f with
   | bk _=>exact fun p=>p.elim
   | ct _=>exact fun p=>p.elim
   | rt w=>exact fun p=>p.elim
   | nx ρ2=>
    intro p
    exact for_ex I ws n (k+1) ρ2 p (by simpa using hn) (fun i w ρ hw hi hp=>by
     have:=st (i+1) w ρ (by simpa using hw) (by omega) (by rw [show k+(i+1)=k+1+i by omega]; exact hp)
     rw [show k+(i+1)+1=k+1+i+1 by omega] at this
     exact this) fun w ρ hw hp=>hx w ρ (by simpa using hw) (by rw [show k+(n+1)=k+1+n by omega]; exact hp)
def Rra0 (c:Str):R (List W)->R Fl:=fun r=>r>>=fun ws=>if ws.length<=1000 then .ex ⟨c,none⟩ else .stuck
def Rfs (y:Str):R W->R W:=fun r=>r>>=fun w=>match w with
 | .str x=>if x.length<=1000/\y.length<=1000 then .ok (.str (Str.empty++x++y)) else .stuck
 | _=>.stuck
def Rdct (c:Str) (a b:R W):R W:=a>>=fun w=>b>>=fun _=>match w with
 | .int _=>.ok (.exc c none)
 | _=>.stuck
def RcpX (n:Nat) (mg:W->Rho->Option Rho) (me:Rho->R W) (ρ:Rho):R (List W)->R W:=fun r=>r>>=fun ws=>mCompX n mg me ws ρ
theorem sRaise0_ap (c:Str) (mr:Rho->R (List W)) (ρ:Rho):sRaise0 c mr ρ=Rra0 c (mr ρ):=rfl
theorem Rra0_ok {c:Str} {ws:List W} (h:ws.length<=1000):Rra0 c (.ok ws)=.ex ⟨c,none⟩:=if_pos h
theorem bFs_ap (y:Str) (ma:Rho->R W) (ρ:Rho):bFs y ma ρ=Rfs y (ma ρ):=rfl
theorem bDct_ap (c:Str) (mk mv:Rho->R W) (ρ:Rho):bDct c mk mv ρ=Rdct c (mk ρ) (mv ρ):=rfl
theorem Rdct_ok (c:Str) (i:Int) (w:W):Rdct c (.ok (.int i)) (.ok w)=.ok (.exc c none):=rfl
theorem vCompX_ap (n:Nat) (mi:Rho->R (List W)) (mg:W->Rho->Option Rho) (me:Rho->R W) (ρ:Rho):vCompX n mi mg me ρ=RcpX n mg me ρ (mi ρ):=rfl
theorem RcpX_ok (n:Nat) (mg:W->Rho->Option Rho) (me:Rho->R W) (ρ:Rho) (ws:List W):RcpX n mg me ρ (.ok ws)=mCompX n mg me ws ρ:=rfl
theorem runX_ap {n N:Nat} {m:Rho->R Fl} {ws:List W} (h:ws.length=n):runX n N m ws=endB (m (ws.map Sl.val++List.replicate (N-n) Sl.un)):=by unfold runX; rw [if_pos h]; rfl
theorem runX_3 {N:Nat} {m:Rho->R Fl} (a b c:W):runX 3 N m [a,b,c]=endB (m (Sl.val a::Sl.val b::Sl.val c::List.replicate (N-3) Sl.un)):=runX_ap rfl
theorem Rcons_x (e:XW) (b:R (List W)):Rcons (.ex e) b=.ex e:=rfl
theorem Rcons_ox (w:W) (e:XW):Rcons (.ok w) (.ex e)=.ex e:=rfl
theorem Rdrop_x (e:XW) (ρ:Rho):Rdrop (.ex e) ρ=.ex e:=rfl
theorem Rset_x (e:XW) (f:W->Sl) (i:Nat) (ρ:Rho):Rset (.ex e) f i ρ=.ex e:=rfl
def rpk6:=Z1 (@sRaise0_ap) (Z1 (@Rra0_ok) (Z1 (@bFs_ap) (Z1 (@bDct_ap) (Z1 (@Rdct_ok) (Z1 (@vCompX_ap) (Z1 (@RcpX_ok) (Z1 (@runX_3) (Z1 (@sCX_ap) (Z1 (@frzL_cons) (Z1 (@frzL_nil) (@RcX_ok)))))))))))
def rpk5:=Z1 (@Rcons_x) (Z1 (@Rcons_ox) (Z1 (@Rdrop_x) (Z1 (@Rset_x) (rpk6))))
--RPX: rpxc, rpk5
def rpZ:=Z1 rp19 (Z1 rp16 (Z1 rp17 (Z1 rp18 (Z1 rpxc (Z1 rpk5 (@decide_eq_true_eq))))))
def rpB:=Z1 (@runB_1) (Z1 (@runB_2) (Z1 (@runB_3) (Z1 (@runB_4) (@runB_5))))
local macro_rules | `(tactic| exists $[$es],*)=>`(tactic| simp (disch:=first | with_reducible assumption | omega | (simp only [rp18]; omega)) only [List.getElem?_cons_zero,List.getElem?_cons_succ,List.set_cons_succ,List.set_cons_zero,tyW,isN,simprocAttr,rpZ,$[$es:term],*])
theorem stream_ok {c sa n:Int} (hs0:0<=sa) (hs1:sa<=1000) (hn0:0<=n) (hn1:n<=1000):Ok (f__law_stream [.int c,.int sa,.int n]) fun w=>∃ ns:List Int,w=lI ns/\ns.length=n.toNat/\∀ x∈ns,0<=x/\x<2147483647:=by
 exists rpB,m__law_stream
 refine ok_end (po_fors (fun i ρ=>∃ (ns:List Int) (z:Int) (v:Sl),ρ = [.par (.int c),.par (.int sa),.par (.int n),.own (ns.map W.int),.val (.int z),v]/\(0<=z/\z<2147483647)/\ns.length=i/\∀ x∈ns,0<=x/\x<2147483647)
  ⟨[],_,_,rfl,by omega,rfl,by simp⟩ ?_ ?_)
 ·rintro i w ρ hw ⟨ns,z,v,rfl,hz,hl,hns⟩
  obtain ⟨hi,rfl⟩:=rng_at hw
  refine ⟨_,rfl,?_⟩
  exists rp18
  refine ⟨ns ++ [_],_,_,rfl,by omega,by simp [hl],fun x hx=>?_⟩
  rcases List.mem_append.mp hx with h | h
  ·exact hns x h
  ·have:=List.mem_singleton.mp h; subst this; omega
 ·rintro ρ ⟨ns,z,v,rfl,hz,hl,hns⟩
  exists rp18
  exact ⟨ns,rfl,by simpa using hl,hns⟩
theorem memD {ns:List Int} {P:Int->Prop} (h:∀ x∈ns,P x) {i:Nat} (hi:i<ns.length):P (ns.getD i 0):=mem_getD h hi
abbrev Mv:=List Int×List Int
abbrev mW (m:Mv):W:=.tup [tI m.1,tI m.2]
abbrev tM_ (ms:List Mv):W:=.tup (ms.map mW)
def nn (xs:List Int):Prop:=∀ x∈xs,0<=x
def okN (n:Nat) (m:Mv):Prop:=m.1.length=n/\m.2.length=n/\nn m.1/\nn m.2
def cc (xs:List Int):Prop:=∀ x∈xs,0<=x/\x<=1000000000
def okC (n:Nat) (m:Mv):Prop:=m.1.length=n/\m.2.length=n/\cc m.1/\cc m.2
def isSq (w:W) (ws:List W):Prop:=w=.lst ws\/w=.tup ws
def noSq (w:W):Prop:=(∃ i,w=.int i)\/w=.non\/(∃ x,w=.str x)\/(∃ b,w=.bl b)\/w=.exc ".d" none
abbrev NX:R W:=.ex ⟨"NoMoor",none⟩
theorem isT (p q:String) (hp:p = "list") (hq:q = "tuple") {w:W} {ws:List W} (h:isSq w ws):fIsiD ".d" [w,.tup [.ty p,.ty q]]=.ok (.bl true):=by
 subst hp hq
 rcases h with rfl | rfl <;> rfl
theorem isF (p q:String) (hp:p = "list") (hq:q = "tuple") {w:W} (h:noSq w):fIsiD ".d" [w,.tup [.ty p,.ty q]]=.ok (.bl false):=by
 subst hp hq
 rcases h with ⟨i,rfl⟩ | rfl | ⟨x,rfl⟩ | ⟨b,rfl⟩ | rfl <;> rfl
theorem lenSq {w:W} {ws:List W} (h:isSq w ws):fLen [w]=.ok (.int (ws.length:Int)):=by
 rcases h with rfl | rfl
 ·exists rp18
 ·exists rp18
theorem Rfs_ok {x y:Str} (h:x.length<=1000) (k:y.length<=1000):Rfs y (.ok (.str x))=.ok (.str (Str.empty++x++y)):=if_pos ⟨h,k⟩
theorem listed_ok {w:W} {ws:List W} {what:Str} {lo hi:Int} (hw:isSq w ws) (h0:lo<=(ws.length:Int)) (h1:(ws.length:Int)<=hi):f_must_be_listed [w,.str what,.int lo,.int hi]=.ok .non:=by
 have e1:decide (lo<=(ws.length:Int))=true:=decide_eq_true h0
 have e2:decide ((ws.length:Int)<=hi)=true:=decide_eq_true h1
 have l:=lenSq hw
 exists rpB,m_must_be_listed,isT _ _ rfl rfl hw,l,e1,e2
theorem listed_no {w:W} {what:Str} {lo hi:Int} (hw:noSq w) (hl:what.length<=1000):f_must_be_listed [w,.str what,.int lo,.int hi]=NX:=by
 have k:(" is no list or tuple" : Str).length<=1000:=by decide
 exists rpB,m_must_be_listed,isF _ _ rfl rfl hw,Rfs_ok hl k
theorem listed_len {w:W} {ws:List W} {what:Str} {lo hi:Int} (hw:isSq w ws) (h:(ws.length:Int)<lo\/hi<(ws.length:Int)) (hl:what.length<=1000):f_must_be_listed [w,.str what,.int lo,.int hi]=NX:=by
 have k:(" is of a wrong length" : Str).length<=1000:=by decide
 have l:=lenSq hw
 have e:(decide (lo<=(ws.length:Int))&&decide ((ws.length:Int)<=hi))=false:=by
  rcases h with h | h
  ·rw [decide_eq_false (by omega)]; rfl
  ·rw [decide_eq_false (p:=(ws.length:Int)<=hi) (by omega),Bool.and_false]
 exists rpB,m_must_be_listed,isT _ _ rfl rfl hw,l,e,Rfs_ok hl k
theorem iscount_ok {z:Int} (h:0<=z/\z<=1000000000):f_is_count [.int z]=.ok (.bl true):=by
 have e1:decide (0<=z)=true:=decide_eq_true h.1
 have e2:decide (z<=1000000000)=true:=decide_eq_true h.2
 exists rpB,m_is_count,e1,e2
def noC (w:W):Prop:=f_is_count [w]=.ok (.bl false)
theorem noC_int {z:Int} (h:z<0\/1000000000<z):noC (.int z):=by
 unfold noC
 have e:(decide (0<=z)&&decide (z<=1000000000))=false:=by
  rcases h with h | h
  ·rw [decide_eq_false (by omega)]; rfl
  ·rw [decide_eq_false (p:=z<=1000000000) (by omega),Bool.and_false]
 exists rpB,m_is_count,e
theorem noC_bl (b:Bool):noC (.bl b):=by
 unfold noC
 exists rpB,m_is_count
theorem noC_non:noC .non:=by
 unfold noC
 exists rpB,m_is_count
theorem noC_str (x:Str):noC (.str x):=by
 unfold noC
 exists rpB,m_is_count
theorem noC_lst (x:List W):noC (.lst x):=by
 unfold noC
 exists rpB,m_is_count
theorem noC_tup (x:List W):noC (.tup x):=by
 unfold noC
 exists rpB,m_is_count
theorem made_ok {w:W} {xs:List Int} {what:Str} {n:Nat} (hw:isSq w (xs.map W.int)) (hl:xs.length=n) (h:cc xs):f_made_counts [w,.str what,.int (n:Int)]=.ok (tI xs):=by
 have fin:Ok (f_made_counts [w,.str what,.int (n:Int)]) fun v=>v=tI xs:=by
  have k:=listed_ok (w:=w) (ws:=xs.map W.int) (what:=what) (lo:=(n:Int)) (hi:=(n:Int)) hw (by rw [List.length_map]; omega) (by rw [List.length_map]; omega)
  have hs:seqW w=.ok (xs.map W.int):=by rcases hw with rfl | rfl <;> rfl
  have ht:fTup false [w]=.ok (tI xs):=by
   rcases hw with rfl | rfl
   ·exists rp18
   ·exists rp18
  exists rpB,m_made_counts,k,hs
  refine ok_end (po_fors (fun i ρ=>∃ a:Sl,ρ = [.par w,.par (.str what),.par (.int n),a]) ⟨_,rfl⟩ ?_ ?_)
  ·rintro i u ρ hu ⟨a,rfl⟩
   obtain ⟨hi,rfl⟩:=map_at hu
   have k1:=calm_ok (iscount_ok (memD (P:=fun x=>0<=x/\x<=1000000000) h hi))
   refine ⟨_,rfl,?_⟩
   exists k1
   exact ⟨_,rfl⟩
  ·rintro ρ ⟨a,rfl⟩
   exists ht
 obtain ⟨v,e,rfl⟩:=fin
 exact e
theorem made_no {w:W} {what:Str} {n:Int} (hw:noSq w) (hl:what.length<=1000):f_made_counts [w,.str what,.int n]=NX:=by
 have k:=listed_no (lo:=n) (hi:=n) hw hl
 exists rpB,m_made_counts,k
theorem made_len {w:W} {ws:List W} {what:Str} {n:Int} (hw:isSq w ws) (h:(ws.length:Int)≠n) (hl:what.length<=1000):f_made_counts [w,.str what,.int n]=NX:=by
 have k:=listed_len (lo:=n) (hi:=n) (what:=what) hw (by omega) hl
 exists rpB,m_made_counts,k
theorem made_bad {w u:W} {xs:List Int} {what:Str} {n:Nat} {j:Nat} (hw:isSq w ((xs.map W.int).set j u)) (hx:xs.length=n) (h:cc xs) (hj:j<n) (hu:noC u) (hl:what.length<=1000):f_made_counts [w,.str what,.int (n:Int)]=NX:=by
 have k:=listed_ok (w:=w) (what:=what) (lo:=(n:Int)) (hi:=(n:Int)) hw (by rw [List.length_set,List.length_map]; omega) (by rw [List.length_set,List.length_map]; omega)
 have hs:seqW w=.ok ((xs.map W.int).set j u):=by rcases hw with rfl | rfl <;> rfl
 have ky:(" has something in it that is no count" : Str).length<=1000:=by decide
 exists rpB,m_made_counts,k,hs
 rw [for_ex (e:=⟨"NoMoor",none⟩) (fun i ρ=>∃ a:Sl,ρ = [.par w,.par (.str what),.par (.int n),a]) _ j 0 _ ⟨_,rfl⟩ (by rw [List.length_set,List.length_map]; omega)]
 ·exists rp18
 ·rintro i v ρ hv hi ⟨a,rfl⟩
  rw [List.getElem?_set_ne (by omega)] at hv
  obtain ⟨hi,rfl⟩:=map_at hv
  have k1:=calm_ok (iscount_ok (memD (P:=fun x=>0<=x/\x<=1000000000) h hi))
  refine ⟨_,rfl,?_⟩
  exists k1
  exact ⟨_,rfl⟩
 ·rintro v ρ hv ⟨a,rfl⟩
  rw [List.getElem?_set_self (by rw [List.length_map]; omega)] at hv
  cases hv
  have k1:=calm_ok hu
  refine ⟨_,rfl,?_⟩
  exists k1,Rfs_ok hl ky
theorem mapX_ex {f:W->R W} {e:XW} {w:W} (hw:f w=.ex e):∀ (ws:List W) (j:Nat),ws[j]?=some w->(∀ i u,i<j->ws[i]?=some u->∃ y,f u=.ok y)->mapX f ws=.ex e
 | [],j,h,_=>by cases h
 | u::ws,0,h,_=>by
  cases h
  show (f w>>=_)=_
  rw [hw]; rfl
 | u::ws,j+1,h,hb=>by
  obtain ⟨y,hy⟩:=hb 0 u (Nat.succ_pos j) rfl
  show (f u>>=fun y=>mapX f ws>>=fun ys=>.ok (y::ys))=_
  rw [hy,R.ok_bind,mapX_ex hw ws j h fun i v hi hv=>hb (i+1) v (Nat.succ_lt_succ hi) hv]; rfl
theorem mapX_all {α:Type} {f:W->R W} {g s:α->W}:∀ as:List α,(∀ a∈as,f (s a)=.ok (g a))->mapX f (as.map s)=.ok (as.map g)
 | [],_=>rfl
 | a::as,h=>by
  show (f (s a)>>=fun y=>mapX f (as.map s)>>=fun ys=>.ok (y::ys))=_
  rw [h a List.mem_cons_self,R.ok_bind,mapX_all as fun b hb=>h b (List.mem_cons_of_mem _ hb)]; rfl
theorem elX_of {mg:W->Rho->Option Rho} {me:Rho->R W} {ρ:Rho} {w:W} {r:R W} (h:∃ ρ1,mg w ρ=some ρ1/\me ρ1=r):elX mg me ρ w=r:=by
 obtain ⟨ρ1,e1,e2⟩:=h
 unfold elX
 rw [e1]; exact e2
theorem compX_ex {N:Nat} {mg:W->Rho->Option Rho} {me:Rho->R W} {ws:List W} {ρ:Rho} {e:XW} (j:Nat) (w:W) (hl:ws.length<=1000) (hj:ws[j]?=some w) (hw:∃ ρ1,mg w (ρ++List.replicate (N-ρ.length) Sl.un)=some ρ1/\me ρ1=.ex e)
  (hb:∀ i u,i<j->ws[i]?=some u->∃ y,∃ ρ1,mg u (ρ++List.replicate (N-ρ.length) Sl.un)=some ρ1/\me ρ1=.ok y):mCompX N mg me ws ρ=.ex e:=by
 unfold mCompX
 rw [if_pos hl,mapX_ex (elX_of hw) ws j hj fun i u hi hu=>(hb i u hi hu).elim fun y q=>⟨y,elX_of q⟩]; rfl
theorem compX_all {α:Type} {N:Nat} {mg:W->Rho->Option Rho} {me:Rho->R W} (g s:α->W) (as:List α) (ρ:Rho) (hl:as.length<=1000) (h:∀ a∈as,∃ ρ1,mg (s a) (ρ++List.replicate (N-ρ.length) Sl.un)=some ρ1/\me ρ1=.ok (g a)):mCompX N mg me (as.map s) ρ=.ok (.lst (as.map g)):=by
 unfold mCompX
 rw [List.length_map,if_pos hl,mapX_all as fun a ha=>elX_of (h a ha)]; rfl
def mvH (n:Nat) (w:W) (m:Mv):Prop:=∃ p q,isSq w [p,q]/\isSq p (m.1.map W.int)/\isSq q (m.2.map W.int)/\okC n m
theorem at0 {w p q:W} (h:isSq w [p,q]):fIx w (.int 0)=.ok p:=by rcases h with rfl | rfl <;> rfl
theorem at1 {w p q:W} (h:isSq w [p,q]):fIx w (.int 1)=.ok q:=by rcases h with rfl | rfl <;> rfl
theorem mmove_ok {n:Nat} {w:W} {m:Mv} (h:mvH n w m):f_made_move [w,.int (n:Int)]=.ok (mW m):=by
 obtain ⟨p,q,hw,hp,hq,hm⟩:=h
 have k:=fun what=>listed_ok (w:=w) (ws:=[p,q]) (what:=what) (lo:=2) (hi:=2) hw (by simp) (by simp)
 have k1:=fun what=>made_ok (what:=what) hp hm.1 hm.2.2.1
 have k2:=fun what=>made_ok (what:=what) hq hm.2.1 hm.2.2.2
 have a0:=at0 hw
 have a1:=at1 hw
 exists rpB,m_made_move,k,a0,a1,k1,k2
def badP (n:Nat) (w:W):Prop:=∀ what:Str,what.length<=1000->f_made_counts [w,.str what,.int (n:Int)]=NX
def badM (n:Nat) (w:W):Prop:=f_made_move [w,.int (n:Int)]=NX
theorem badM_no {n:Nat} {w:W} (h:noSq w):badM n w:=by
 have k:=listed_no (what := "a move") (lo:=2) (hi:=2) h (by decide)
 unfold badM
 exists rpB,m_made_move,k
theorem badM_len {n:Nat} {w:W} {ws:List W} (h:isSq w ws) (hl:ws.length≠2):badM n w:=by
 have k:=listed_len (what := "a move") (lo:=2) (hi:=2) h (by omega) (by decide)
 unfold badM
 exists rpB,m_made_move,k
theorem badM_0 {n:Nat} {w p q:W} (h:isSq w [p,q]) (hp:badP n p):badM n w:=by
 have k:=listed_ok (what := "a move") (lo:=2) (hi:=2) h (by simp) (by simp)
 have k1:=hp "a take" (by decide)
 have a0:=at0 h
 unfold badM
 exists rpB,m_made_move,k,a0,k1
theorem badM_1 {n:Nat} {w p q:W} {xs:List Int} (h:isSq w [p,q]) (hp:isSq p (xs.map W.int)) (hl:xs.length=n) (hc:cc xs) (hq:badP n q):badM n w:=by
 have k:=listed_ok (what := "a move") (lo:=2) (hi:=2) h (by simp) (by simp)
 have k1:=made_ok (what := "a take") hp hl hc
 have k2:=hq "a put" (by decide)
 have a0:=at0 h
 have a1:=at1 h
 unfold badM
 exists rpB,m_made_move,k,a0,k1,a1,k2
abbrev badB (wb wm:W):Prop:=f_moor [wb,wm]=NX
theorem moor_ok {wb wm:W} {b:List Int} {ps:List (W×Mv)} (hwb:isSq wb (b.map W.int)) (hwm:isSq wm (ps.map (·.1))) (h1:1<=b.length) (h6:b.length<=6) (hb:cc b) (hm:∀ p∈ps,mvH b.length p.1 p.2) (hl:ps.length<=8):f_moor [wb,wm]=.ok (.tup [tI b,tM_ (ps.map (·.2))]):=by
 have k1:=fun what=>listed_ok (ws:=b.map W.int) (what:=what) (lo:=1) (hi:=6) hwb (by rw [List.length_map]; omega) (by rw [List.length_map]; omega)
 have k2:=fun what=>made_ok (what:=what) (xs:=b) hwb rfl hb
 have k3:=fun what=>listed_ok (ws:=ps.map (·.1)) (what:=what) (lo:=0) (hi:=8) hwm (by rw [List.length_map]; omega) (by rw [List.length_map]; omega)
 have hs:seqW wm=.ok (ps.map (·.1)):=by rcases hwm with rfl | rfl <;> rfl
 have hlen:=lenSq hwb
 rw [List.length_map] at hlen
 have em:(ps.map fun p=>mW p.2)=(ps.map (·.2)).map mW:=by rw [List.map_map]; rfl
 exists rpB,m_moor,k1,hlen,k2,k3,hs
 rw [compX_all (fun p=>mW p.2) (·.1) ps _ (by omega)]
 ·rw [em]
  generalize ps.map (·.2)=ms
  exists rp18
 ·intro p hp
  have k4:=mmove_ok (hm p hp)
  refine ⟨_,rfl,?_⟩
  exists k4
theorem moor_b0 {wb wm:W} (h:noSq wb):badB wb wm:=by
 have k:=listed_no (what := "the beginning") (lo:=1) (hi:=6) h (by decide)
 unfold badB
 exists rpB,m_moor,k
theorem moor_b1 {wb wm:W} {ws:List W} (h:isSq wb ws) (hl:ws.length<1\/6<ws.length):badB wb wm:=by
 have k:=listed_len (what := "the beginning") (lo:=1) (hi:=6) h (by omega) (by decide)
 unfold badB
 exists rpB,m_moor,k
theorem moor_b2 {wb wm u:W} {b:List Int} {j:Nat} (h:isSq wb ((b.map W.int).set j u)) (h1:1<=b.length) (h6:b.length<=6) (hb:cc b) (hj:j<b.length) (hu:noC u):badB wb wm:=by
 have k:=listed_ok (what := "the beginning") (lo:=1) (hi:=6) h (by rw [List.length_set,List.length_map]; omega) (by rw [List.length_set,List.length_map]; omega)
 have k2:=made_bad (what := "the beginning") h rfl hb hj hu (by decide)
 have hlen:=lenSq h
 rw [List.length_set,List.length_map] at hlen
 unfold badB
 exists rpB,m_moor,k,hlen,k2
theorem moor_m0 {wb wm:W} {b:List Int} (hwb:isSq wb (b.map W.int)) (h1:1<=b.length) (h6:b.length<=6) (hb:cc b) (h:noSq wm):badB wb wm:=by
 have k1:=listed_ok (ws:=b.map W.int) (what := "the beginning") (lo:=1) (hi:=6) hwb (by rw [List.length_map]; omega) (by rw [List.length_map]; omega)
 have k2:=made_ok (what := "the beginning") (xs:=b) hwb rfl hb
 have k3:=listed_no (what := "the moves") (lo:=0) (hi:=8) h (by decide)
 have hlen:=lenSq hwb
 rw [List.length_map] at hlen
 unfold badB
 exists rpB,m_moor,k1,hlen,k2,k3
theorem moor_m1 {wb wm:W} {b:List Int} {ws:List W} (hwb:isSq wb (b.map W.int)) (h1:1<=b.length) (h6:b.length<=6) (hb:cc b) (h:isSq wm ws) (hl:8<ws.length):badB wb wm:=by
 have k1:=listed_ok (ws:=b.map W.int) (what := "the beginning") (lo:=1) (hi:=6) hwb (by rw [List.length_map]; omega) (by rw [List.length_map]; omega)
 have k2:=made_ok (what := "the beginning") (xs:=b) hwb rfl hb
 have k3:=listed_len (what := "the moves") (lo:=0) (hi:=8) h (by omega) (by decide)
 have hlen:=lenSq hwb
 rw [List.length_map] at hlen
 unfold badB
 exists rpB,m_moor,k1,hlen,k2,k3
theorem moor_m2 {wb wm u:W} {b:List Int} {ps:List (W×Mv)} {j:Nat} (hwb:isSq wb (b.map W.int)) (h1:1<=b.length) (h6:b.length<=6) (hb:cc b) (h:isSq wm ((ps.map (·.1)).set j u)) (hm:∀ p∈ps,mvH b.length p.1 p.2) (hl:ps.length<=8) (hj:j<ps.length) (hu:badM b.length u):badB wb wm:=by
 have k1:=listed_ok (ws:=b.map W.int) (what := "the beginning") (lo:=1) (hi:=6) hwb (by rw [List.length_map]; omega) (by rw [List.length_map]; omega)
 have k2:=made_ok (what := "the beginning") (xs:=b) hwb rfl hb
 have k3:=listed_ok (what := "the moves") (lo:=0) (hi:=8) h (by rw [List.length_set,List.length_map]; omega) (by rw [List.length_set,List.length_map]; omega)
 have hs:seqW wm=.ok ((ps.map (·.1)).set j u):=by rcases h with rfl | rfl <;> rfl
 have hlen:=lenSq hwb
 rw [List.length_map] at hlen
 unfold badB
 exists rpB,m_moor,k1,hlen,k2,k3,hs
 rw [compX_ex (e:=⟨"NoMoor",none⟩) j u (by rw [List.length_set,List.length_map]; omega) (List.getElem?_set_self (by rw [List.length_map]; omega))]
 ·exists rp18
 ·unfold badM at hu
  refine ⟨_,rfl,?_⟩
  exists hu
 ·intro i v hi hv
  rw [List.getElem?_set_ne (by omega),List.getElem?_map] at hv
  obtain ⟨p,hp,rfl⟩:=Option.map_eq_some_iff.mp hv
  have k4:=mmove_ok (hm p (List.mem_of_getElem? hp))
  refine ⟨mW p.2,_,rfl,?_⟩
  exists k4
theorem nomoor_ok:f__law_no_moor [.exc "NoMoor" none]=.ok (.bl true):=by
 exists rpB,m__law_no_moor
theorem refused_ok {wb wm:W} (h:badB wb wm) (t:Bool):f__law_refused [wb,wm,.bl t]=.ok (.bl true):=by
 unfold badB at h
 have fin:Ok (f__law_refused [wb,wm,.bl t]) fun v=>v=.bl true:=by
  exists rpB,m__law_refused
  refine ok_end (po_cut (fun ρ=>∃ a,ρ = [.par wb,.par wm,.par (.bl t),.val (.exc "NoMoor" none),a]) ?_ ?_)
  ·refine po_if (fun _=>?_) (fun _=>?_)
   ·exists h
    exact ⟨_,rfl⟩
   ·exists h
    exact ⟨_,rfl⟩
  rintro ρ ⟨a,rfl⟩
  exists nomoor_ok
 obtain ⟨v,e,rfl⟩:=fin
 exact e
--CUT
theorem pickL {ws:List W} {P:W->Prop} {i:Int} (h0:0<=i) (h:i<ws.length) (hp:∀ w∈ws,P w):Ok (toR (L2.atI ws i)) P:=by
 unfold L2.atI
 rw [ixN_int h0 h]
 have hi:i.toNat<ws.length:=by omega
 show Ok (toR ws[i.toNat]?) P
 rw [List.getElem?_eq_getElem hi]
 exact ⟨_,rfl,hp _ (List.getElem_mem hi)⟩
theorem ok_retR {r:R W} {P:W->Prop} (h:Ok r P):Ok (endB (r>>=retK)) P:=by
 obtain ⟨w,rfl,q⟩:=h
 exact ⟨w,rfl,q⟩
theorem nocount_ok {x:Int} (hx:0<=x):Ok (f__law_no_count [.int x]) noC:=by
 exists rpB,m__law_no_count
 refine ok_retR (pickL (by omega) (by simp only [rp18]; omega) ?_)
 refine List.forall_mem_cons.mpr ⟨noC_int (by omega),List.forall_mem_cons.mpr ⟨noC_int (by omega),List.forall_mem_cons.mpr ⟨noC_bl _,List.forall_mem_cons.mpr ⟨noC_bl _,List.forall_mem_cons.mpr ⟨noC_non,List.forall_mem_cons.mpr ⟨noC_str _,List.forall_mem_cons.mpr ⟨noC_lst _,List.forall_mem_cons.mpr ⟨noC_tup _,List.forall_mem_cons.mpr ⟨noC_int (by omega),List.forall_mem_cons.mpr ⟨noC_int (by omega),fun _ h=>nomatch h⟩⟩⟩⟩⟩⟩⟩⟩⟩⟩
theorem nolist_ok {x:Int} (hx:0<=x):Ok (f__law_no_list [.int x]) noSq:=by
 exists rpB,m__law_no_list
 refine ok_retR (pickL (by omega) (by simp only [rp18]; omega) ?_)
 refine List.forall_mem_cons.mpr ⟨.inl ⟨_,rfl⟩,List.forall_mem_cons.mpr ⟨.inr (.inl rfl),List.forall_mem_cons.mpr ⟨.inr (.inr (.inl ⟨_,rfl⟩)),List.forall_mem_cons.mpr ⟨.inr (.inr (.inl ⟨_,rfl⟩)),List.forall_mem_cons.mpr ⟨.inr (.inr (.inr (.inl ⟨_,rfl⟩))),List.forall_mem_cons.mpr ⟨.inr (.inr (.inr (.inr rfl))),fun _ h=>nomatch h⟩⟩⟩⟩⟩⟩
theorem cut_1 (xs:List Int):(cutI xs (some 1) none).length=xs.length-1:=by
 unfold cutI
 rw [show (some (1:Int))=some ((1:Nat):Int) from rfl,HT.sIx_nat]
 show ((xs.drop (min 1 xs.length)).take (xs.length-min 1 xs.length)).length=_
 rw [List.length_take,List.length_drop]
 omega
theorem cut_n {xs:List Int} (a n:Nat) (h:a+n<=xs.length):(cutI xs (some (a:Int)) (some ((a:Int)+(n:Int)))).length=n:=by
 unfold cutI
 rw [show (a:Int)+(n:Int)=((a+n:Nat):Int) from rfl,HT.sIx_nat,HT.sIx_nat,List.length_take,List.length_drop]
 omega
theorem wpart_ok {n:Nat} {xs:List Int} {x y:Int} (hn:1<=n) (h6:n<=6) (hl:xs.length=n) (hc:cc xs) (hx:0<=x) (hy:0<=y):Ok (f__law_wrong_part [lI xs,.int x,.int y]) (badP n):=by
 obtain ⟨w,e,hw⟩:=nolist_ok hy
 exists rpB,m__law_wrong_part
 refine ok_end (po_ifs (fun h=>?_) (fun h=>?_))
 ·exists e
  exact fun what hwl=>made_no hw hwl
 exists rp18
 refine po_ifs (fun h=>?_) (fun h=>?_)
 ·exists rp18
  refine fun what hwl=>made_len (.inl rfl) ?_ hwl
  rw [List.length_map,cut_1]
  omega
 exists rp18
 refine fun what hwl=>made_len (.inl rfl) ?_ hwl
 rw [List.length_map,List.length_append]
 simp only [List.length_cons,List.length_nil]
 omega
theorem ebound {x:Int} {n:Nat} (hn:1<=n):0<=x%(n:Int)/\x%(n:Int)<n:=⟨Int.emod_nonneg x (by omega),Int.emod_lt_of_pos x (by omega)⟩
theorem wmove_ok {n:Nat} {m:Mv} {x y:Int} (hn:1<=n) (h6:n<=6) (hm:okC n m) (hx:0<=x) (hy:0<=y):Ok (f__law_wrong_move [.tup [lI m.1,lI m.2],.int x,.int y]) (badM n):=by
 obtain ⟨t,p⟩:=m
 obtain ⟨ht,hp,hct,hcp⟩:=hm
 replace ht:t.length=n:=ht
 replace hp:p.length=n:=hp
 replace hct:cc t:=hct
 replace hcp:cc p:=hcp
 obtain ⟨w,e,hw⟩:=nolist_ok hy
 obtain ⟨u,eu,hu⟩:=nocount_ok hy
 have a0:L2.atI [lI t,lI p] 0=some (lI t):=rfl
 have a1:L2.atI [lI t,lI p] 1=some (lI p):=rfl
 show Ok (f__law_wrong_move [.tup [lI t,lI p],.int x,.int y]) (badM n)
 exists rpB,m__law_wrong_move
 refine ok_end (po_ifs (fun h=>?_) (fun h=>?_))
 ·exists e
  exact badM_no hw
 exists rp18
 refine po_ifs (fun h=>?_) (fun h=>?_)
 ·exists a0,a1
  obtain ⟨v,ev,hv⟩:=pickL (ws:=[W.lst [],W.lst [lI t],W.tup [lI p],W.lst [lI t,lI p,lI t]]) (i:=y%4) (P:=badM n) (by omega) (by show _<((4:Nat):Int); omega)
   (List.forall_mem_cons.mpr ⟨badM_len (.inl rfl) (by simp),List.forall_mem_cons.mpr ⟨badM_len (.inl rfl) (by simp),List.forall_mem_cons.mpr ⟨badM_len (.inr rfl) (by simp),List.forall_mem_cons.mpr ⟨badM_len (.inl rfl) (by simp),fun _ h=>nomatch h⟩⟩⟩⟩)
  rw [ev]
  exists rp18
  exact hv
 have key:∀ (s:Int) (q:List Int),L2.atI [lI t,lI p] s=some (lI q)->q.length=n->cc q->Po (ifS (.ok (decide (x%8<5))) (sV 5 (bA f__law_wrong_part (aC (b2 fIx (mVar .B 0) (mVar .B 4)) (aC (b2 (fI CDiv gDiv) (mVar .B 1) (mC (.int 16))) (aC (mVar .B 2) aN))))) (mSeq (sF 5 (bA (fList true) (aC (b2 fIx (mVar .C 0) (mVar .C 4)) aN)))
   (mSet 5 (b2 (fI cMod gMod) (b2 (fI CDiv gDiv) (mVar .B 1) (mC (.int 16))) (bA fLen (aC (mVar .B 5) aN))) (bA f__law_no_count (aC (mVar .B 2) aN)))) [.val (.tup [lI t,lI p]),.val (.int x),.val (.int y),.val (.int (x%8)),.val (.int s),.un]) (fun ρ=>∃ a,ρ = [.val (.tup [lI t,lI p]),.val (.int x),.val (.int y),.val (.int (x%8)),.val (.int s),a]/\((∃ w,a=.val w/\badP n w)\/∃ ws,a=.own ws/\badP n (.lst ws))) (badM n):=by
  intro s q hs hq hcq
  refine po_if (fun h=>?_) (fun h=>?_)
  ·obtain ⟨v,ev,hv⟩:=wpart_ok (x:=x/16) hn h6 hq hcq (by omega) hy
   exists hs,ev
   exact ⟨_,rfl,.inl ⟨_,rfl,hv⟩⟩
  ·have hq':1<=q.length:=by omega
   have eb:=ebound (x:=x/16) hq'
   have ep:0<(q.length:Int):=by omega
   exists hs,eu
   refine ⟨_,rfl,.inr ⟨_,rfl,fun what hwl=>?_⟩⟩
   exact made_bad (.inl rfl) hq hcq (by omega) hu hwl
 rcases (by omega:x/8%2=0\/x/8%2=1) with hs | hs
 ·exists hs
  refine po_cut _ (key 0 t a0 ht hct) ?_
  rintro ρ ⟨a,rfl,⟨w,rfl,hb⟩ | ⟨ws,rfl,hb⟩⟩
  ·exists a1
   exact badM_0 (.inr rfl) hb
  ·exists a1
   exact badM_0 (.inr rfl) hb
 ·exists hs
  refine po_cut _ (key 1 p a1 hp hcp) ?_
  rintro ρ ⟨a,rfl,⟨w,rfl,hb⟩ | ⟨ws,rfl,hb⟩⟩
  ·exists a0
   exact badM_1 (.inl rfl) (.inl rfl) ht hct hb
  ·exists a0
   exact badM_1 (.inl rfl) (.inl rfl) ht hct hb
--CUT
abbrev mL (m:Mv):W:=.tup [lI m.1,lI m.2]
theorem atL {ms:List Mv} {r:Int} (h0:0<=r) (h1:r<ms.length):L2.atI (ms.map mL) r=some (mL (ms.getD r.toNat ([],[]))):=by
 unfold L2.atI
 rw [ixN_int h0 (by rw [List.length_map]; exact h1)]
 show (ms.map mL)[r.toNat]?=_
 have hi:r.toNat<ms.length:=by omega
 rw [List.getElem?_map,List.getD_eq_getElem?_getD]
 simp [hi]
theorem getC {n:Nat} {ms:List Mv} {i:Nat} (hm:∀ m∈ms,okC n m) (h1:i<ms.length):okC n (ms.getD i ([],[])):=by
 refine hm _ ?_
 rw [List.getD_eq_getElem?_getD]; simp [h1]
theorem mvL {n:Nat} {ms:List Mv} (hm:∀ m∈ms,okC n m):∀ p∈ms.map (fun m=>(mL m,m)),mvH n p.1 p.2:=by
 intro p hp
 obtain ⟨m,h,rfl⟩:=List.mem_map.mp hp
 exact ⟨lI m.1,lI m.2,.inr rfl,.inl rfl,.inl rfl,hm m h⟩
theorem psL (ms:List Mv):(ms.map (fun m=>(mL m,m))).map (·.1)=ms.map mL:=by rw [List.map_map]; rfl
theorem psR (ms:List Mv):(ms.map (fun m=>(mL m,m))).map (·.2)=ms:=by rw [List.map_map]; exact List.map_id _
theorem noL_2l (w:W) (ws:List W):noL (.tup [w,.lst ws])=false:=by simp [noL,noLs]
theorem noL_1l (w:W) (ws:List W):noL (.tup [.lst ws,w])=false:=by simp [noL,noLs]
theorem spoiled_ok {b xs:List Int} {ms:List Mv} (h1:1<=b.length) (h6:b.length<=6) (hb:cc b) (hm:∀ m∈ms,okC b.length m) (hl1:1<=ms.length) (hl8:ms.length<=8) (hx:xs.length=4) (hxs:∀ x∈xs,0<=x/\x<2147483647) :
  Ok (f__law_spoiled [lI b,.lst (ms.map mL),lI xs]) fun w=>∃ wb wm,w=.tup [wb,wm]/\badB wb wm/\noL w=false:=by
 have g:∀ i,i<4->0<=xs.getD i 0:=fun i hi=>(memD (P:=fun x=>0<=x/\x<2147483647) hxs (i:=i) (by omega)).1
 have g1:=g 1 (by omega)
 have g2:=g 2 (by omega)
 have g3:=g 3 (by omega)
 obtain ⟨w,e,hw⟩:=nolist_ok g1
 obtain ⟨u,eu,hu⟩:=nocount_ok g2
 have ep:0<(b.length:Int):=by omega
 have em:0<(ms.length:Int):=by omega
 have fL:chks true (ms.map mL)=.ok (.lst (ms.map mL)):=rfl
 exists rpB,m__law_spoiled
 refine ok_end (po_ifs (fun h=>?_) (fun h=>?_))
 ·exists rp18
  rw [mComp_all (fun _=>W.tup [.lst [],.lst []]) mL ms _ (by omega)]
  ·exists rp18
   exact ⟨_,_,rfl,moor_b1 (.inl rfl) (.inl (by simp)),noL_1l _ _⟩
  ·intro m hm
   refine ⟨_,rfl,?_⟩
   exists rp18
 exists rp18
 refine po_ifs (fun h=>?_) (fun h=>?_)
 ·exists rp18
  rw [mComp_all (fun k:Nat=>W.int (b.getD ((k:Int)%(b.length:Int)).toNat 0)) (fun k:Nat=>W.int (k:Nat)) (List.range 7) _ (by simp)]
  ·rw [mapI]
   generalize hz:(List.range 7).map (fun k:Nat=>b.getD ((k:Int)%(b.length:Int)).toNat 0)=zs
   have hzl:zs.length=7:=by rw [<- hz]; simp
   exists rp18
   rw [mComp_all (fun _=>W.tup [lI zs,lI zs]) mL ms _ (by omega)]
   ·exists rp18
    exact ⟨_,_,rfl,moor_b1 (.inl rfl) (.inr (by rw [List.length_map]; omega)),noL_1l _ _⟩
   ·intro m hm
    refine ⟨_,rfl,?_⟩
    exists rp18
  ·intro k hk
   have eb:=ebound (x:=(k:Int)) h1
   refine ⟨_,rfl,?_⟩
   exists rp18
 exists rp18
 refine po_ifs (fun h=>?_) (fun h=>?_)
 ·exists e
  exact ⟨_,_,rfl,moor_b0 hw,noL_2l _ _⟩
 exists rp18
 refine po_ifs (fun h=>?_) (fun h=>?_)
 ·have eb:=ebound (x:=xs.getD 1 0) h1
  exists eu
  exact ⟨_,_,rfl,moor_b2 (.inl rfl) h1 h6 hb (by omega) hu,noL_2l _ _⟩
 exists rp18
 refine po_ifs (fun h=>?_) (fun h=>?_)
 ·exists rp18
  rw [mComp_all (fun k:Nat=>mL (ms.getD ((k:Int)%(ms.length:Int)).toNat ([],[]))) (fun k:Nat=>W.int (k:Nat)) (List.range 9) _ (by simp)]
  ·exists rp18
   exact ⟨_,_,rfl,moor_m1 (.inl rfl) h1 h6 hb (.inl rfl) (by simp),noL_2l _ _⟩
  ·intro k hk
   have eb:=ebound (x:=(k:Int)) hl1
   have ea:=atL (ms:=ms) eb.1 eb.2
   refine ⟨_,rfl,?_⟩
   exists ea
 exists rp18
 refine po_ifs (fun h=>?_) (fun h=>?_)
 ·exists e
  exact ⟨_,_,rfl,moor_m0 (.inl rfl) h1 h6 hb hw,noL_1l _ _⟩
 have eb:=ebound (x:=xs.getD 3 0) hl1
 have ea:=atL (ms:=ms) eb.1 eb.2
 obtain ⟨v,ev,hv⟩:=wmove_ok h1 h6 (getC (i:=(xs.getD 3 0%(ms.length:Int)).toNat) hm (by omega)) g1 g2
 exists ea,ev
 refine ⟨_,_,rfl,moor_m2 (ps:=ms.map fun m=>(mL m,m)) (j:=(xs.getD 3 0%(ms.length:Int)).toNat) (u:=v) (.inl rfl) h1 h6 hb (.inl ?_) (mvL hm) (by rw [List.length_map]; omega) (by rw [List.length_map]; omega) hv,noL_1l _ _⟩
 rw [psL]
--CUT
theorem cell_ok {ns:List Int} {k:Int} (h0:0<=k):Ok (f__law_cell_at [.scr (ns.map W.int),.int k]) fun w=>∃ z:Int,w=.int z:=by
 by_cases h:k<(ns.length:Int)
 ·exists rpB,m__law_cell_at,decide_eq_true h
  exact ⟨_,rfl,_,rfl⟩
 ·exists rpB,m__law_cell_at,decide_eq_false h
  exact ⟨_,rfl,_,rfl⟩
theorem counts_ok {zs:List Int} {k:Int} (hl:zs.length<=1000):Ok (f__law_counts [lI zs,.int k]) fun w=>∃ b:List Int,w=lI b/\b.length=zs.length/\cc b:=by
 have mem:∀ (f:Int->Int),(∀ x,0<=f x/\f x<=1000000000)->cc (zs.map f):=fun f hf x hx=>by
  obtain ⟨y,_,rfl⟩:=List.mem_map.mp hx
  exact hf y
 have e:∀ (f:Int->Int) N mg me ρ (h:∀ x∈zs,∃ ρ1,mg (.int x) (ρ++List.replicate (N-ρ.length) Sl.un)=some ρ1/\me ρ1=.ok (.int (f x))),mComp N mg yes me (zs.map W.int) ρ=.ok (lI (zs.map f)):=fun f N mg me ρ h=>by
  rw [mComp_all (fun x=>.int (f x)) W.int zs ρ hl h,mapI]
 exists rpB,m__law_counts
 refine ok_end (po_ifs (fun h=>?_) (fun h=>?_))
 ·exists rp18
  rw [e fun x=>x%1000000001]
  ·exists rp18
   exact ⟨_,rfl,by rw [List.length_map],mem _ fun x=>by omega⟩
  ·intro x hx
   refine ⟨_,rfl,?_⟩
   exists rp18
 ·exists rp18
  rw [e fun x=>x%3]
  ·exists rp18
   exact ⟨_,rfl,by rw [List.length_map],mem _ fun x=>by omega⟩
  ·intro x hx
   refine ⟨_,rfl,?_⟩
   exists rp18
theorem shp_mW (n:Nat) (m:Mv):shp (n+2) (mW m)=true:=by
 show (shp (n+1) (tI m.1)&&(shp (n+1) (tI m.2)&&true))=true
 rw [shp_tI,shp_tI]; rfl
theorem shp_moor (b:List Int) (ms:List Mv):shp 8 (.tup [tI b,tM_ ms])=true:=by
 show (shp 7 (tI b)&&(shp 7 (tM_ ms)&&true))=true
 rw [shp_tI,show shp 7 (tM_ ms)=true from shps_map mW 6 (shp_mW 4) ms]; rfl
theorem law_pure (ns:List Int) (h:ns.length<=63):f_law [.scr (ns.map W.int)]=.ok (.bl true):=by
 have fin:Ok (f_law [.scr (ns.map W.int)]) fun v=>v=.bl true:=by
  obtain ⟨_,c0,z0,rfl⟩:=cell_ok (ns:=ns) (k:=0) (by omega)
  obtain ⟨_,e0,xs,rfl,hxl,hxs⟩:=stream_ok (c:=z0) (sa:=1) (n:=10) (by omega) (by omega) (by omega) (by omega)
  replace hxl:xs.length=10:=hxl
  obtain ⟨n,hn⟩:∃ n:Nat,1+xs.getD 0 0%6=(n:Int):=⟨(1+xs.getD 0 0%6).toNat,by omega⟩
  have hn1:1<=n:=by omega
  have hn6:n<=6:=by omega
  obtain ⟨k,hk⟩:∃ k:Nat,1+xs.getD 2 0%8=(k:Int):=⟨(1+xs.getD 2 0%8).toNat,by omega⟩
  have hk1:1<=k:=by omega
  have hk8:k<=8:=by omega
  have cl:=cut_n (xs:=xs) 4 n (by omega)
  replace cl:(cutI xs (some 4) (some (4+(n:Int)))).length=n:=cl
  obtain ⟨_,e1,b,rfl,hbl,hbc⟩:=counts_ok (zs:=cutI xs (some 4) (some (4+(n:Int)))) (k:=xs.getD 1 0) (by omega)
  rw [cl] at hbl
  exists rpB,m_law,c0,e0,hn,hk,e1
  refine ok_end (po_cut (fun ρ=>∃ (ms:List Mv) (a5 a6:Sl),ρ = [.par (.scr (ns.map W.int)),.own (xs.map W.int),.val (.int n),.own (b.map W.int),.own (ms.map mL),a5,a6,.un,.un]/\ms.length=k/\(∀ m∈ms,okC n m)/\(a6=.un\/∃ ys:List W,a6=.own ys)) ?_ ?_)
  ·refine po_for (fun i ρ=>∃ (ms:List Mv) (a5 a6:Sl),ρ = [.par (.scr (ns.map W.int)),.own (xs.map W.int),.val (.int n),.own (b.map W.int),.own (ms.map mL),a5,a6,.un,.un]/\ms.length=i/\(∀ m∈ms,okC n m)/\(a6=.un\/∃ ys:List W,a6=.own ys)) ⟨[],_,_,rfl,rfl,(fun _ h=>nomatch h),.inl rfl⟩ ?_ ?_
   ·rintro i u ρ hu ⟨ms,a5,a6,rfl,hml,hmo,ha6⟩
    obtain ⟨hi,rfl⟩:=rng_at hu
    obtain ⟨_,c1,z1,rfl⟩:=cell_ok (ns:=ns) (k:=2+(i:Int)) (by omega)
    obtain ⟨_,e2,ys,rfl,hyl,hys⟩:=stream_ok (c:=z1) (sa:=2+(i:Int)) (n:=13) (by omega) (by omega) (by omega) (by omega)
    replace hyl:ys.length=13:=hyl
    have cl1:=cut_n (xs:=ys) 1 n (by omega)
    replace cl1:(cutI ys (some 1) (some (1+(n:Int)))).length=n:=cl1
    have cl2:=cut_n (xs:=ys) 7 n (by omega)
    replace cl2:(cutI ys (some 7) (some (7+(n:Int)))).length=n:=cl2
    obtain ⟨_,f1,t,rfl,htl,htc⟩:=counts_ok (zs:=cutI ys (some 1) (some (1+(n:Int)))) (k:=ys.getD 0 0) (by omega)
    obtain ⟨_,f2,p,rfl,hpl,hpc⟩:=counts_ok (zs:=cutI ys (some 7) (some (7+(n:Int)))) (k:=ys.getD 0 0/2) (by omega)
    rw [cl1] at htl
    rw [cl2] at hpl
    have hk63:ms.length<=63:=by omega
    refine ⟨_,rfl,?_⟩
    exists c1,e2,f1,f2
    refine ⟨ms ++ [(t,p)],_,_,by rw [List.map_append]; rfl,by rw [List.length_append]; simp only [List.length_cons,List.length_nil]; omega,(fun m hm=>?_),.inr ⟨_,rfl⟩⟩
    rcases List.mem_append.mp hm with h | h
    ·exact hmo m h
    ·rw [List.mem_singleton.mp h]; exact ⟨htl,hpl,htc,hpc⟩
   ·rintro ρ ⟨ms,a5,a6,rfl,hml,hmo,ha6⟩
    exact ⟨ms,a5,a6,rfl,by simpa using hml,hmo,ha6⟩
  rintro ρ ⟨ms,a5,a6,rfl,hml,hmo,ha6⟩
  obtain ⟨s6,fz⟩:∃ s,∀ x0 x1 x2 x3 x4 x5 x7 x8:Sl,frzS (some a6) 6 [x0,x1,x2,x3,x4,x5,a6,x7,x8] = [x0,x1,x2,x3,x4,x5,s,x7,x8]:=by
   rcases ha6 with rfl | ⟨ys,rfl⟩
   ·exact ⟨.un,fun _ _ _ _ _ _ _ _=>rfl⟩
   ·exact ⟨.val (.lst ys),fun _ _ _ _ _ _ _ _=>rfl⟩
  obtain ⟨_,c2,z2,rfl⟩:=cell_ok (ns:=ns) (k:=1) (by omega)
  obtain ⟨_,e3,vs,rfl,hvl,hvs⟩:=stream_ok (c:=z2) (sa:=12) (n:=4) (by omega) (by omega) (by omega) (by omega)
  replace hvl:vs.length=4:=hvl
  obtain ⟨_,e4,wb,wm,rfl,hbad,hno⟩:=spoiled_ok (b:=b) (xs:=vs) (ms:=ms) (by omega) (by omega) hbc (by rw [hbl]; exact hmo) (by omega) (by omega) hvl hvs
  have sx:∀ ρ,setX 7 [3,8,4,1,6] (.tup [wb,wm]) ρ=(frzL [3,8,4,1,6] ρ).set 7 (.val (.tup [wb,wm])):=fun ρ=>setX_l hno
  have k1:=fun t=>refused_ok hbad t
  have k2:=calm_ok (moor_ok (wb:=lI b) (wm:=.lst (ms.map mL)) (b:=b) (ps:=ms.map fun m=>(mL m,m)) (.inl rfl) (.inl (by rw [psL])) (by omega) (by omega) hbc (by rw [hbl]; exact mvL hmo) (by rw [List.length_map]; omega))
  rw [psR] at k2
  have a0:L2.atI [wb,wm] 0=some wb:=rfl
  have a1:L2.atI [wb,wm] 1=some wm:=rfl
  have b0:∀ x y:W,L2.atI [x,y] 0=some x:=fun _ _=>rfl
  have b1:∀ x y:W,L2.atI [x,y] 1=some y:=fun _ _=>rfl
  have hEq:=fEq_self (neg:=true) (shp_moor b ms)
  exists fz,c2,e3,e4,sx,a0,a1,k1,k2
  rw [mComp_all mW mL ms _ (by omega)]
  ·exists hEq,a0,a1,k1
  ·intro m hm
   refine ⟨_,rfl,?_⟩
   exists b0,b1
 obtain ⟨v,e,rfl⟩:=fin
 exact e
end K05
set_option maxHeartbeats 4000000
open PySem L2 TP
namespace K05
def xAdd {K:Frag} {d:Mode}:=(o2_I0 (K:=K) (d:=d) (g:=gAdd) (fun _ _=>rfl) (fun _ _ _=>.int))
def xLt {K:Frag} {d:Mode}:=(o2_I0 (K:=K) (d:=d) (g:=gLt) (fun _ _=>rfl) (fun _ _ _=>.bl))
def xLe {K:Frag} {d:Mode}:=(o2_I0 (K:=K) (d:=d) (g:=gLe) (fun _ _=>rfl) (fun _ _ _=>.bl))
local macro_rules | `(tactic| trivial)=>`(tactic| first | exact Or.inl rfl | exact Or.inr rfl | exact Or.inr (Or.inl rfl) | exact Or.inr (Or.inr rfl) | assumption | exact ⟨rfl,rfl,rfl,by decide +kernel,rfl,by decide +kernel,by decide +kernel⟩ | exact Room.mono (by assumption) (by decide) | exact nomark _ | rfl | exact ⟨rfl,by decide +kernel,by decide +kernel,by decide +kernel,by decide +kernel,by decide,by decide +kernel,by decide +kernel⟩)
def top (i:Nat):Stmt:=PySem.Challenge.pw_tokenmoor_k05_no_moor.main.body.getD i (.Pass ⟨0,0,0,0⟩)
abbrev sis_count:Stmt:=top 11
abbrev smoor:Stmt:=top 12
abbrev smade_move:Stmt:=top 13
abbrev smade_counts:Stmt:=top 14
abbrev smust_be_listed:Stmt:=top 15
abbrev s_law_cell_at:Stmt:=top 17
abbrev s_law_stream:Stmt:=top 18
abbrev s_law_counts:Stmt:=top 19
abbrev s_law_no_count:Stmt:=top 20
abbrev s_law_no_list:Stmt:=top 21
abbrev s_law_wrong_part:Stmt:=top 22
abbrev s_law_wrong_move:Stmt:=top 23
abbrev s_law_spoiled:Stmt:=top 24
abbrev s_law_no_moor:Stmt:=top 25
abbrev s_law_refused:Stmt:=top 26
abbrev slaw:Stmt:=top 27
structure Blt (mg:Str->Option Value):Prop where
 ValueError_:mg "ValueError" = none
 bool_:mg "bool" = none
 int_:mg "int" = none
 isinstance_:mg "isinstance" = none
 len_:mg "len" = none
 list_:mg "list" = none
 range_:mg "range" = none
 str_:mg "str" = none
 tuple_:mg "tuple" = none
structure Cst (mg:Str->Option Value):Prop where
 GREATEST_COUNT:∃ t,mg "GREATEST_COUNT" = some (.int 1000000000 t)
 MOST_PLACES:∃ t,mg "MOST_PLACES" = some (.int 6 t)
 MOST_MOVES:∃ t,mg "MOST_MOVES" = some (.int 8 t)
theorem scis_count:FnScope ["thing"] ["thing"] (defScope sis_count):=by trivial
theorem scmoor:FnScope ["begin", "moves", "many", "stand"] ["begin", "moves"] (defScope smoor):=by trivial
theorem scmade_move:FnScope ["move", "many"] ["move", "many"] (defScope smade_move):=by trivial
theorem scmade_counts:FnScope ["things", "what", "many", "thing"] ["things", "what", "many"] (defScope smade_counts):=by trivial
theorem scmust_be_listed:FnScope ["things", "what", "fewest", "most"] ["things", "what", "fewest", "most"] (defScope smust_be_listed):=by trivial
theorem sc_law_cell_at:FnScope ["_law_script", "_law_k"] ["_law_script", "_law_k"] (defScope s_law_cell_at):=by trivial
theorem sc_law_stream:FnScope ["_law_cell", "_law_salt", "_law_many", "_law_found", "_law_number", "_law_k"] ["_law_cell", "_law_salt", "_law_many"] (defScope s_law_stream):=by trivial
theorem sc_law_counts:FnScope ["_law_xs", "_law_kind"] ["_law_xs", "_law_kind"] (defScope s_law_counts):=by trivial
theorem sc_law_no_count:FnScope ["_law_x", "_law_some"] ["_law_x"] (defScope s_law_no_count):=by trivial
theorem sc_law_no_list:FnScope ["_law_x"] ["_law_x"] (defScope s_law_no_list):=by trivial
theorem sc_law_wrong_part:FnScope ["_law_part", "_law_x", "_law_y"] ["_law_part", "_law_x", "_law_y"] (defScope s_law_wrong_part):=by trivial
theorem sc_law_wrong_move:FnScope ["_law_move", "_law_x", "_law_y", "_law_form", "_law_side", "_law_part"] ["_law_move", "_law_x", "_law_y"] (defScope s_law_wrong_move):=by trivial
theorem sc_law_spoiled:FnScope ["_law_begin", "_law_moves", "_law_xs", "_law_form", "_law_seven", "_law_wrong", "_law_at"] ["_law_begin", "_law_moves", "_law_xs"] (defScope s_law_spoiled):=by trivial
theorem sc_law_no_moor:FnScope ["_law_error"] ["_law_error"] (defScope s_law_no_moor):=by trivial
theorem sc_law_refused:FnScope ["_law_begin", "_law_moves", "_law_base", "_law_caught", "_law_error"] ["_law_begin", "_law_moves", "_law_base"] (defScope s_law_refused):=by trivial
theorem sclaw:FnScope ["_law_script", "_law_xs", "_law_many", "_law_begin", "_law_moves", "_law_k", "_law_ys", "_law_wrong", "_law_found"] ["_law_script"] (defScope slaw):=by trivial
structure Xf (K:Frag) (mg:Str->Option Value) (c_MoorError c_NoMoor c_NoName c_NoRow c_NoText c_Stuck:Addr):Prop where
 mk0:XMk0 K c_NoMoor
 is:XIs K c_NoMoor
 nd:∀ C,PySem.W.nsIn K mainGlobals ".d" ≠ some (some (.ref C))
 ns_MoorError:PySem.W.nsIn K mainGlobals "MoorError" = some (some (.ref c_MoorError))
 m_MoorError:mg "MoorError" = some (.ref c_MoorError)
 ns_NoMoor:PySem.W.nsIn K mainGlobals "NoMoor" = some (some (.ref c_NoMoor))
 m_NoMoor:mg "NoMoor" = some (.ref c_NoMoor)
 ns_NoName:PySem.W.nsIn K mainGlobals "NoName" = some (some (.ref c_NoName))
 m_NoName:mg "NoName" = some (.ref c_NoName)
 ns_NoRow:PySem.W.nsIn K mainGlobals "NoRow" = some (some (.ref c_NoRow))
 m_NoRow:mg "NoRow" = some (.ref c_NoRow)
 ns_NoText:PySem.W.nsIn K mainGlobals "NoText" = some (some (.ref c_NoText))
 m_NoText:mg "NoText" = some (.ref c_NoText)
 ns_Stuck:PySem.W.nsIn K mainGlobals "Stuck" = some (some (.ref c_Stuck))
 m_Stuck:mg "Stuck" = some (.ref c_Stuck)
 ex_MoorError:PySem.W.exmOne K (.ref c_NoMoor) (.ref c_MoorError)=some true
 ex_NoMoor:PySem.W.exmOne K (.ref c_NoMoor) (.ref c_NoMoor)=some true
 ki_MoorError:PySem.W.kitOne K (.ref c_NoMoor) (.ref c_MoorError)=some true
 ki_NoMoor:PySem.W.kitOne K (.ref c_NoMoor) (.ref c_NoMoor)=some true
 ki_NoName:PySem.W.kitOne K (.ref c_NoMoor) (.ref c_NoName)=some false
 ki_NoRow:PySem.W.kitOne K (.ref c_NoMoor) (.ref c_NoRow)=some false
 ki_NoText:PySem.W.kitOne K (.ref c_NoMoor) (.ref c_NoText)=some false
 ki_Stuck:PySem.W.kitOne K (.ref c_NoMoor) (.ref c_Stuck)=some false
 kt_ValueError:PySem.W.kitOne K (.ref c_NoMoor) (.type "ValueError")=some true
theorem q_compn {X:Cx} {K:Frag} {EX:EXT} {cs:Scope} {N':List Str} {n:Nat} {tg iter elt:Expr} {ifs:List Expr} {dd:Mode} {g:TG} {mg:W->Rho->Option Rho} {mi:Rho->R (List W)} {ta:Rho->R Bool} {ma:Rho->R W} {pos:Pos} (S:CompScope X.env.scope cs X.N N') (hc:X.calm=true) (hi:PI X tg iter (tIt K EX false dd mi))
  (hg:∀ cl ex s H,PG (cxComp X cs cl N' ex s H) tg g) (hgt:Gt K dd g mg) (hk:GKeep X.N.length g) (ht:∀ cl ex s H,PIf (cxComp X cs cl N' ex s H) ifs (tT K EX ta)) (he:∀ cl ex s H,PE (cxComp X cs cl N' ex s H) elt (tM K EX .V ma))
  (hn:N'.length=n:=by rfl) (hs:∀ x,foldedSetIterable iter X.env x=pure x:=by intro _; rfl):PE X (.ListComp elt [⟨tg,iter,ifs,0⟩] cs pos) (tM K EX .F (vComp n mi mg ta ma)):=by
 subst hn; exact q_comp S hc hi hg hgt hk ht he hs
section
variable {P:Program} {w:World} {K:Frag} {mg:Str->Option Value} {base:Heap}
theorem okis_count {f:Addr} {fd:FuncData} (D:Def K mg "is_count" sis_count ["thing"] f fd) (B:Blt mg) (C:Cst mg):FnOk P w K mg base CX0 1 f fd ["thing"] (spM K 1 .F (f_is_count)):=by
 refine D.F.ok scis_count (fun vs H Q E h=>h.1) (fun cdv A outer s H vs Q E hr h=>?_)
 obtain ⟨tkGREATEST_COUNT,hcGREATEST_COUNT⟩:=C.GREATEST_COUNT
 exact ⟨tSt K (fun _ _=>False) .F m_is_count,(q_cons (q_if_ (PW.pt (q_tor (@q_val _ _ _ _ _ (@q_cb _ _ _ _ _ _ _ _ _ _ _ _ _ _ call_isi b_isi (by rfl) B.isinstance_ PyProof.Rows.boot_isinstance (q_acons (qv .B 0) (q_acons (@q_ty _ _ _ _ _ _ _ (by rfl) B.bool_ bt_bool (by decide) (by decide)) q_anil)) (by decide) (by decide) (by rfl) (by rfl)) (by intro _; rfl)) (q_tor1 (q_tnot (@q_val _ _ _ _ _ (@q_cb _ _ _ _ _ _ _ _ _ _ _ _ _ _ call_isi b_isi (by rfl) B.isinstance_ PyProof.Rows.boot_isinstance (q_acons (qv .B 0) (q_acons (@q_ty _ _ _ _ _ _ _ (by rfl) B.int_ bt_int (by decide) (by decide)) q_anil)) (by decide) (by decide) (by rfl) (by rfl)) (by intro _; rfl)))))) (q_last (q_ret q_bl)) q_nil) (q_last (q_ret (@q_chain _ _ _ _ _ _ _ _ _ _ _ _ _ _ _ _ _ _ op_le xLe op_le xLe q_int (qv .B 0) (@q_globI _ _ _ _ _ _ _ _ rfl hcGREATEST_COUNT (by decide)) (by with_unfolding_all rfl))))),
  c_body (n:=1) (Nl:=["thing"]) (.inl rfl) h⟩
theorem okmust_be_listed {f:Addr} {fd:FuncData} (D:Def K mg "must_be_listed" smust_be_listed ["things", "what", "fewest", "most"] f fd) (B:Blt mg) (C:Cst mg) {c_MoorError c_NoMoor c_NoName c_NoRow c_NoText c_Stuck:Addr} (XF:Xf K mg c_MoorError c_NoMoor c_NoName c_NoRow c_NoText c_Stuck):FnOk P w K mg base (CXW P w) 3 f fd ["things", "what", "fewest", "most"] (spR K 4 .F (f_must_be_listed)):=by
 refine D.F.okX scmust_be_listed (fun vs H Q E h=>h.1) (fun cdv A outer s H vs Q E hr h=>?_)
 exact ⟨tSt K (XE1 K E) .F m_must_be_listed,(q_cons (q_if_ (q_tnot (@q_val _ _ _ _ _ (@q_cb _ _ _ _ _ _ _ _ _ _ _ _ _ _ call_isiD (b_isiD XF.nd) (by rfl) B.isinstance_ PyProof.Rows.boot_isinstance (q_acons (qv .B 0) (q_acons (q_UB (q_tupU (q_acons (@q_ty _ _ _ _ _ _ _ (by rfl) B.list_ bt_list (by decide) (by decide)) (q_acons (@q_ty _ _ _ _ _ _ _ (by rfl) B.tuple_ bt_tuple (by decide) (by decide)) q_anil)))) q_anil)) (by decide) (by decide) (by rfl) (by rfl)) (by intro _; rfl))) (q_last (@q_raise0 _ _ _ _ _ _ _ _ _ _ _ _ _ _ _ _ _ _ _ _ _ _ _ _ XF.mk0 (by rfl) XF.m_NoMoor XF.ns_NoMoor (q_acons (q_fs (qv .B 1)) q_anil) (by decide) (by rfl) (by rfl))) q_nil) (q_last (q_if_ (q_tnot (@q_tchain _ _ _ _ _ _ _ _ _ _ _ _ _ _ _ _ _ op_le xLe op_le xLe (qv .B 2) (@q_cb _ _ _ _ _ _ _ _ _ _ _ _ _ _ K_len b_len (by rfl) B.len_ PySem.boot_len (q_acons (qv .B 0) q_anil) (by decide) (by decide) (by rfl) (by rfl)) (qv .B 3) (by with_unfolding_all rfl))) (q_last (@q_raise0 _ _ _ _ _ _ _ _ _ _ _ _ _ _ _ _ _ _ _ _ _ _ _ _ XF.mk0 (by rfl) XF.m_NoMoor XF.ns_NoMoor (q_acons (q_fs (qv .B 1)) q_anil) (by decide) (by rfl) (by rfl))) q_nil))),
  c_bodyR (n:=4) (Nl:=["things", "what", "fewest", "most"]) (.inl rfl) h⟩
theorem okmade_counts {f:Addr} {fd:FuncData} (D:Def K mg "made_counts" smade_counts ["things", "what", "many"] f fd) (B:Blt mg) (C:Cst mg) {fmust_be_listed:Addr} {fdmust_be_listed:FuncData} (Dmust_be_listed:Def K mg "must_be_listed" smust_be_listed ["things", "what", "fewest", "most"] fmust_be_listed fdmust_be_listed) (Gmust_be_listed:FnOk P w K mg base (CXW P w) 3 fmust_be_listed fdmust_be_listed ["things", "what", "fewest", "most"] (spR K 4 .F (f_must_be_listed))) {fis_count:Addr} {fdis_count:FuncData} (Dis_count:Def K mg "is_count" sis_count ["thing"] fis_count fdis_count) (Gis_count:FnOk P w K mg base CX0 1 fis_count fdis_count ["thing"] (spM K 1 .F (f_is_count))) {c_MoorError c_NoMoor c_NoName c_NoRow c_NoText c_Stuck:Addr} (XF:Xf K mg c_MoorError c_NoMoor c_NoName c_NoRow c_NoText c_Stuck):FnOk P w K mg base (CXW P w) 4 f fd ["things", "what", "many"] (spR K 3 .F (f_made_counts)):=by
 refine D.F.okX scmade_counts (fun vs H Q E h=>h.1) (fun cdv A outer s H vs Q E hr h=>?_)
 exact ⟨tSt K (XE1 K E) .F m_made_counts,(q_cons (@q_expr _ _ _ _ _ _ _ _ (@q_callP _ _ _ _ _ _ _ _ _ _ _ _ _ _ _ _ _ _ _ _ _ _ _ _ _ _ _ _ _ Gmust_be_listed (.inl rfl) (by trivial) (by rfl) Dmust_be_listed.m Dmust_be_listed.F.kp Dmust_be_listed.b (q_acons (qv .B 0) (q_acons (qv .B 1) (q_acons (qv .B 2) (q_acons (qv .B 2) q_anil)))) (by decide) (by rfl) (by rfl)) (by rfl)) (q_cons (@q_for _ _ _ _ _ _ _ _ _ _ _ _ _ passOwnC rfl (@q_iSqU _ _ _ _ _ _ (qv .U 0) (by rfl)) (@pg_name _ _ 3 _ scmade_counts.nd rfl (by trivial) (by trivial)) gt_U (q_last (q_if_ (q_tnot (@q_val _ _ _ _ _ (q_CB (q_FC (@q_callC _ _ _ _ _ _ _ _ _ _ _ _ _ _ _ _ _ Gis_count (.inl rfl) (by trivial) (by rfl) Dis_count.m Dis_count.F.kp Dis_count.b (q_acons (qv .B 3) q_anil) (by decide) (by rfl) (by rfl)))) (by intro _; rfl))) (q_last (@q_raise0 _ _ _ _ _ _ _ _ _ _ _ _ _ _ _ _ _ _ _ _ _ _ _ _ XF.mk0 (by rfl) XF.m_NoMoor XF.ns_NoMoor (q_acons (q_fs (qv .B 1)) q_anil) (by decide) (by rfl) (by rfl))) q_nil)) (by intro _; rfl)) (q_last (q_ret (@q_ct _ _ _ _ _ _ _ _ _ _ _ _ _ _ K_tup (b_tup (c:=false)) (by rfl) B.tuple_ bt_tuple (q_acons (qv .B 0) q_anil) (by decide) (by decide) (by rfl) (by rfl)))))),
  c_bodyR (n:=3) (Nl:=["things", "what", "many", "thing"]) (.inl rfl) h⟩
theorem okmade_move {f:Addr} {fd:FuncData} (D:Def K mg "made_move" smade_move ["move", "many"] f fd) (B:Blt mg) (C:Cst mg) {fmust_be_listed:Addr} {fdmust_be_listed:FuncData} (Dmust_be_listed:Def K mg "must_be_listed" smust_be_listed ["things", "what", "fewest", "most"] fmust_be_listed fdmust_be_listed) (Gmust_be_listed:FnOk P w K mg base (CXW P w) 3 fmust_be_listed fdmust_be_listed ["things", "what", "fewest", "most"] (spR K 4 .F (f_must_be_listed))) {fmade_counts:Addr} {fdmade_counts:FuncData} (Dmade_counts:Def K mg "made_counts" smade_counts ["things", "what", "many"] fmade_counts fdmade_counts) (Gmade_counts:FnOk P w K mg base (CXW P w) 4 fmade_counts fdmade_counts ["things", "what", "many"] (spR K 3 .F (f_made_counts))):FnOk P w K mg base (CXW P w) 5 f fd ["move", "many"] (spR K 2 .F (f_made_move)):=by
 refine D.F.okX scmade_move (fun vs H Q E h=>h.1) (fun cdv A outer s H vs Q E hr h=>?_)
 exact ⟨tSt K (XE1 K E) .F m_made_move,(q_cons (@q_expr _ _ _ _ _ _ _ _ (@q_callP _ _ _ _ _ _ _ _ _ _ _ _ _ _ _ _ _ _ _ _ _ _ _ _ _ _ _ _ _ Gmust_be_listed (.inl rfl) (by trivial) (by rfl) Dmust_be_listed.m Dmust_be_listed.F.kp Dmust_be_listed.b (q_acons (qv .B 0) (q_acons q_str (q_acons q_int (q_acons q_int q_anil)))) (by decide) (by rfl) (by rfl)) (by rfl)) (q_last (q_ret (q_tup (q_acons (q_FV (@q_callP _ _ _ _ _ _ _ _ _ _ _ _ _ _ _ _ _ _ _ _ _ _ _ _ _ _ _ _ _ Gmade_counts (.inl rfl) (by trivial) (by rfl) Dmade_counts.m Dmade_counts.F.kp Dmade_counts.b (q_acons (q_UB (q_ixU (qv .B 0) q_int)) (q_acons q_str (q_acons (qv .B 1) q_anil))) (by decide) (by rfl) (by rfl))) (q_acons (q_FV (@q_callP _ _ _ _ _ _ _ _ _ _ _ _ _ _ _ _ _ _ _ _ _ _ _ _ _ _ _ _ _ Gmade_counts (.inl rfl) (by trivial) (by rfl) Dmade_counts.m Dmade_counts.F.kp Dmade_counts.b (q_acons (q_UB (q_ixU (qv .B 0) q_int)) (q_acons q_str (q_acons (qv .B 1) q_anil))) (by decide) (by rfl) (by rfl))) q_anil)))))),
  c_bodyR (n:=2) (Nl:=["move", "many"]) (.inl rfl) h⟩
theorem okmoor {f:Addr} {fd:FuncData} (D:Def K mg "moor" smoor ["begin", "moves"] f fd) (B:Blt mg) (C:Cst mg) {fmust_be_listed:Addr} {fdmust_be_listed:FuncData} (Dmust_be_listed:Def K mg "must_be_listed" smust_be_listed ["things", "what", "fewest", "most"] fmust_be_listed fdmust_be_listed) (Gmust_be_listed:FnOk P w K mg base (CXW P w) 3 fmust_be_listed fdmust_be_listed ["things", "what", "fewest", "most"] (spR K 4 .F (f_must_be_listed))) {fmade_counts:Addr} {fdmade_counts:FuncData} (Dmade_counts:Def K mg "made_counts" smade_counts ["things", "what", "many"] fmade_counts fdmade_counts) (Gmade_counts:FnOk P w K mg base (CXW P w) 4 fmade_counts fdmade_counts ["things", "what", "many"] (spR K 3 .F (f_made_counts))) {fmade_move:Addr} {fdmade_move:FuncData} (Dmade_move:Def K mg "made_move" smade_move ["move", "many"] fmade_move fdmade_move) (Gmade_move:FnOk P w K mg base (CXW P w) 5 fmade_move fdmade_move ["move", "many"] (spR K 2 .F (f_made_move))):FnOk P w K mg base (CXW P w) 6 f fd ["begin", "moves"] (spR K 2 .F (f_moor)):=by
 refine D.F.okX scmoor (fun vs H Q E h=>h.1) (fun cdv A outer s H vs Q E hr h=>?_)
 obtain ⟨tkMOST_PLACES,hcMOST_PLACES⟩:=C.MOST_PLACES
 obtain ⟨tkMOST_MOVES,hcMOST_MOVES⟩:=C.MOST_MOVES
 exact ⟨tSt K (XE1 K E) .F m_moor,(q_cons (@q_expr _ _ _ _ _ _ _ _ (@q_callP _ _ _ _ _ _ _ _ _ _ _ _ _ _ _ _ _ _ _ _ _ _ _ _ _ _ _ _ _ Gmust_be_listed (.inl rfl) (by trivial) (by rfl) Dmust_be_listed.m Dmust_be_listed.F.kp Dmust_be_listed.b (q_acons (qv .B 0) (q_acons q_str (q_acons q_int (q_acons (@q_globI _ _ _ _ _ _ _ _ rfl hcMOST_PLACES (by decide)) q_anil)))) (by decide) (by rfl) (by rfl)) (by rfl)) (q_cons (@q_setF _ _ _ _ _ _ _ 2 _ _ scmoor.nd rfl (by trivial) (@q_cb _ _ _ _ _ _ _ _ _ _ _ _ _ _ K_len b_len (by rfl) B.len_ PySem.boot_len (q_acons (qv .B 0) q_anil) (by decide) (by decide) (by rfl) (by rfl)) (by rfl) (by trivial)) (q_cons (@q_setF _ _ _ _ _ _ _ 3 _ _ scmoor.nd rfl (by trivial) (@q_callP _ _ _ _ _ _ _ _ _ _ _ _ _ _ _ _ _ _ _ _ _ _ _ _ _ _ _ _ _ Gmade_counts (.inl rfl) (by trivial) (by rfl) Dmade_counts.m Dmade_counts.F.kp Dmade_counts.b (q_acons (qv .B 0) (q_acons q_str (q_acons (qv .B 2) q_anil))) (by decide) (by rfl) (by rfl)) (by rfl) (by trivial)) (q_cons (@q_expr _ _ _ _ _ _ _ _ (@q_callP _ _ _ _ _ _ _ _ _ _ _ _ _ _ _ _ _ _ _ _ _ _ _ _ _ _ _ _ _ Gmust_be_listed (.inl rfl) (by trivial) (by rfl) Dmust_be_listed.m Dmust_be_listed.F.kp Dmust_be_listed.b (q_acons (qv .B 1) (q_acons q_str (q_acons q_int (q_acons (@q_globI _ _ _ _ _ _ _ _ rfl hcMOST_MOVES (by decide)) q_anil)))) (by decide) (by rfl) (by rfl)) (by rfl)) (q_last (q_frz (q_ret (q_tup (q_acons (qv .V 3) (q_acons (q_FV (@q_ct _ _ _ _ _ _ _ _ _ _ _ _ _ _ K_tup (b_tup (c:=true)) (by rfl) B.tuple_ bt_tuple (q_acons (q_FC (@q_compX _ _ _ _ _ _ _ _ _ _ _ _ _ _ _ _ _ _ _ _ _ _ _ _ _ _ (show CompScope (defScope smoor) _ ["begin", "moves", "many", "stand"] ["begin", "moves", "many", "stand", "move"] from by trivial) (@q_iSqB _ _ _ _ _ _ (qv .B 1) (by rfl)) (fun _ _ _ _=>(@pg_name _ _ 4 _ (by decide +kernel:(["begin", "moves", "many", "stand", "move"]:List Str).Nodup) rfl (Or.inl rfl) (.inr rfl))) gt_U (gk_name (show 4<=4 by decide)) (fun _ _ _ _=>(q_FV (@q_callCX _ _ _ _ _ _ _ _ _ _ _ _ _ _ _ _ _ _ _ _ _ _ _ _ _ _ _ _ _ _ _ _ _ _ _ Gmade_move (.inl rfl) (by trivial) (by rfl) Dmade_move.m Dmade_move.F.kp Dmade_move.b (q_acons (qv .B 4) (q_acons (qv .B 2) q_anil)) (by decide) (by rfl) (by rfl)))) (by intro _; rfl))) q_anil) (by decide) (by decide) (by rfl) (by rfl))) q_anil)))))))))),
  c_bodyR (n:=2) (Nl:=["begin", "moves", "many", "stand"]) (.inl rfl) h⟩
theorem ok_law_cell_at {f:Addr} {fd:FuncData} (D:Def K mg "_law_cell_at" s_law_cell_at ["_law_script", "_law_k"] f fd) (B:Blt mg) (C:Cst mg):FnOk P w K mg base CX0 1 f fd ["_law_script", "_law_k"] (spM K 2 .F (f__law_cell_at)):=by
 refine D.F.ok sc_law_cell_at (fun vs H Q E h=>h.1) (fun cdv A outer s H vs Q E hr h=>?_)
 exact ⟨tSt K (fun _ _=>False) .F m__law_cell_at,(q_cons (q_if_ (@q_tcmp _ _ _ _ _ _ _ _ _ _ _ _ op_lt xLt (qv .B 1) (@q_cb _ _ _ _ _ _ _ _ _ _ _ _ _ _ K_len b_len (by rfl) B.len_ PySem.boot_len (q_acons (qv .B 0) q_anil) (by decide) (by decide) (by rfl) (by rfl)) (by trivial)) (q_last (q_ret (q_chkF (q_ixU (qv .B 0) (qv .B 1))))) q_nil) (q_last (q_ret q_int))),
  c_body (n:=2) (Nl:=["_law_script", "_law_k"]) (.inl rfl) h⟩
theorem ok_law_stream {f:Addr} {fd:FuncData} (D:Def K mg "_law_stream" s_law_stream ["_law_cell", "_law_salt", "_law_many"] f fd) (B:Blt mg) (C:Cst mg):FnOk P w K mg base CX0 1 f fd ["_law_cell", "_law_salt", "_law_many"] (spM K 3 .F (f__law_stream)):=by
 refine D.F.ok sc_law_stream (fun vs H Q E h=>h.1) (fun cdv A outer s H vs Q E hr h=>?_)
 exact ⟨tSt K (fun _ _=>False) .F m__law_stream,(q_cons (@q_setF _ _ _ _ _ _ _ 3 _ _ sc_law_stream.nd rfl (by trivial) (q_lst q_anil) (by rfl) (by trivial)) (q_cons (@q_setV _ _ _ _ _ _ _ 4 _ _ sc_law_stream.nd rfl (by trivial) (q_op op_mod (o2_I (C:=cMod) (g:=gMod) (fun _ _=>rfl) (fun _ _ _=>.int)) (q_op op_add xAdd (q_op op_add xAdd (q_op op_mul (o2_I (C:=CMul) (g:=gMul) (fun _ _=>rfl) (fun _ _ _=>.int)) (q_op op_mod (o2_I (C:=cMod) (g:=gMod) (fun _ _=>rfl) (fun _ _ _=>.int)) (qv .B 0) q_int) q_int) (q_op op_mul (o2_I (C:=CMul) (g:=gMul) (fun _ _=>rfl) (fun _ _ _=>.int)) (q_op op_mul (o2_I (C:=CMul) (g:=gMul) (fun _ _=>rfl) (fun _ _ _=>.int)) (qv .B 1) (qv .B 1)) q_int)) q_int) q_int) (by rfl) (by trivial)) (q_cons (@q_for _ _ _ _ _ _ _ _ _ _ _ _ _ PassesOwn.never rfl (@q_rng1 _ _ _ _ _ _ _ _ _ (by rfl) B.range_ (q_acons (qv .B 2) q_anil) (by rfl)) (@pg_name _ _ 5 _ sc_law_stream.nd rfl (by trivial) (by trivial)) gt_U (q_cons (@q_setV _ _ _ _ _ _ _ 4 _ _ sc_law_stream.nd rfl (by trivial) (q_op op_mod (o2_I (C:=cMod) (g:=gMod) (fun _ _=>rfl) (fun _ _ _=>.int)) (q_op op_add xAdd (q_op op_add xAdd (q_op op_add xAdd (q_op op_mul (o2_I (C:=CMul) (g:=gMul) (fun _ _=>rfl) (fun _ _ _=>.int)) (qv .B 4) (qv .B 4)) (q_op op_mul (o2_I (C:=CMul) (g:=gMul) (fun _ _=>rfl) (fun _ _ _=>.int)) q_int (qv .B 4))) (qv .B 5)) (qv .B 1)) q_int) (by rfl) (by trivial)) (q_last (@q_app _ _ _ _ _ _ _ 3 _ _ _ _ rfl (by trivial) (qv .V 4) (by decide) (by decide) (by rfl) (by rfl) (by rfl) (by rfl) (by rfl)))) (by intro _; rfl)) (q_last (@q_retv _ _ _ _ _ 3 _ _ (.inl rfl) (by rfl) (by trivial) (by decide) (by decide)))))),
  c_body (n:=3) (Nl:=["_law_cell", "_law_salt", "_law_many", "_law_found", "_law_number", "_law_k"]) (.inl rfl) h⟩
theorem ok_law_counts {f:Addr} {fd:FuncData} (D:Def K mg "_law_counts" s_law_counts ["_law_xs", "_law_kind"] f fd) (B:Blt mg) (C:Cst mg):FnOk P w K mg base CX0 1 f fd ["_law_xs", "_law_kind"] (spM K 2 .F (f__law_counts)):=by
 refine D.F.ok sc_law_counts (fun vs H Q E h=>h.1) (fun cdv A outer s H vs Q E hr h=>?_)
 exact ⟨tSt K (fun _ _=>False) .F m__law_counts,(q_cons (q_if_ (@q_tcmp _ _ _ _ _ _ _ _ _ _ _ _ op_eq o2_eqS (q_op op_mod (o2_I (C:=cMod) (g:=gMod) (fun _ _=>rfl) (fun _ _ _=>.int)) (qv .B 1) q_int) q_int (by trivial)) (q_last (q_ret (q_compn (show CompScope (defScope s_law_counts) _ ["_law_xs", "_law_kind"] ["_law_xs", "_law_kind", "_law_x"] from by trivial) rfl (@q_iSqB _ _ _ _ _ _ (qv .B 0) (by rfl)) (fun _ _ _ _=>(@pg_name _ _ 2 _ (by decide +kernel:(["_law_xs", "_law_kind", "_law_x"]:List Str).Nodup) rfl (Or.inl rfl) (.inr rfl))) gt_U (gk_name (show 2<=2 by decide)) (fun _ _ _ _=>q_pifN) (fun _ _ _ _=>(q_op op_mod (o2_I (C:=cMod) (g:=gMod) (fun _ _=>rfl) (fun _ _ _=>.int)) (qv .B 2) q_int))))) q_nil) (q_last (q_ret (q_compn (show CompScope (defScope s_law_counts) _ ["_law_xs", "_law_kind"] ["_law_xs", "_law_kind", "_law_x"] from by trivial) rfl (@q_iSqB _ _ _ _ _ _ (qv .B 0) (by rfl)) (fun _ _ _ _=>(@pg_name _ _ 2 _ (by decide +kernel:(["_law_xs", "_law_kind", "_law_x"]:List Str).Nodup) rfl (Or.inl rfl) (.inr rfl))) gt_U (gk_name (show 2<=2 by decide)) (fun _ _ _ _=>q_pifN) (fun _ _ _ _=>(q_op op_mod (o2_I (C:=cMod) (g:=gMod) (fun _ _=>rfl) (fun _ _ _=>.int)) (qv .B 2) q_int)))))),
  c_body (n:=2) (Nl:=["_law_xs", "_law_kind"]) (.inl rfl) h⟩
theorem ok_law_no_count {f:Addr} {fd:FuncData} (D:Def K mg "_law_no_count" s_law_no_count ["_law_x"] f fd) (B:Blt mg) (C:Cst mg):FnOk P w K mg base CX0 1 f fd ["_law_x"] (spM K 1 .V (f__law_no_count)):=by
 refine D.F.ok sc_law_no_count (fun vs H Q E h=>h.1) (fun cdv A outer s H vs Q E hr h=>?_)
 exact ⟨tSt K (fun _ _=>False) .V m__law_no_count,(q_cons (@q_setF _ _ _ _ _ _ _ 1 _ _ sc_law_no_count.nd rfl (by trivial) (q_lst (q_acons (q_un un_neg (o1_U (g:=gNeg) (fun _=>rfl) (fun _ _=>.int)) q_int) (q_acons q_int (q_acons q_bl (q_acons q_bl (q_acons q_non (q_acons (@q_ct _ _ _ _ _ _ _ _ _ _ _ _ _ _ call_str_int b_str (by rfl) B.str_ bt_str (q_acons (q_op op_mod (o2_I (C:=cMod) (g:=gMod) (fun _ _=>rfl) (fun _ _ _=>.int)) (qv .B 0) q_int) q_anil) (by decide) (by decide) (by rfl) (by rfl)) (q_acons (q_FV (q_lst (q_acons (q_op op_mod (o2_I (C:=cMod) (g:=gMod) (fun _ _=>rfl) (fun _ _ _=>.int)) (qv .B 0) q_int) q_anil))) (q_acons (q_FV (q_tup (q_acons (q_op op_mod (o2_I (C:=cMod) (g:=gMod) (fun _ _=>rfl) (fun _ _ _=>.int)) (qv .B 0) q_int) q_anil))) (q_acons (q_op op_pow (o2_I (C:=CPow) (g:=gPow) (fun _ _=>rfl) (fun _ _ _=>.int)) q_int q_int) (q_acons (q_op op_sub (o2_I0 (g:=gSub) (fun _ _=>rfl) (fun _ _ _=>.int)) q_int (q_op op_pow (o2_I (C:=CPow) (g:=gPow) (fun _ _=>rfl) (fun _ _ _=>.int)) q_int q_int)) q_anil))))))))))) (by rfl) (by trivial)) (q_last (q_ret (q_ixV (qv .C 1) (q_op op_mod (o2_I (C:=cMod) (g:=gMod) (fun _ _=>rfl) (fun _ _ _=>.int)) (q_op op_fdiv (o2_I (C:=CDiv) (g:=gDiv) (fun _ _=>rfl) (fun _ _ _=>.int)) (qv .B 0) q_int) q_int))))),
  c_body (n:=1) (Nl:=["_law_x", "_law_some"]) (.inr rfl) h⟩
theorem ok_law_no_list {f:Addr} {fd:FuncData} (D:Def K mg "_law_no_list" s_law_no_list ["_law_x"] f fd) (B:Blt mg) (C:Cst mg) {c_MoorError c_NoMoor c_NoName c_NoRow c_NoText c_Stuck:Addr} (XF:Xf K mg c_MoorError c_NoMoor c_NoName c_NoRow c_NoText c_Stuck):FnOk P w K mg base CX0 1 f fd ["_law_x"] (spM K 1 .V (f__law_no_list)):=by
 refine D.F.ok sc_law_no_list (fun vs H Q E h=>h.1) (fun cdv A outer s H vs Q E hr h=>?_)
 exact ⟨tSt K (fun _ _=>False) .V m__law_no_list,(q_last (q_ret (q_ixV (q_FC (q_lst (q_acons (q_op op_mod (o2_I (C:=cMod) (g:=gMod) (fun _ _=>rfl) (fun _ _ _=>.int)) (qv .B 0) q_int) (q_acons q_non (q_acons q_str (q_acons q_str (q_acons q_bl (q_acons (q_dct XF.nd q_int (q_op op_mod (o2_I (C:=cMod) (g:=gMod) (fun _ _=>rfl) (fun _ _ _=>.int)) (qv .B 0) q_int)) q_anil)))))))) (q_op op_mod (o2_I (C:=cMod) (g:=gMod) (fun _ _=>rfl) (fun _ _ _=>.int)) (q_op op_fdiv (o2_I (C:=CDiv) (g:=gDiv) (fun _ _=>rfl) (fun _ _ _=>.int)) (qv .B 0) q_int) q_int)))),
  c_body (n:=1) (Nl:=["_law_x"]) (.inr rfl) h⟩
theorem ok_law_wrong_part {f:Addr} {fd:FuncData} (D:Def K mg "_law_wrong_part" s_law_wrong_part ["_law_part", "_law_x", "_law_y"] f fd) (B:Blt mg) (C:Cst mg) {f_law_no_list:Addr} {fd_law_no_list:FuncData} (D_law_no_list:Def K mg "_law_no_list" s_law_no_list ["_law_x"] f_law_no_list fd_law_no_list) (G_law_no_list:FnOk P w K mg base CX0 1 f_law_no_list fd_law_no_list ["_law_x"] (spM K 1 .V (f__law_no_list))):FnOk P w K mg base CX0 2 f fd ["_law_part", "_law_x", "_law_y"] (spM K 3 .V (f__law_wrong_part)):=by
 refine D.F.ok sc_law_wrong_part (fun vs H Q E h=>h.1) (fun cdv A outer s H vs Q E hr h=>?_)
 exact ⟨tSt K (fun _ _=>False) .V m__law_wrong_part,(q_cons (q_if_ (@q_tcmp _ _ _ _ _ _ _ _ _ _ _ _ op_eq o2_eqS (q_op op_mod (o2_I (C:=cMod) (g:=gMod) (fun _ _=>rfl) (fun _ _ _=>.int)) (qv .B 1) q_int) q_int (by trivial)) (q_last (q_ret (@q_call _ _ _ _ _ _ _ _ _ _ _ _ _ _ _ _ G_law_no_list (.inr rfl) (by trivial) (by rfl) D_law_no_list.m D_law_no_list.F.kp D_law_no_list.b (q_acons (qv .B 2) q_anil) (by decide) (by rfl) (by rfl)))) q_nil) (q_cons (q_if_ (@q_tcmp _ _ _ _ _ _ _ _ _ _ _ _ op_eq o2_eqS (q_op op_mod (o2_I (C:=cMod) (g:=gMod) (fun _ _=>rfl) (fun _ _ _=>.int)) (qv .B 1) q_int) q_int (by trivial)) (q_last (q_ret (q_FV (@q_sl _ _ _ _ _ _ false _ _ _ _ _ (qv .B 0) (q_pS q_int) q_pN (by rfl))))) q_nil) (q_last (q_ret (q_FV (q_op op_cat (o2_cat (c:=false)) (qv .B 0) (q_CB (q_FC (q_lst (q_acons (q_op op_mod (o2_I (C:=cMod) (g:=gMod) (fun _ _=>rfl) (fun _ _ _=>.int)) (qv .B 2) q_int) q_anil)))))))))),
  c_body (n:=3) (Nl:=["_law_part", "_law_x", "_law_y"]) (.inr rfl) h⟩
theorem ok_law_wrong_move {f:Addr} {fd:FuncData} (D:Def K mg "_law_wrong_move" s_law_wrong_move ["_law_move", "_law_x", "_law_y"] f fd) (B:Blt mg) (C:Cst mg) {f_law_no_list:Addr} {fd_law_no_list:FuncData} (D_law_no_list:Def K mg "_law_no_list" s_law_no_list ["_law_x"] f_law_no_list fd_law_no_list) (G_law_no_list:FnOk P w K mg base CX0 1 f_law_no_list fd_law_no_list ["_law_x"] (spM K 1 .V (f__law_no_list))) {f_law_wrong_part:Addr} {fd_law_wrong_part:FuncData} (D_law_wrong_part:Def K mg "_law_wrong_part" s_law_wrong_part ["_law_part", "_law_x", "_law_y"] f_law_wrong_part fd_law_wrong_part) (G_law_wrong_part:FnOk P w K mg base CX0 2 f_law_wrong_part fd_law_wrong_part ["_law_part", "_law_x", "_law_y"] (spM K 3 .V (f__law_wrong_part))) {f_law_no_count:Addr} {fd_law_no_count:FuncData} (D_law_no_count:Def K mg "_law_no_count" s_law_no_count ["_law_x"] f_law_no_count fd_law_no_count) (G_law_no_count:FnOk P w K mg base CX0 1 f_law_no_count fd_law_no_count ["_law_x"] (spM K 1 .V (f__law_no_count))):FnOk P w K mg base CX0 3 f fd ["_law_move", "_law_x", "_law_y"] (spX K 3 (f__law_wrong_move)):=by
 refine D.F.ok sc_law_wrong_move (fun vs H Q E h=>h.1) (fun cdv A outer s H vs Q E hr h=>?_)
 exact ⟨tSt K (fun _ _=>False) .V m__law_wrong_move,(q_cons (@q_setV _ _ _ _ _ _ _ 3 _ _ sc_law_wrong_move.nd rfl (by trivial) (q_op op_mod (o2_I (C:=cMod) (g:=gMod) (fun _ _=>rfl) (fun _ _ _=>.int)) (qv .B 1) q_int) (by rfl) (by trivial)) (q_cons (q_if_ (@q_tcmp _ _ _ _ _ _ _ _ _ _ _ _ op_eq o2_eqS (qv .B 3) q_int (by trivial)) (q_last (q_ret (@q_call _ _ _ _ _ _ _ _ _ _ _ _ _ _ _ _ G_law_no_list (.inr rfl) (by trivial) (by rfl) D_law_no_list.m D_law_no_list.F.kp D_law_no_list.b (q_acons (qv .B 2) q_anil) (by decide) (by rfl) (by rfl)))) q_nil) (q_cons (q_if_ (@q_tcmp _ _ _ _ _ _ _ _ _ _ _ _ op_eq o2_eqS (qv .B 3) q_int (by trivial)) (q_last (q_ret (q_ixV (q_FC (q_lst (q_acons (q_FV (q_lst q_anil)) (q_acons (q_FV (q_lst (q_acons (q_ixV (qv .C 0) q_int) q_anil))) (q_acons (q_FV (q_tup (q_acons (q_ixV (qv .C 0) q_int) q_anil))) (q_acons (q_FV (q_lst (q_acons (q_ixV (qv .C 0) q_int) (q_acons (q_ixV (qv .C 0) q_int) (q_acons (q_ixV (qv .C 0) q_int) q_anil))))) q_anil)))))) (q_op op_mod (o2_I (C:=cMod) (g:=gMod) (fun _ _=>rfl) (fun _ _ _=>.int)) (qv .B 2) q_int)))) q_nil) (q_cons (@q_setV _ _ _ _ _ _ _ 4 _ _ sc_law_wrong_move.nd rfl (by trivial) (q_op op_mod (o2_I (C:=cMod) (g:=gMod) (fun _ _=>rfl) (fun _ _ _=>.int)) (q_op op_fdiv (o2_I (C:=CDiv) (g:=gDiv) (fun _ _=>rfl) (fun _ _ _=>.int)) (qv .B 1) q_int) q_int) (by rfl) (by trivial)) (q_cons (q_if_ (@q_tcmp _ _ _ _ _ _ _ _ _ _ _ _ op_lt xLt (qv .B 3) q_int (by trivial)) (q_last (@q_setV _ _ _ _ _ _ _ 5 _ _ sc_law_wrong_move.nd rfl (by trivial) (@q_call _ _ _ _ _ _ _ _ _ _ _ _ _ _ _ _ G_law_wrong_part (.inr rfl) (by trivial) (by rfl) D_law_wrong_part.m D_law_wrong_part.F.kp D_law_wrong_part.b (q_acons (q_UB (q_ixU (qv .B 0) (qv .B 4))) (q_acons (q_op op_fdiv (o2_I (C:=CDiv) (g:=gDiv) (fun _ _=>rfl) (fun _ _ _=>.int)) (qv .B 1) q_int) (q_acons (qv .B 2) q_anil))) (by decide) (by rfl) (by rfl)) (by rfl) (by trivial))) (q_cons (@q_setF _ _ _ _ _ _ _ 5 _ _ sc_law_wrong_move.nd rfl (by trivial) (@q_ct _ _ _ _ _ _ _ _ _ _ _ _ _ _ K_list (b_list (c:=true)) (by rfl) B.list_ bt_list (q_acons (q_VC (q_ixV (qv .C 0) (qv .C 4))) q_anil) (by decide) (by decide) (by rfl) (by rfl)) (by rfl) (by trivial)) (q_last (@q_set _ _ _ _ _ _ _ _ 5 _ _ _ _ rfl (by trivial) (q_op op_mod (o2_I (C:=cMod) (g:=gMod) (fun _ _=>rfl) (fun _ _ _=>.int)) (q_op op_fdiv (o2_I (C:=CDiv) (g:=gDiv) (fun _ _=>rfl) (fun _ _ _=>.int)) (qv .B 1) q_int) (@q_cb _ _ _ _ _ _ _ _ _ _ _ _ _ _ K_len b_len (by rfl) B.len_ PySem.boot_len (q_acons (qv .B 5) q_anil) (by decide) (by decide) (by rfl) (by rfl))) (@q_call _ _ _ _ _ _ _ _ _ _ _ _ _ _ _ _ G_law_no_count (.inr rfl) (by trivial) (by rfl) D_law_no_count.m D_law_no_count.F.kp D_law_no_count.b (q_acons (qv .B 2) q_anil) (by decide) (by rfl) (by rfl)) (by decide) (by decide) (@pg_sub _ _ _ _ _ _ _ (@pv _ 5 _ _ (by rfl) (by trivial) (by decide) (by decide)) (q_op op_mod (o2_I (C:=cMod) (g:=gMod) (fun _ _=>rfl) (fun _ _ _=>.int)) (q_op op_fdiv (o2_I (C:=CDiv) (g:=gDiv) (fun _ _=>rfl) (fun _ _ _=>.int)) (qv .B 1) q_int) (@q_cb _ _ _ _ _ _ _ _ _ _ _ _ _ _ K_len b_len (by rfl) B.len_ PySem.boot_len (q_acons (qv .B 5) q_anil) (by decide) (by decide) (by rfl) (by rfl))) set_list (by intro _; rfl)) (by rfl) (by rfl))))) (q_cons (q_if_ (@q_tcmp _ _ _ _ _ _ _ _ _ _ _ _ op_eq o2_eqS (qv .B 4) q_int (by trivial)) (q_last (q_frz (q_ret (q_FV (q_tup (q_acons (qv .V 5) (q_acons (q_ixV (qv .C 0) q_int) q_anil))))))) q_nil) (q_last (q_frz (q_ret (q_FV (q_lst (q_acons (q_ixV (qv .C 0) q_int) (q_acons (qv .V 5) q_anil))))))))))))),
  c_bodyX (n:=3) (Nl:=["_law_move", "_law_x", "_law_y", "_law_form", "_law_side", "_law_part"]) h⟩
theorem ok_law_spoiled {f:Addr} {fd:FuncData} (D:Def K mg "_law_spoiled" s_law_spoiled ["_law_begin", "_law_moves", "_law_xs"] f fd) (B:Blt mg) (C:Cst mg) {f_law_wrong_move:Addr} {fd_law_wrong_move:FuncData} (D_law_wrong_move:Def K mg "_law_wrong_move" s_law_wrong_move ["_law_move", "_law_x", "_law_y"] f_law_wrong_move fd_law_wrong_move) (G_law_wrong_move:FnOk P w K mg base CX0 3 f_law_wrong_move fd_law_wrong_move ["_law_move", "_law_x", "_law_y"] (spX K 3 (f__law_wrong_move))) {f_law_no_count:Addr} {fd_law_no_count:FuncData} (D_law_no_count:Def K mg "_law_no_count" s_law_no_count ["_law_x"] f_law_no_count fd_law_no_count) (G_law_no_count:FnOk P w K mg base CX0 1 f_law_no_count fd_law_no_count ["_law_x"] (spM K 1 .V (f__law_no_count))) {f_law_no_list:Addr} {fd_law_no_list:FuncData} (D_law_no_list:Def K mg "_law_no_list" s_law_no_list ["_law_x"] f_law_no_list fd_law_no_list) (G_law_no_list:FnOk P w K mg base CX0 1 f_law_no_list fd_law_no_list ["_law_x"] (spM K 1 .V (f__law_no_list))):FnOk P w K mg base CX0 4 f fd ["_law_begin", "_law_moves", "_law_xs"] (spX K 3 (f__law_spoiled)):=by
 refine D.F.ok sc_law_spoiled (fun vs H Q E h=>h.1) (fun cdv A outer s H vs Q E hr h=>?_)
 exact ⟨tSt K (fun _ _=>False) .V m__law_spoiled,(q_cons (@q_setV _ _ _ _ _ _ _ 3 _ _ sc_law_spoiled.nd rfl (by trivial) (q_op op_mod (o2_I (C:=cMod) (g:=gMod) (fun _ _=>rfl) (fun _ _ _=>.int)) (q_UB (q_ixU (qv .B 2) q_int)) q_int) (by rfl) (by trivial)) (q_cons (q_if_ (@q_tcmp _ _ _ _ _ _ _ _ _ _ _ _ op_eq o2_eqS (qv .B 3) q_int (by trivial)) (q_last (q_ret (q_FV (q_tup (q_acons (q_FV (q_lst q_anil)) (q_acons (q_FV (q_compn (show CompScope (defScope s_law_spoiled) _ ["_law_begin", "_law_moves", "_law_xs", "_law_form", "_law_seven", "_law_wrong", "_law_at"] ["_law_begin", "_law_moves", "_law_xs", "_law_form", "_law_seven", "_law_wrong", "_law_at", "_law_move"] from by trivial) rfl (@q_iSqB _ _ _ _ _ _ (qv .B 1) (by rfl)) (fun _ _ _ _=>(@pg_name _ _ 7 _ (by decide +kernel:(["_law_begin", "_law_moves", "_law_xs", "_law_form", "_law_seven", "_law_wrong", "_law_at", "_law_move"]:List Str).Nodup) rfl (Or.inl rfl) (.inr rfl))) gt_U (gk_name (show 7<=7 by decide)) (fun _ _ _ _=>q_pifN) (fun _ _ _ _=>(q_FV (q_tup (q_acons (q_FV (q_lst q_anil)) (q_acons (q_FV (q_lst q_anil)) q_anil))))))) q_anil)))))) q_nil) (q_cons (q_if_ (@q_tcmp _ _ _ _ _ _ _ _ _ _ _ _ op_eq o2_eqS (qv .B 3) q_int (by trivial)) (q_cons (@q_setF _ _ _ _ _ _ _ 4 _ _ sc_law_spoiled.nd rfl (by trivial) (q_compn (show CompScope (defScope s_law_spoiled) _ ["_law_begin", "_law_moves", "_law_xs", "_law_form", "_law_seven", "_law_wrong", "_law_at"] ["_law_begin", "_law_moves", "_law_xs", "_law_form", "_law_seven", "_law_wrong", "_law_at", "_law_k"] from by trivial) rfl (@q_rng1 _ _ _ _ _ _ _ _ _ (by rfl) B.range_ (q_acons q_int q_anil) (by rfl)) (fun _ _ _ _=>(@pg_name _ _ 7 _ (by decide +kernel:(["_law_begin", "_law_moves", "_law_xs", "_law_form", "_law_seven", "_law_wrong", "_law_at", "_law_k"]:List Str).Nodup) rfl (Or.inl rfl) (.inr rfl))) gt_U (gk_name (show 7<=7 by decide)) (fun _ _ _ _=>q_pifN) (fun _ _ _ _=>(q_ixV (qv .C 0) (q_op op_mod (o2_I (C:=cMod) (g:=gMod) (fun _ _=>rfl) (fun _ _ _=>.int)) (qv .B 7) (@q_cb _ _ _ _ _ _ _ _ _ _ _ _ _ _ K_len b_len (by rfl) B.len_ PySem.boot_len (q_acons (qv .B 0) q_anil) (by decide) (by decide) (by rfl) (by rfl)))))) (by rfl) (by trivial)) (q_last (q_frz (q_ret (q_FV (q_tup (q_acons (qv .V 4) (q_acons (q_FV (q_compn (show CompScope (defScope s_law_spoiled) _ ["_law_begin", "_law_moves", "_law_xs", "_law_form", "_law_seven", "_law_wrong", "_law_at"] ["_law_begin", "_law_moves", "_law_xs", "_law_form", "_law_seven", "_law_wrong", "_law_at", "_law_move"] from by trivial) rfl (@q_iSqB _ _ _ _ _ _ (qv .B 1) (by rfl)) (fun _ _ _ _=>(@pg_name _ _ 7 _ (by decide +kernel:(["_law_begin", "_law_moves", "_law_xs", "_law_form", "_law_seven", "_law_wrong", "_law_at", "_law_move"]:List Str).Nodup) rfl (Or.inl rfl) (.inr rfl))) gt_U (gk_name (show 7<=7 by decide)) (fun _ _ _ _=>q_pifN) (fun _ _ _ _=>(q_FV (q_tup (q_acons (q_FV (@q_ct _ _ _ _ _ _ _ _ _ _ _ _ _ _ K_list (b_list (c:=true)) (by rfl) B.list_ bt_list (q_acons (qv .C 4) q_anil) (by decide) (by decide) (by rfl) (by rfl))) (q_acons (q_FV (@q_ct _ _ _ _ _ _ _ _ _ _ _ _ _ _ K_list (b_list (c:=true)) (by rfl) B.list_ bt_list (q_acons (qv .C 4) q_anil) (by decide) (by decide) (by rfl) (by rfl))) q_anil))))))) q_anil)))))))) q_nil) (q_cons (q_if_ (@q_tcmp _ _ _ _ _ _ _ _ _ _ _ _ op_eq o2_eqS (qv .B 3) q_int (by trivial)) (q_last (q_ret (q_FV (q_tup (q_acons (@q_call _ _ _ _ _ _ _ _ _ _ _ _ _ _ _ _ G_law_no_list (.inr rfl) (by trivial) (by rfl) D_law_no_list.m D_law_no_list.F.kp D_law_no_list.b (q_acons (q_UB (q_ixU (qv .B 2) q_int)) q_anil) (by decide) (by rfl) (by rfl)) (q_acons (qv .V 1) q_anil)))))) q_nil) (q_cons (q_if_ (PW.pt (q_tor (@q_tcmp _ _ _ _ _ _ _ _ _ _ _ _ op_eq o2_eqS (qv .B 3) q_int (by trivial)) (q_tor1 (@q_tcmp _ _ _ _ _ _ _ _ _ _ _ _ op_eq o2_eqS (qv .B 3) q_int (by trivial))))) (q_cons (@q_setF _ _ _ _ _ _ _ 5 _ _ sc_law_spoiled.nd rfl (by trivial) (@q_ct _ _ _ _ _ _ _ _ _ _ _ _ _ _ K_list (b_list (c:=true)) (by rfl) B.list_ bt_list (q_acons (qv .C 0) q_anil) (by decide) (by decide) (by rfl) (by rfl)) (by rfl) (by trivial)) (q_cons (@q_set _ _ _ _ _ _ _ _ 5 _ _ _ _ rfl (by trivial) (q_op op_mod (o2_I (C:=cMod) (g:=gMod) (fun _ _=>rfl) (fun _ _ _=>.int)) (q_UB (q_ixU (qv .B 2) q_int)) (@q_cb _ _ _ _ _ _ _ _ _ _ _ _ _ _ K_len b_len (by rfl) B.len_ PySem.boot_len (q_acons (qv .B 0) q_anil) (by decide) (by decide) (by rfl) (by rfl))) (@q_call _ _ _ _ _ _ _ _ _ _ _ _ _ _ _ _ G_law_no_count (.inr rfl) (by trivial) (by rfl) D_law_no_count.m D_law_no_count.F.kp D_law_no_count.b (q_acons (q_UB (q_ixU (qv .B 2) q_int)) q_anil) (by decide) (by rfl) (by rfl)) (by decide) (by decide) (@pg_sub _ _ _ _ _ _ _ (@pv _ 5 _ _ (by rfl) (by trivial) (by decide) (by decide)) (q_op op_mod (o2_I (C:=cMod) (g:=gMod) (fun _ _=>rfl) (fun _ _ _=>.int)) (q_UB (q_ixU (qv .B 2) q_int)) (@q_cb _ _ _ _ _ _ _ _ _ _ _ _ _ _ K_len b_len (by rfl) B.len_ PySem.boot_len (q_acons (qv .B 0) q_anil) (by decide) (by decide) (by rfl) (by rfl))) set_list (by intro _; rfl)) (by rfl) (by rfl)) (q_last (q_frz (q_ret (q_FV (q_tup (q_acons (qv .V 5) (q_acons (qv .V 1) q_anil))))))))) q_nil) (q_cons (q_if_ (@q_tcmp _ _ _ _ _ _ _ _ _ _ _ _ op_eq o2_eqS (qv .B 3) q_int (by trivial)) (q_last (q_ret (q_FV (q_tup (q_acons (qv .V 0) (q_acons (q_FV (q_compn (show CompScope (defScope s_law_spoiled) _ ["_law_begin", "_law_moves", "_law_xs", "_law_form", "_law_seven", "_law_wrong", "_law_at"] ["_law_begin", "_law_moves", "_law_xs", "_law_form", "_law_seven", "_law_wrong", "_law_at", "_law_k"] from by trivial) rfl (@q_rng1 _ _ _ _ _ _ _ _ _ (by rfl) B.range_ (q_acons q_int q_anil) (by rfl)) (fun _ _ _ _=>(@pg_name _ _ 7 _ (by decide +kernel:(["_law_begin", "_law_moves", "_law_xs", "_law_form", "_law_seven", "_law_wrong", "_law_at", "_law_k"]:List Str).Nodup) rfl (Or.inl rfl) (.inr rfl))) gt_U (gk_name (show 7<=7 by decide)) (fun _ _ _ _=>q_pifN) (fun _ _ _ _=>(q_ixV (qv .C 1) (q_op op_mod (o2_I (C:=cMod) (g:=gMod) (fun _ _=>rfl) (fun _ _ _=>.int)) (qv .B 7) (@q_cb _ _ _ _ _ _ _ _ _ _ _ _ _ _ K_len b_len (by rfl) B.len_ PySem.boot_len (q_acons (qv .B 1) q_anil) (by decide) (by decide) (by rfl) (by rfl))))))) q_anil)))))) q_nil) (q_cons (q_if_ (@q_tcmp _ _ _ _ _ _ _ _ _ _ _ _ op_eq o2_eqS (qv .B 3) q_int (by trivial)) (q_last (q_ret (q_FV (q_tup (q_acons (qv .V 0) (q_acons (@q_call _ _ _ _ _ _ _ _ _ _ _ _ _ _ _ _ G_law_no_list (.inr rfl) (by trivial) (by rfl) D_law_no_list.m D_law_no_list.F.kp D_law_no_list.b (q_acons (q_UB (q_ixU (qv .B 2) q_int)) q_anil) (by decide) (by rfl) (by rfl)) q_anil)))))) q_nil) (q_cons (@q_setF _ _ _ _ _ _ _ 5 _ _ sc_law_spoiled.nd rfl (by trivial) (@q_ct _ _ _ _ _ _ _ _ _ _ _ _ _ _ K_list (b_list (c:=true)) (by rfl) B.list_ bt_list (q_acons (qv .C 1) q_anil) (by decide) (by decide) (by rfl) (by rfl)) (by rfl) (by trivial)) (q_cons (@q_setV _ _ _ _ _ _ _ 6 _ _ sc_law_spoiled.nd rfl (by trivial) (q_op op_mod (o2_I (C:=cMod) (g:=gMod) (fun _ _=>rfl) (fun _ _ _=>.int)) (q_UB (q_ixU (qv .B 2) q_int)) (@q_cb _ _ _ _ _ _ _ _ _ _ _ _ _ _ K_len b_len (by rfl) B.len_ PySem.boot_len (q_acons (qv .B 1) q_anil) (by decide) (by decide) (by rfl) (by rfl))) (by rfl) (by trivial)) (q_cons (@q_set _ _ _ _ _ _ _ _ 5 _ _ _ _ rfl (by trivial) (qv .B 6) (@q_callX _ _ _ _ _ _ _ _ _ _ _ _ _ _ _ G_law_wrong_move (by trivial) (by rfl) D_law_wrong_move.m D_law_wrong_move.F.kp D_law_wrong_move.b (q_acons (q_ixV (qv .C 1) (qv .C 6)) (q_acons (q_ixV (qv .C 2) q_int) (q_acons (q_ixV (qv .C 2) q_int) q_anil))) (by decide) (by rfl) (by rfl)) (by decide) (by decide) (@pg_sub _ _ _ _ _ _ _ (@pv _ 5 _ _ (by rfl) (by trivial) (by decide) (by decide)) (qv .B 6) set_list (by intro _; rfl)) (by rfl) (by rfl)) (q_last (q_frz (q_ret (q_FV (q_tup (q_acons (qv .V 0) (q_acons (qv .V 5) q_anil))))))))))))))))),
  c_bodyX (n:=3) (Nl:=["_law_begin", "_law_moves", "_law_xs", "_law_form", "_law_seven", "_law_wrong", "_law_at"]) h⟩
theorem ok_law_no_moor {f:Addr} {fd:FuncData} (D:Def K mg "_law_no_moor" s_law_no_moor ["_law_error"] f fd) (B:Blt mg) (C:Cst mg) {c_MoorError c_NoMoor c_NoName c_NoRow c_NoText c_Stuck:Addr} (XF:Xf K mg c_MoorError c_NoMoor c_NoName c_NoRow c_NoText c_Stuck):FnOk P w K mg base CX0 1 f fd ["_law_error"] (spM K 1 .F (f__law_no_moor)):=by
 refine D.F.ok sc_law_no_moor (fun vs H Q E h=>h.1) (fun cdv A outer s H vs Q E hr h=>?_)
 exact ⟨tSt K (fun _ _=>False) .F m__law_no_moor,(q_cons (q_if_ (PW.pt (q_tor (q_tnot (@q_val _ _ _ _ _ (@q_cb _ _ _ _ _ _ _ _ _ _ _ _ _ _ (call_xisC XF.is XF.ki_NoMoor) (b_xis XF.ns_NoMoor XF.ns_NoMoor) (by rfl) B.isinstance_ PyProof.Rows.boot_isinstance (q_acons (qv .B 0) (q_acons (@q_cls _ _ _ _ _ _ (by rfl) XF.m_NoMoor XF.ns_NoMoor (by decide)) q_anil)) (by decide) (by decide) (by rfl) (by rfl)) (by intro _; rfl))) (q_tor (q_tnot (@q_val _ _ _ _ _ (@q_cb _ _ _ _ _ _ _ _ _ _ _ _ _ _ (call_xisC XF.is XF.ki_MoorError) (b_xis XF.ns_NoMoor XF.ns_MoorError) (by rfl) B.isinstance_ PyProof.Rows.boot_isinstance (q_acons (qv .B 0) (q_acons (@q_cls _ _ _ _ _ _ (by rfl) XF.m_MoorError XF.ns_MoorError (by decide)) q_anil)) (by decide) (by decide) (by rfl) (by rfl)) (by intro _; rfl))) (q_tor1 (q_tnot (@q_val _ _ _ _ _ (@q_cb _ _ _ _ _ _ _ _ _ _ _ _ _ _ (call_xisT XF.is XF.kt_ValueError) (b_xisT XF.ns_NoMoor) (by rfl) B.isinstance_ PyProof.Rows.boot_isinstance (q_acons (qv .B 0) (q_acons (@q_ty _ _ _ _ _ _ _ (by rfl) B.ValueError_ PyProof.Rows.Boot.«ValueError» (by decide) (by decide)) q_anil)) (by decide) (by decide) (by rfl) (by rfl)) (by intro _; rfl))))))) (q_last (q_ret q_bl)) q_nil) (q_cons (q_if_ (PW.pt (q_tor (@q_val _ _ _ _ _ (@q_cb _ _ _ _ _ _ _ _ _ _ _ _ _ _ (call_xisC XF.is XF.ki_Stuck) (b_xis XF.ns_NoMoor XF.ns_Stuck) (by rfl) B.isinstance_ PyProof.Rows.boot_isinstance (q_acons (qv .B 0) (q_acons (@q_cls _ _ _ _ _ _ (by rfl) XF.m_Stuck XF.ns_Stuck (by decide)) q_anil)) (by decide) (by decide) (by rfl) (by rfl)) (by intro _; rfl)) (q_tor (@q_val _ _ _ _ _ (@q_cb _ _ _ _ _ _ _ _ _ _ _ _ _ _ (call_xisC XF.is XF.ki_NoName) (b_xis XF.ns_NoMoor XF.ns_NoName) (by rfl) B.isinstance_ PyProof.Rows.boot_isinstance (q_acons (qv .B 0) (q_acons (@q_cls _ _ _ _ _ _ (by rfl) XF.m_NoName XF.ns_NoName (by decide)) q_anil)) (by decide) (by decide) (by rfl) (by rfl)) (by intro _; rfl)) (q_tor1 (@q_val _ _ _ _ _ (@q_cb _ _ _ _ _ _ _ _ _ _ _ _ _ _ (call_xisC XF.is XF.ki_NoRow) (b_xis XF.ns_NoMoor XF.ns_NoRow) (by rfl) B.isinstance_ PyProof.Rows.boot_isinstance (q_acons (qv .B 0) (q_acons (@q_cls _ _ _ _ _ _ (by rfl) XF.m_NoRow XF.ns_NoRow (by decide)) q_anil)) (by decide) (by decide) (by rfl) (by rfl)) (by intro _; rfl)))))) (q_last (q_ret q_bl)) q_nil) (q_last (q_ret (q_not (@q_cb _ _ _ _ _ _ _ _ _ _ _ _ _ _ (call_xisC XF.is XF.ki_NoText) (b_xis XF.ns_NoMoor XF.ns_NoText) (by rfl) B.isinstance_ PyProof.Rows.boot_isinstance (q_acons (qv .B 0) (q_acons (@q_cls _ _ _ _ _ _ (by rfl) XF.m_NoText XF.ns_NoText (by decide)) q_anil)) (by decide) (by decide) (by rfl) (by rfl))))))),
  c_body (n:=1) (Nl:=["_law_error"]) (.inl rfl) h⟩
theorem ok_law_refused {f:Addr} {fd:FuncData} (D:Def K mg "_law_refused" s_law_refused ["_law_begin", "_law_moves", "_law_base"] f fd) (B:Blt mg) (C:Cst mg) {f_law_no_moor:Addr} {fd_law_no_moor:FuncData} (D_law_no_moor:Def K mg "_law_no_moor" s_law_no_moor ["_law_error"] f_law_no_moor fd_law_no_moor) (G_law_no_moor:FnOk P w K mg base CX0 1 f_law_no_moor fd_law_no_moor ["_law_error"] (spM K 1 .F (f__law_no_moor))) {fmoor:Addr} {fdmoor:FuncData} (Dmoor:Def K mg "moor" smoor ["begin", "moves"] fmoor fdmoor) (Gmoor:FnOk P w K mg base (CXW P w) 6 fmoor fdmoor ["begin", "moves"] (spR K 2 .F (f_moor))) {c_MoorError c_NoMoor c_NoName c_NoRow c_NoText c_Stuck:Addr} (XF:Xf K mg c_MoorError c_NoMoor c_NoName c_NoRow c_NoText c_Stuck):FnOk P w K mg base CX0 7 f fd ["_law_begin", "_law_moves", "_law_base"] (spM K 3 .F (f__law_refused)):=by
 refine D.F.ok sc_law_refused (fun vs H Q E h=>h.1) (fun cdv A outer s H vs Q E hr h=>?_)
 exact ⟨tSt K (fun _ _=>False) .F m__law_refused,(q_cons (@q_setV _ _ _ _ _ _ _ 3 _ _ sc_law_refused.nd rfl (by trivial) q_non (by rfl) (by trivial)) (q_cons (q_if_ (@q_val _ _ _ _ _ (qv .B 2) (by intro _; rfl)) (q_last (@q_tryX _ _ _ _ _ _ _ _ _ _ _ _ _ _ _ 4 _ _ _ _ _ _ _ _ _ _ _ _ _ _ _ sc_law_refused.nd Gmoor (by trivial) (by rfl) Dmoor.m Dmoor.F.kp Dmoor.b (q_acons (qv .B 0) (q_acons (qv .B 1) q_anil)) rfl (by rfl) XF.m_MoorError XF.ns_NoMoor XF.ex_MoorError (fun e E=>(q_last (@q_setV _ _ _ _ _ _ _ 3 _ _ sc_law_refused.nd rfl (by trivial) (qv .V 4) (by rfl) (by trivial)))) (by rfl) (by rfl) (by rfl) (by rfl) (by rfl) (by decide) (by rfl) (by rfl) (by rfl) (by decide))) (q_last (@q_tryX _ _ _ _ _ _ _ _ _ _ _ _ _ _ _ 4 _ _ _ _ _ _ _ _ _ _ _ _ _ _ _ sc_law_refused.nd Gmoor (by trivial) (by rfl) Dmoor.m Dmoor.F.kp Dmoor.b (q_acons (qv .B 0) (q_acons (qv .B 1) q_anil)) rfl (by rfl) XF.m_NoMoor XF.ns_NoMoor XF.ex_NoMoor (fun e E=>(q_last (@q_setV _ _ _ _ _ _ _ 3 _ _ sc_law_refused.nd rfl (by trivial) (qv .V 4) (by rfl) (by trivial)))) (by rfl) (by rfl) (by rfl) (by rfl) (by rfl) (by decide) (by rfl) (by rfl) (by rfl) (by decide)))) (q_last (q_ret (q_and (@q_cmp _ _ _ _ _ _ _ _ _ _ _ _ _ op_notN o2_notN (qv .B 3) q_non (by trivial)) (q_one (@q_call _ _ _ _ _ _ _ _ _ _ _ _ _ _ _ _ G_law_no_moor (.inl rfl) (by trivial) (by rfl) D_law_no_moor.m D_law_no_moor.F.kp D_law_no_moor.b (q_acons (qv .B 3) q_anil) (by decide) (by rfl) (by rfl)))))))),
  c_body (n:=3) (Nl:=["_law_begin", "_law_moves", "_law_base", "_law_caught", "_law_error"]) (.inl rfl) h⟩
theorem oklaw {f:Addr} {fd:FuncData} (D:Def K mg "law" slaw ["_law_script"] f fd) (B:Blt mg) (C:Cst mg) {f_law_stream:Addr} {fd_law_stream:FuncData} (D_law_stream:Def K mg "_law_stream" s_law_stream ["_law_cell", "_law_salt", "_law_many"] f_law_stream fd_law_stream) (G_law_stream:FnOk P w K mg base CX0 1 f_law_stream fd_law_stream ["_law_cell", "_law_salt", "_law_many"] (spM K 3 .F (f__law_stream))) {f_law_counts:Addr} {fd_law_counts:FuncData} (D_law_counts:Def K mg "_law_counts" s_law_counts ["_law_xs", "_law_kind"] f_law_counts fd_law_counts) (G_law_counts:FnOk P w K mg base CX0 1 f_law_counts fd_law_counts ["_law_xs", "_law_kind"] (spM K 2 .F (f__law_counts))) {f_law_spoiled:Addr} {fd_law_spoiled:FuncData} (D_law_spoiled:Def K mg "_law_spoiled" s_law_spoiled ["_law_begin", "_law_moves", "_law_xs"] f_law_spoiled fd_law_spoiled) (G_law_spoiled:FnOk P w K mg base CX0 4 f_law_spoiled fd_law_spoiled ["_law_begin", "_law_moves", "_law_xs"] (spX K 3 (f__law_spoiled))) {fmoor:Addr} {fdmoor:FuncData} (Dmoor:Def K mg "moor" smoor ["begin", "moves"] fmoor fdmoor) (Gmoor:FnOk P w K mg base (CXW P w) 6 fmoor fdmoor ["begin", "moves"] (spR K 2 .F (f_moor))) {f_law_refused:Addr} {fd_law_refused:FuncData} (D_law_refused:Def K mg "_law_refused" s_law_refused ["_law_begin", "_law_moves", "_law_base"] f_law_refused fd_law_refused) (G_law_refused:FnOk P w K mg base CX0 7 f_law_refused fd_law_refused ["_law_begin", "_law_moves", "_law_base"] (spM K 3 .F (f__law_refused))) {f_law_cell_at:Addr} {fd_law_cell_at:FuncData} (D_law_cell_at:Def K mg "_law_cell_at" s_law_cell_at ["_law_script", "_law_k"] f_law_cell_at fd_law_cell_at) (G_law_cell_at:FnOk P w K mg base CX0 1 f_law_cell_at fd_law_cell_at ["_law_script", "_law_k"] (spM K 2 .F (f__law_cell_at))):FnOk P w K mg base CX0 8 f fd ["_law_script"] (spM K 1 .F (f_law)):=by
 refine D.F.ok sclaw (fun vs H Q E h=>h.1) (fun cdv A outer s H vs Q E hr h=>?_)
 exact ⟨tSt K (fun _ _=>False) .F m_law,(q_cons (@q_setF _ _ _ _ _ _ _ 1 _ _ sclaw.nd rfl (by trivial) (@q_call _ _ _ _ _ _ _ _ _ _ _ _ _ _ _ _ G_law_stream (.inl rfl) (by trivial) (by rfl) D_law_stream.m D_law_stream.F.kp D_law_stream.b (q_acons (q_CB (q_FC (@q_call _ _ _ _ _ _ _ _ _ _ _ _ _ _ _ _ G_law_cell_at (.inl rfl) (by trivial) (by rfl) D_law_cell_at.m D_law_cell_at.F.kp D_law_cell_at.b (q_acons (qv .B 0) (q_acons q_int q_anil)) (by decide) (by rfl) (by rfl)))) (q_acons q_int (q_acons q_int q_anil))) (by decide) (by rfl) (by rfl)) (by rfl) (by trivial)) (q_cons (@q_setV _ _ _ _ _ _ _ 2 _ _ sclaw.nd rfl (by trivial) (q_op op_add xAdd q_int (q_op op_mod (o2_I (C:=cMod) (g:=gMod) (fun _ _=>rfl) (fun _ _ _=>.int)) (q_UB (q_ixU (qv .B 1) q_int)) q_int)) (by rfl) (by trivial)) (q_cons (@q_setF _ _ _ _ _ _ _ 3 _ _ sclaw.nd rfl (by trivial) (@q_call _ _ _ _ _ _ _ _ _ _ _ _ _ _ _ _ G_law_counts (.inl rfl) (by trivial) (by rfl) D_law_counts.m D_law_counts.F.kp D_law_counts.b (q_acons (q_CB (q_FC (@q_sl _ _ _ _ _ _ true _ _ _ _ _ (qv .C 1) (q_pS q_int) (q_pS (q_op op_add xAdd q_int (qv .B 2))) (by rfl)))) (q_acons (q_UB (q_ixU (qv .B 1) q_int)) q_anil)) (by decide) (by rfl) (by rfl)) (by rfl) (by trivial)) (q_cons (@q_setF _ _ _ _ _ _ _ 4 _ _ sclaw.nd rfl (by trivial) (q_lst q_anil) (by rfl) (by trivial)) (q_cons (@q_for _ _ _ _ _ _ _ _ _ _ _ _ _ PassesOwn.never rfl (@q_rng1 _ _ _ _ _ _ _ _ _ (by rfl) B.range_ (q_acons (q_op op_add xAdd q_int (q_op op_mod (o2_I (C:=cMod) (g:=gMod) (fun _ _=>rfl) (fun _ _ _=>.int)) (q_UB (q_ixU (qv .B 1) q_int)) q_int)) q_anil) (by rfl)) (@pg_name _ _ 5 _ sclaw.nd rfl (by trivial) (by trivial)) gt_U (q_cons (@q_setF _ _ _ _ _ _ _ 6 _ _ sclaw.nd rfl (by trivial) (@q_call _ _ _ _ _ _ _ _ _ _ _ _ _ _ _ _ G_law_stream (.inl rfl) (by trivial) (by rfl) D_law_stream.m D_law_stream.F.kp D_law_stream.b (q_acons (q_CB (q_FC (@q_call _ _ _ _ _ _ _ _ _ _ _ _ _ _ _ _ G_law_cell_at (.inl rfl) (by trivial) (by rfl) D_law_cell_at.m D_law_cell_at.F.kp D_law_cell_at.b (q_acons (qv .B 0) (q_acons (q_op op_add xAdd q_int (qv .B 5)) q_anil)) (by decide) (by rfl) (by rfl)))) (q_acons (q_op op_add xAdd q_int (qv .B 5)) (q_acons q_int q_anil))) (by decide) (by rfl) (by rfl)) (by rfl) (by trivial)) (q_last (@q_app _ _ _ _ _ _ _ 4 _ _ _ _ rfl (by trivial) (q_FV (q_tup (q_acons (q_FV (@q_call _ _ _ _ _ _ _ _ _ _ _ _ _ _ _ _ G_law_counts (.inl rfl) (by trivial) (by rfl) D_law_counts.m D_law_counts.F.kp D_law_counts.b (q_acons (q_CB (q_FC (@q_sl _ _ _ _ _ _ true _ _ _ _ _ (qv .C 6) (q_pS q_int) (q_pS (q_op op_add xAdd q_int (qv .B 2))) (by rfl)))) (q_acons (q_UB (q_ixU (qv .B 6) q_int)) q_anil)) (by decide) (by rfl) (by rfl))) (q_acons (q_FV (@q_call _ _ _ _ _ _ _ _ _ _ _ _ _ _ _ _ G_law_counts (.inl rfl) (by trivial) (by rfl) D_law_counts.m D_law_counts.F.kp D_law_counts.b (q_acons (q_CB (q_FC (@q_sl _ _ _ _ _ _ true _ _ _ _ _ (qv .C 6) (q_pS q_int) (q_pS (q_op op_add xAdd q_int (qv .B 2))) (by rfl)))) (q_acons (q_op op_fdiv (o2_I (C:=CDiv) (g:=gDiv) (fun _ _=>rfl) (fun _ _ _=>.int)) (q_UB (q_ixU (qv .B 6) q_int)) q_int) q_anil)) (by decide) (by rfl) (by rfl))) q_anil)))) (by decide) (by decide) (by rfl) (by rfl) (by rfl) (by rfl) (by rfl)))) (by intro _; rfl)) (q_cons (@q_setCX _ _ _ _ _ _ _ 7 _ [3,8,4,1,6] _ _ _ _ _ _ _ _ _ _ _ sclaw.nd rfl (by trivial) G_law_spoiled (by trivial) (by rfl) D_law_spoiled.m D_law_spoiled.F.kp D_law_spoiled.b (q_acons (qv .V 3) (q_acons (qv .V 4) (q_acons (q_FV (@q_call _ _ _ _ _ _ _ _ _ _ _ _ _ _ _ _ G_law_stream (.inl rfl) (by trivial) (by rfl) D_law_stream.m D_law_stream.F.kp D_law_stream.b (q_acons (q_CB (q_FC (@q_call _ _ _ _ _ _ _ _ _ _ _ _ _ _ _ _ G_law_cell_at (.inl rfl) (by trivial) (by rfl) D_law_cell_at.m D_law_cell_at.F.kp D_law_cell_at.b (q_acons (qv .B 0) (q_acons q_int q_anil)) (by decide) (by rfl) (by rfl)))) (q_acons q_int (q_acons q_int q_anil))) (by decide) (by rfl) (by rfl))) q_anil))) (by decide) (by rfl) (by rfl) (by rfl) (by trivial)) (q_cons (q_if_ (q_tnot (@q_val _ _ _ _ _ (q_CB (q_FC (@q_call _ _ _ _ _ _ _ _ _ _ _ _ _ _ _ _ G_law_refused (.inl rfl) (by trivial) (by rfl) D_law_refused.m D_law_refused.F.kp D_law_refused.b (q_acons (q_UB (q_ixU (qv .B 7) q_int)) (q_acons (q_UB (q_ixU (qv .B 7) q_int)) (q_acons (@q_cmp _ _ _ _ _ _ _ _ _ _ _ _ _ op_eq o2_eqS (q_op op_mod (o2_I (C:=cMod) (g:=gMod) (fun _ _=>rfl) (fun _ _ _=>.int)) (q_UB (q_ixU (qv .B 1) q_int)) q_int) q_int (by trivial)) q_anil))) (by decide) (by rfl) (by rfl)))) (by intro _; rfl))) (q_last (q_ret q_bl)) q_nil) (q_cons (@q_setF _ _ _ _ _ _ _ 8 _ _ sclaw.nd rfl (by trivial) (@q_callR _ _ _ _ _ _ _ _ _ _ _ _ _ _ _ _ _ Gmoor (.inl rfl) (by trivial) (by rfl) Dmoor.m Dmoor.F.kp Dmoor.b (q_acons (qv .B 3) (q_acons (qv .B 4) q_anil)) (by decide) (by rfl) (by rfl)) (by rfl) (by trivial)) (q_cons (q_if_ (@q_tcmp _ _ _ _ _ _ _ _ _ _ _ _ (op_neD (hu64 hr)) (o2_eqD (neg:=true)) (qv .B 8) (q_UB (q_tupU (q_acons (q_VU (q_FV (@q_ct _ _ _ _ _ _ _ _ _ _ _ _ _ _ K_tup (b_tup (c:=true)) (by rfl) B.tuple_ bt_tuple (q_acons (qv .C 3) q_anil) (by decide) (by decide) (by rfl) (by rfl)))) (q_acons (q_VU (q_FV (@q_ct _ _ _ _ _ _ _ _ _ _ _ _ _ _ K_tup (b_tup (c:=true)) (by rfl) B.tuple_ bt_tuple (q_acons (q_FC (q_compn (show CompScope (defScope slaw) _ ["_law_script", "_law_xs", "_law_many", "_law_begin", "_law_moves", "_law_k", "_law_ys", "_law_wrong", "_law_found"] ["_law_script", "_law_xs", "_law_many", "_law_begin", "_law_moves", "_law_k", "_law_ys", "_law_wrong", "_law_found", "_law_move"] from by trivial) rfl (@q_iSqB _ _ _ _ _ _ (qv .B 4) (by rfl)) (fun _ _ _ _=>(@pg_name _ _ 9 _ (by decide +kernel:(["_law_script", "_law_xs", "_law_many", "_law_begin", "_law_moves", "_law_k", "_law_ys", "_law_wrong", "_law_found", "_law_move"]:List Str).Nodup) rfl (Or.inl rfl) (.inr rfl))) gt_U (gk_name (show 9<=9 by decide)) (fun _ _ _ _=>q_pifN) (fun _ _ _ _=>(q_FV (q_tup (q_acons (q_FV (@q_ct _ _ _ _ _ _ _ _ _ _ _ _ _ _ K_tup (b_tup (c:=false)) (by rfl) B.tuple_ bt_tuple (q_acons (q_UB (q_ixU (qv .B 9) q_int)) q_anil) (by decide) (by decide) (by rfl) (by rfl))) (q_acons (q_FV (@q_ct _ _ _ _ _ _ _ _ _ _ _ _ _ _ K_tup (b_tup (c:=false)) (by rfl) B.tuple_ bt_tuple (q_acons (q_UB (q_ixU (qv .B 9) q_int)) q_anil) (by decide) (by decide) (by rfl) (by rfl))) q_anil))))))) q_anil) (by decide) (by decide) (by rfl) (by rfl)))) q_anil)))) (by trivial)) (q_last (q_ret q_bl)) q_nil) (q_last (q_ret (@q_call _ _ _ _ _ _ _ _ _ _ _ _ _ _ _ _ G_law_refused (.inl rfl) (by trivial) (by rfl) D_law_refused.m D_law_refused.F.kp D_law_refused.b (q_acons (q_UB (q_ixU (qv .B 7) q_int)) (q_acons (q_UB (q_ixU (qv .B 7) q_int)) (q_acons (@q_cmp _ _ _ _ _ _ _ _ _ _ _ _ _ op_eq o2_eqS (q_op op_mod (o2_I (C:=cMod) (g:=gMod) (fun _ _=>rfl) (fun _ _ _=>.int)) (q_UB (q_ixU (qv .B 1) q_int)) q_int) q_int (by trivial)) q_anil))) (by decide) (by rfl) (by rfl))))))))))))),
  c_body (n:=1) (Nl:=["_law_script", "_law_xs", "_law_many", "_law_begin", "_law_moves", "_law_k", "_law_ys", "_law_wrong", "_law_found"]) (.inl rfl) h⟩
end
theorem us0 {P:List Value->Prop} (h:P []):∀ us:List Value,us.length=0->P us:=fun us e=>by
 rw [List.length_eq_zero_iff.mp e]; exact h
theorem us1 {P:List Value->Prop} (h:∀ a0,P [a0]):∀ us:List Value,us.length=1->P us:=fun us e=>by
 cases us with
 | nil=>cases e
 | cons a us=>exact us0 (P:=fun us=>P (a::us)) (h a) us (Nat.succ.inj e)
theorem us2 {P:List Value->Prop} (h:∀ a0 a1,P [a0,a1]):∀ us:List Value,us.length=2->P us:=fun us e=>by
 cases us with
 | nil=>cases e
 | cons a us=>exact us1 (P:=fun us=>P (a::us)) (fun a1=>h a a1) us (Nat.succ.inj e)
theorem us3 {P:List Value->Prop} (h:∀ a0 a1 a2,P [a0,a1,a2]):∀ us:List Value,us.length=3->P us:=fun us e=>by
 cases us with
 | nil=>cases e
 | cons a us=>exact us2 (P:=fun us=>P (a::us)) (fun a1 a2=>h a a1 a2) us (Nat.succ.inj e)
theorem us4 {P:List Value->Prop} (h:∀ a0 a1 a2 a3,P [a0,a1,a2,a3]):∀ us:List Value,us.length=4->P us:=fun us e=>by
 cases us with
 | nil=>cases e
 | cons a us=>exact us3 (P:=fun us=>P (a::us)) (fun a1 a2 a3=>h a a1 a2 a3) us (Nat.succ.inj e)
def Pk (K:Frag) (nm:Str) (st:Stmt) (f:Addr):Prop:=∃ (oc:Value) (od an:Option Addr) (sl:Array (Option Value)) (kV dc pm cd ct:Value),PySem.W.nsIn K mainGlobals nm=some (some (.ref f))/\K.lookup f=some ⟨oc,od,.func (PySem.W.fnOf nm nm (defArgs st) (defBody st) (defScope st) .none kV dc pm an cd ct),sl⟩/\PySem.W.codeIn K cd nm=true/\PySem.W.keepIn K (.ref f)=true
theorem pk_mk {K:Frag} {nm:Str} {st:Stmt} {f:Addr} {oc:Value} {od an:Option Addr} {sl:Array (Option Value)} {kV dc pm cd ct:Value} (a:PySem.W.nsIn K mainGlobals nm=some (some (.ref f))) (l:K.lookup f=some ⟨oc,od,.func (PySem.W.fnOf nm nm (defArgs st) (defBody st) (defScope st) .none kV dc pm an cd ct),sl⟩) (c:PySem.W.codeIn K cd nm=true) (k:PySem.W.keepIn K (.ref f)=true):Pk K nm st f:=⟨_,_,_,_,_,_,_,_,_,a,l,c,k⟩
theorem pk_def {K:Frag} {h:Heap} {mg:Str->Option Value} {nm:Str} {st:Stmt} {f:Addr} (ps:List Str) (X:K.In h) (G:h.Ns mainGlobals mg) (p:Pk K nm st f) (hb:∀ (kV doc pm:Value) (an:Option Addr) (cdv ct:Value) (us:List Value),us.length=ps.length->bindArgs (PySem.W.fnOf nm nm (defArgs st) (defBody st) (defScope st) .none kV doc pm an cdv ct) ⟨us,[]⟩=pure (ps.zip us)):∃ fd,Def K mg nm st ps f fd:=by
 obtain ⟨oc,od,an,sl,kV,dc,pm,cd,ct,a,l,c,k⟩:=p
 have F:=fun_mk (st:=st) l c k
 exact ⟨_,F,PySem.W.mg_of X G a,F.binds hb⟩
def spLaw (K:Frag):Sp:=fun vs H Q _=>∃ (a:Addr) (ns:List Int),vs = [.ref a]/\SqL K H a (ns.map V.int)/\ns.length<=63/\∀ H',Q (.bl true) H'
theorem all_mk (hp:∀ ns:List Int,ns.length<=63->f_law [.scr (ns.map W.int)]=.ok (.bl true)) {l:PySem.W.OpenLaw} {w:World} {K:Frag} {h:Heap} {mg:Str->Option Value} {fa:Addr} (X:K.In h) (G:h.Ns mainGlobals mg) (hfa:mg "law" = some (.ref fa))
  {f0:Addr}
  {f1:Addr}
  {f2:Addr}
  {f3:Addr}
  {f4:Addr}
  {f5:Addr}
  {f6:Addr}
  {f7:Addr}
  {f8:Addr}
  {f9:Addr}
  {f10:Addr}
  {f11:Addr}
  {f12:Addr}
  {f13:Addr}
  {f14:Addr}
  {f15:Addr}
  {t0:Tok}
  {t1:Tok}
  {t2:Tok}
  {c_MoorError c_NoMoor c_NoName c_NoRow c_NoText c_Stuck:Addr}
  (p0:Pk K "is_count" sis_count f0)
  (p1:Pk K "moor" smoor f1)
  (p2:Pk K "made_move" smade_move f2)
  (p3:Pk K "made_counts" smade_counts f3)
  (p4:Pk K "must_be_listed" smust_be_listed f4)
  (p5:Pk K "_law_cell_at" s_law_cell_at f5)
  (p6:Pk K "_law_stream" s_law_stream f6)
  (p7:Pk K "_law_counts" s_law_counts f7)
  (p8:Pk K "_law_no_count" s_law_no_count f8)
  (p9:Pk K "_law_no_list" s_law_no_list f9)
  (p10:Pk K "_law_wrong_part" s_law_wrong_part f10)
  (p11:Pk K "_law_wrong_move" s_law_wrong_move f11)
  (p12:Pk K "_law_spoiled" s_law_spoiled f12)
  (p13:Pk K "_law_no_moor" s_law_no_moor f13)
  (p14:Pk K "_law_refused" s_law_refused f14)
  (p15:Pk K "law" slaw f15)
  (z0:PySem.W.nsIn K mainGlobals "ValueError" = some none)
  (z1:PySem.W.nsIn K mainGlobals "bool" = some none)
  (z2:PySem.W.nsIn K mainGlobals "int" = some none)
  (z3:PySem.W.nsIn K mainGlobals "isinstance" = some none)
  (z4:PySem.W.nsIn K mainGlobals "len" = some none)
  (z5:PySem.W.nsIn K mainGlobals "list" = some none)
  (z6:PySem.W.nsIn K mainGlobals "range" = some none)
  (z7:PySem.W.nsIn K mainGlobals "str" = some none)
  (z8:PySem.W.nsIn K mainGlobals "tuple" = some none)
  (cst0:PySem.W.nsIn K mainGlobals "GREATEST_COUNT" = some (some (.int 1000000000 t0)))
  (cst1:PySem.W.nsIn K mainGlobals "MOST_PLACES" = some (some (.int 6 t1)))
  (cst2:PySem.W.nsIn K mainGlobals "MOST_MOVES" = some (some (.int 8 t2)))
  (n_MoorError:PySem.W.nsIn K mainGlobals "MoorError" = some (some (.ref c_MoorError)))
  (n_NoMoor:PySem.W.nsIn K mainGlobals "NoMoor" = some (some (.ref c_NoMoor)))
  (n_NoName:PySem.W.nsIn K mainGlobals "NoName" = some (some (.ref c_NoName)))
  (n_NoRow:PySem.W.nsIn K mainGlobals "NoRow" = some (some (.ref c_NoRow)))
  (n_NoText:PySem.W.nsIn K mainGlobals "NoText" = some (some (.ref c_NoText)))
  (n_Stuck:PySem.W.nsIn K mainGlobals "Stuck" = some (some (.ref c_Stuck)))
  (xok0:XMk0 K c_NoMoor/\XIs K c_NoMoor) (xnd:PySem.W.nsIn K mainGlobals ".d" = some none)
  (ex_MoorError:PySem.W.exmOne K (.ref c_NoMoor) (.ref c_MoorError)=some true)
  (ex_NoMoor:PySem.W.exmOne K (.ref c_NoMoor) (.ref c_NoMoor)=some true)
  (ki_MoorError:PySem.W.kitOne K (.ref c_NoMoor) (.ref c_MoorError)=some true)
  (ki_NoMoor:PySem.W.kitOne K (.ref c_NoMoor) (.ref c_NoMoor)=some true)
  (ki_NoName:PySem.W.kitOne K (.ref c_NoMoor) (.ref c_NoName)=some false)
  (ki_NoRow:PySem.W.kitOne K (.ref c_NoMoor) (.ref c_NoRow)=some false)
  (ki_NoText:PySem.W.kitOne K (.ref c_NoMoor) (.ref c_NoText)=some false)
  (ki_Stuck:PySem.W.kitOne K (.ref c_NoMoor) (.ref c_Stuck)=some false)
  (kt_ValueError:PySem.W.kitOne K (.ref c_NoMoor) (.type "ValueError")=some true) :
  ∃ fd:FuncData,(∀ (s:Shared) (v:Value),BindsTo s fd ⟨[v],[]⟩ [("_law_script",v)])/\∀ base:Heap,K.In base->base.Ns mainGlobals mg->FnOk l.prog w K mg base CX0 8 fa fd ["_law_script"] (spLaw K):=by
 obtain ⟨oc,od,an,sl,kV,dc,pm,cd,ct,a,l0,c,k⟩:=p15
 have e:=hfa.symm.trans (PySem.W.mg_of X G a)
 have e2:f15=fa:=by cases e; rfl
 subst e2
 have B:Blt mg:=⟨PySem.W.mg_none_of X G z0,PySem.W.mg_none_of X G z1,PySem.W.mg_none_of X G z2,PySem.W.mg_none_of X G z3,PySem.W.mg_none_of X G z4,PySem.W.mg_none_of X G z5,PySem.W.mg_none_of X G z6,PySem.W.mg_none_of X G z7,PySem.W.mg_none_of X G z8⟩
 have C:Cst mg:=⟨⟨t0,PySem.W.mg_of X G cst0⟩,⟨t1,PySem.W.mg_of X G cst1⟩,⟨t2,PySem.W.mg_of X G cst2⟩⟩
 obtain ⟨fd0,D0⟩:=pk_def ["thing"] X G p0 fun _ _ _ _ _ _=>us1 (fun _=>rfl)
 obtain ⟨fd1,D1⟩:=pk_def ["begin", "moves"] X G p1 fun _ _ _ _ _ _=>us2 (fun _ _=>rfl)
 obtain ⟨fd2,D2⟩:=pk_def ["move", "many"] X G p2 fun _ _ _ _ _ _=>us2 (fun _ _=>rfl)
 obtain ⟨fd3,D3⟩:=pk_def ["things", "what", "many"] X G p3 fun _ _ _ _ _ _=>us3 (fun _ _ _=>rfl)
 obtain ⟨fd4,D4⟩:=pk_def ["things", "what", "fewest", "most"] X G p4 fun _ _ _ _ _ _=>us4 (fun _ _ _ _=>rfl)
 obtain ⟨fd5,D5⟩:=pk_def ["_law_script", "_law_k"] X G p5 fun _ _ _ _ _ _=>us2 (fun _ _=>rfl)
 obtain ⟨fd6,D6⟩:=pk_def ["_law_cell", "_law_salt", "_law_many"] X G p6 fun _ _ _ _ _ _=>us3 (fun _ _ _=>rfl)
 obtain ⟨fd7,D7⟩:=pk_def ["_law_xs", "_law_kind"] X G p7 fun _ _ _ _ _ _=>us2 (fun _ _=>rfl)
 obtain ⟨fd8,D8⟩:=pk_def ["_law_x"] X G p8 fun _ _ _ _ _ _=>us1 (fun _=>rfl)
 obtain ⟨fd9,D9⟩:=pk_def ["_law_x"] X G p9 fun _ _ _ _ _ _=>us1 (fun _=>rfl)
 obtain ⟨fd10,D10⟩:=pk_def ["_law_part", "_law_x", "_law_y"] X G p10 fun _ _ _ _ _ _=>us3 (fun _ _ _=>rfl)
 obtain ⟨fd11,D11⟩:=pk_def ["_law_move", "_law_x", "_law_y"] X G p11 fun _ _ _ _ _ _=>us3 (fun _ _ _=>rfl)
 obtain ⟨fd12,D12⟩:=pk_def ["_law_begin", "_law_moves", "_law_xs"] X G p12 fun _ _ _ _ _ _=>us3 (fun _ _ _=>rfl)
 obtain ⟨fd13,D13⟩:=pk_def ["_law_error"] X G p13 fun _ _ _ _ _ _=>us1 (fun _=>rfl)
 obtain ⟨fd14,D14⟩:=pk_def ["_law_begin", "_law_moves", "_law_base"] X G p14 fun _ _ _ _ _ _=>us3 (fun _ _ _=>rfl)
 have F15:=fun_mk (st:=slaw) l0 c k
 have D15:Def K mg "law" slaw ["_law_script"] f15 _:=⟨F15,PySem.W.mg_of X G a,F15.binds (ps:=["_law_script"]) fun _ _ _ _ _ _=>us1 (fun _=>rfl)⟩
 have XF:Xf K mg c_MoorError c_NoMoor c_NoName c_NoRow c_NoText c_Stuck:=⟨xok0.1,xok0.2,(fun C z=>by rw [xnd] at z; cases z),n_MoorError,PySem.W.mg_of X G n_MoorError,n_NoMoor,PySem.W.mg_of X G n_NoMoor,n_NoName,PySem.W.mg_of X G n_NoName,n_NoRow,PySem.W.mg_of X G n_NoRow,n_NoText,PySem.W.mg_of X G n_NoText,n_Stuck,PySem.W.mg_of X G n_Stuck,ex_MoorError,ex_NoMoor,ki_MoorError,ki_NoMoor,ki_NoName,ki_NoRow,ki_NoText,ki_Stuck,kt_ValueError⟩
 refine ⟨PySem.W.fnOf "law" "law" (defArgs slaw) (defBody slaw) (defScope slaw) .none kV dc pm an cd ct,fun s v=>.of_eq rfl,fun base _ _=>?_⟩
 have G0:FnOk l.prog w K mg base CX0 1 f0 _ ["thing"] (spM K 1 .F (f_is_count)):=okis_count D0 B C 
 have G4:FnOk l.prog w K mg base (CXW l.prog w) 3 f4 _ ["things", "what", "fewest", "most"] (spR K 4 .F (f_must_be_listed)):=okmust_be_listed D4 B C  XF
 have G3:FnOk l.prog w K mg base (CXW l.prog w) 4 f3 _ ["things", "what", "many"] (spR K 3 .F (f_made_counts)):=okmade_counts D3 B C D4 G4 D0 G0 XF
 have G2:FnOk l.prog w K mg base (CXW l.prog w) 5 f2 _ ["move", "many"] (spR K 2 .F (f_made_move)):=okmade_move D2 B C D4 G4 D3 G3
 have G1:FnOk l.prog w K mg base (CXW l.prog w) 6 f1 _ ["begin", "moves"] (spR K 2 .F (f_moor)):=okmoor D1 B C D4 G4 D3 G3 D2 G2
 have G5:FnOk l.prog w K mg base CX0 1 f5 _ ["_law_script", "_law_k"] (spM K 2 .F (f__law_cell_at)):=ok_law_cell_at D5 B C 
 have G6:FnOk l.prog w K mg base CX0 1 f6 _ ["_law_cell", "_law_salt", "_law_many"] (spM K 3 .F (f__law_stream)):=ok_law_stream D6 B C 
 have G7:FnOk l.prog w K mg base CX0 1 f7 _ ["_law_xs", "_law_kind"] (spM K 2 .F (f__law_counts)):=ok_law_counts D7 B C 
 have G8:FnOk l.prog w K mg base CX0 1 f8 _ ["_law_x"] (spM K 1 .V (f__law_no_count)):=ok_law_no_count D8 B C 
 have G9:FnOk l.prog w K mg base CX0 1 f9 _ ["_law_x"] (spM K 1 .V (f__law_no_list)):=ok_law_no_list D9 B C  XF
 have G10:FnOk l.prog w K mg base CX0 2 f10 _ ["_law_part", "_law_x", "_law_y"] (spM K 3 .V (f__law_wrong_part)):=ok_law_wrong_part D10 B C D9 G9
 have G11:FnOk l.prog w K mg base CX0 3 f11 _ ["_law_move", "_law_x", "_law_y"] (spX K 3 (f__law_wrong_move)):=ok_law_wrong_move D11 B C D9 G9 D10 G10 D8 G8
 have G12:FnOk l.prog w K mg base CX0 4 f12 _ ["_law_begin", "_law_moves", "_law_xs"] (spX K 3 (f__law_spoiled)):=ok_law_spoiled D12 B C D11 G11 D8 G8 D9 G9
 have G13:FnOk l.prog w K mg base CX0 1 f13 _ ["_law_error"] (spM K 1 .F (f__law_no_moor)):=ok_law_no_moor D13 B C  XF
 have G14:FnOk l.prog w K mg base CX0 7 f14 _ ["_law_begin", "_law_moves", "_law_base"] (spM K 3 .F (f__law_refused)):=ok_law_refused D14 B C D13 G13 D1 G1 XF
 have G15:FnOk l.prog w K mg base CX0 8 f15 _ ["_law_script"] (spM K 1 .F (f_law)):=oklaw D15 B C D6 G6 D7 G7 D12 G12 D1 G1 D14 G14 D5 G5
 exact law_of G15 hp
end K05
open PySem PySem.W PyProof.Rows
set_option maxRecDepth 100000 in
set_option maxHeartbeats 0 in
theorem PySem.Challenge.cw_tokenmoor_k05_no_moor_holds : PySem.Challenge.rw_tokenmoor_k05_no_moor.Holds := by
 w_on; o_law; k_head; (case hw=>w_witness2)
 k_fill
 refine L2.walk_ofK (l:=PySem.Challenge.rw_tokenmoor_k05_no_moor) (n:=63) (k:=8) (x := "_law_script") (CX:=L2.CX0) (sp:=K05.spLaw) rfl (by decide) rfl ⟨rfl,by decide,by decide⟩ (fun w h Y=>PySem.W.kIn_of Y) ?F ?S ?C
 case F=>
  intro w mg fa h KX G hmg
  refine' K05.all_mk K05.law_pure KX G hmg ?p0 ?p1 ?p2 ?p3 ?p4 ?p5 ?p6 ?p7 ?p8 ?p9 ?p10 ?p11 ?p12 ?p13 ?p14 ?p15 ?z0 ?z1 ?z2 ?z3 ?z4 ?z5 ?z6 ?z7 ?z8 ?cst0 ?cst1 ?cst2 ?n_MoorError ?n_NoMoor ?n_NoName ?n_NoRow ?n_NoText ?n_Stuck ?xok0 ?xnd ?ex_MoorError ?ex_NoMoor ?ki_MoorError ?ki_NoMoor ?ki_NoName ?ki_NoRow ?ki_NoText ?ki_Stuck ?kt_ValueError
  (case p0=>refine' K05.pk_mk ?a ?l ?c ?k; (case a=>k_is); (case l=>k_is); (case c=>k_is); (case k=>k_is))
  (case p1=>refine' K05.pk_mk ?a ?l ?c ?k; (case a=>k_is); (case l=>k_is); (case c=>k_is); (case k=>k_is))
  (case p2=>refine' K05.pk_mk ?a ?l ?c ?k; (case a=>k_is); (case l=>k_is); (case c=>k_is); (case k=>k_is))
  (case p3=>refine' K05.pk_mk ?a ?l ?c ?k; (case a=>k_is); (case l=>k_is); (case c=>k_is); (case k=>k_is))
  (case p4=>refine' K05.pk_mk ?a ?l ?c ?k; (case a=>k_is); (case l=>k_is); (case c=>k_is); (case k=>k_is))
  (case p5=>refine' K05.pk_mk ?a ?l ?c ?k; (case a=>k_is); (case l=>k_is); (case c=>k_is); (case k=>k_is))
  (case p6=>refine' K05.pk_mk ?a ?l ?c ?k; (case a=>k_is); (case l=>k_is); (case c=>k_is); (case k=>k_is))
  (case p7=>refine' K05.pk_mk ?a ?l ?c ?k; (case a=>k_is); (case l=>k_is); (case c=>k_is); (case k=>k_is))
  (case p8=>refine' K05.pk_mk ?a ?l ?c ?k; (case a=>k_is); (case l=>k_is); (case c=>k_is); (case k=>k_is))
  (case p9=>refine' K05.pk_mk ?a ?l ?c ?k; (case a=>k_is); (case l=>k_is); (case c=>k_is); (case k=>k_is))
  (case p10=>refine' K05.pk_mk ?a ?l ?c ?k; (case a=>k_is); (case l=>k_is); (case c=>k_is); (case k=>k_is))
  (case p11=>refine' K05.pk_mk ?a ?l ?c ?k; (case a=>k_is); (case l=>k_is); (case c=>k_is); (case k=>k_is))
  (case p12=>refine' K05.pk_mk ?a ?l ?c ?k; (case a=>k_is); (case l=>k_is); (case c=>k_is); (case k=>k_is))
  (case p13=>refine' K05.pk_mk ?a ?l ?c ?k; (case a=>k_is); (case l=>k_is); (case c=>k_is); (case k=>k_is))
  (case p14=>refine' K05.pk_mk ?a ?l ?c ?k; (case a=>k_is); (case l=>k_is); (case c=>k_is); (case k=>k_is))
  (case p15=>refine' K05.pk_mk ?a ?l ?c ?k; (case a=>k_is); (case l=>k_is); (case c=>k_is); (case k=>k_is))
  (case z0=>k_is)
  (case z1=>k_is)
  (case z2=>k_is)
  (case z3=>k_is)
  (case z4=>k_is)
  (case z5=>k_is)
  (case z6=>k_is)
  (case z7=>k_is)
  (case z8=>k_is)
  (case cst0=>k_is)
  (case cst1=>k_is)
  (case cst2=>k_is)
  (case n_MoorError=>k_is)
  (case n_NoMoor=>k_is)
  (case n_NoName=>k_is)
  (case n_NoRow=>k_is)
  (case n_NoText=>k_is)
  (case n_Stuck=>k_is)
  (case xok0=>refine' L2.xok0_mk ?lk ?ht ?ty ?be ?kp ?ob ?ga ?gh ?cl ?gt ?tk ?su; (case lk=>k_is); (case ht=>k_exc); (case ty=>k_is); (case be=>k_is); (case kp=>k_is); (case ob=>k_is); (case ga=>k_is); (case gh=>k_is); (case cl=>k_is); (case gt=>k_is); (case tk=>k_is); (case su=>k_is))
  (case xnd=>k_is)
  (case ex_MoorError=>refine' L2.exm_mk ?h0 ?h1 ?h2 ?h3; (case h0=>k_is); (case h1=>k_is); (case h2=>k_is); (case h3=>k_is))
  (case ex_NoMoor=>refine' L2.exm_mk ?h0 ?h1 ?h2 ?h3; (case h0=>k_is); (case h1=>k_is); (case h2=>k_is); (case h3=>k_is))
  (case ki_MoorError=>refine' L2.kitOne_ne ?h0 ?h1 ?h2 ?h3; (case h0=>rfl); (case h1=>k_is); (case h2=>k_is); (case h3=>k_is))
  (case ki_NoMoor=>exact L2.kitOne_self)
  (case ki_NoName=>refine' L2.kitOne_ne ?h0 ?h1 ?h2 ?h3; (case h0=>rfl); (case h1=>k_is); (case h2=>k_is); (case h3=>k_is))
  (case ki_NoRow=>refine' L2.kitOne_ne ?h0 ?h1 ?h2 ?h3; (case h0=>rfl); (case h1=>k_is); (case h2=>k_is); (case h3=>k_is))
  (case ki_NoText=>refine' L2.kitOne_ne ?h0 ?h1 ?h2 ?h3; (case h0=>rfl); (case h1=>k_is); (case h2=>k_is); (case h3=>k_is))
  (case ki_Stuck=>refine' L2.kitOne_ne ?h0 ?h1 ?h2 ?h3; (case h0=>rfl); (case h1=>k_is); (case h2=>k_is); (case h3=>k_is))
  (case kt_ValueError=>refine' L2.kitOne_ty ?h0 ?h3; (case h0=>decide); (case h3=>k_is))
 case S=>exact fun K H a ns hl hO hS=>⟨a,ns,rfl,hS,hl,fun _=>rfl⟩
 case C=>exact fun _ _ _ _ z=>z
